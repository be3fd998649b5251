/-
  Package chunks' isLength, Count and part over this seat's translation. Conditions: a length is an int; a part lies within its slice and is not empty.
  The contract of the iterator that package chunks' lengths returns, over this seat's translation: it yields each chunk's index and length. Condition: the length is from 0 to 65535 and stays in its box.
  The contract of package chunks' Split over this seat's translation. Conditions: the field's constants are those of its modulus; the secret's bytes are readable.
-/
import Derived.Test.YtclehgconbdkpaaDoorChkGrp
import Derived.RangeFuncNested
import Derived.RangeFuncBound
import Derived.RangeFuncCalls
import Derived.RangeFuncLeaves
import Derived.RangeFuncBox
import Derived.RangeFuncFrom
import Derived.Shelf.Abstract
import Derived.Shelf.RegionOpen
import Derived.OwnWalkIn
import Derived.TacticsInMore
import Derived.LoopNIn
import Derived.LoopIn
import Derived.Test.YtclehgconbdkpaaDoorMontAll
import Derived.Test.YtclehgconbdkpaaDoorInvAll
import Derived.Test.YtclehgconbdkpaaDoorBytAll
import Derived.Test.YtclehgconbdkpaaDoorBytRow
namespace Go.Proofs.YtclehgconbdkpaaDoor
section
open Go.RowKit
attribute [local go_sem ↓] Go.wp_at_zero Go.wp_at_succ
set_option maxRecDepth 100000
set_option maxHeartbeats 4000000
/-- A part of a slice of bytes, with three indices. -/
theorem part_lhm (a : Option Addr) (N cap i k : Nat) (hi : i < k) (hk : k ≤ cap) (W : World) : (Instr.slice 24 (.slice a N cap) (some (.int .i64 (i : Int))) (some (.int .i64 (k : Int))) (some (.int .i64 (k : Int)))).run Tryd.prog W = .ok (.slice (a.map (·.add i)) (k - i) (k - i)) W := by
  rw [run_slice_lhm W 24 _ _ _ (by rw [byte_elem]; exact Tryd.underlying24) .i64 .i64 .i64 _ _ _ (by omega) (by omega) (by omega) (by omega), byte_elem, Tryd.sizeOf5]
  simp only [Result.andThen, sliced, Int.toNat_natCast, Nat.mul_one]
  rw [if_neg (by omega)]
theorem part_ex (a : Option Addr) (N cap i n : Nat) (hp : 0 < n) (hN : 31 * i + n ≤ N) (hc : N ≤ cap) (hm : N ≤ 100000) (w : World) :
    Calls Tryd.prog 61 #[.slice a N cap, .int .i64 (i : Int), .int .i64 (n : Int)] w fun e w' => e = .returned (.slice (a.map (·.add (31 * i))) n n) ∧ w' = w := by
  obtain ⟨q, hq⟩ : ∃ q, q = 31 * i := ⟨_, rfl⟩
  obtain ⟨k, hk⟩ : ∃ k, k = q + n := ⟨_, rfl⟩
  have w1 : IntKind.i64.wrap ((i : Int) * 31) = (q : Int) := by rw [IntKind.wrap_i64]; omega
  have w2 : IntKind.i64.wrap ((q : Int) + (n : Int)) = (k : Int) := by rw [IntKind.wrap_i64]; omega
  have hs := part_lhm a N cap q k (by omega) (by omega)
  rw [show k - q = n by omega] at hs
  rw [← hq] at *
  clear hq hk hp hN hc hm
  go_enter Tryd.func61, Tryd.ntmps61
  go_wp2
  go_ret
  exact ⟨rfl, rfl⟩
/-- What a part holds. -/
theorem part_at {W : World} {a : Option Addr} {bs : List Nat} {S : Nat → Prop} (h : BsAt W a bs S) (i : Nat) : BsAt W (a.map (·.add (31 * i))) (chk bs i) S := by
  intro hp
  have hl : 31 * i < bs.length := by rw [chk_len] at hp; unfold chkN at hp; omega
  obtain ⟨b, o, rfl, hS, hx⟩ := h (by omega)
  refine ⟨b, o + 31 * i, by simp [Addr.add_lit], hS, fun j x hj => ?_⟩
  unfold chk at hj
  rw [List.getElem?_take] at hj
  split at hj
  · rw [List.getElem?_drop] at hj
    rw [Nat.add_assoc]
    exact hx _ x hj
  · cases hj
end
section
open Go.RowKit Go.Shelf
theorem wide_fnC (f : Nat) : Fence.wide.fn f = True := rfl
attribute [local go_sem] Oper.semAt_some wide_fnC
/-- The box B holds the length M. -/
def LenAt (B M : Nat) (W : World) : Prop := W.cell? ⟨B, 0, none⟩ = some (.int .i64 (M : Int))
theorem LenAt.kept {B M : Nat} {w w' : World} {row : Option Nat} (h : LenAt B M w) (hg : w.grownBy w' row) (hr : ∀ r, row = some r → ∃ o : Obj, w.heap[r]? = some o ∧ o.isCells = false) : LenAt B M w' := cell_kept h hg hr
theorem lenK_b {B M n : Nat} (W : World) (l : Nat) (o o' : Obj) (_ : n ≤ l) (h : W.heap[l]? = some o) (hc : o.isCells = false) (_ : o.isWalk = false) : LenAt B M W → LenAt B M (W.putObj l o') :=
  fun hr => hr.kept (grownBy_putObj' W l o') (fun r e => by cases e; exact ⟨o, h, hc⟩)
theorem finR_val (c : Nat) : (List.finRange c).map Fin.val = List.range c := List.ext_getElem (by simp) (fun i h1 h2 => by simp)
/-- The first k indices below c. -/
def firstF (c k : Nat) : List (Fin c) := (List.finRange c).take k
theorem firstF_val (c k : Nat) (h : k ≤ c) : (firstF c k).map Fin.val = List.range k := by
  unfold firstF
  rw [List.map_take, finR_val, List.take_range, Nat.min_eq_left h]
theorem firstF_length (c k : Nat) (h : k ≤ c) : (firstF c k).length = k := by unfold firstF; simp; omega
theorem firstF_succ (c k : Nat) (h : k < c) : firstF c (k + 1) = firstF c k ++ [⟨k, h⟩] := by
  unfold firstF
  rw [List.take_add_one]
  congr 1
  simp [h]
theorem firstF_all (c : Nat) : firstF c c = List.finRange c := by unfold firstF; rw [List.take_of_length_le (by simp)]

set_option maxRecDepth 100000 in
set_option maxHeartbeats 2000000 in
theorem lens1_in (n : Nat) (hn : 1 ≤ n) (l B M : Nat) (hM : M ≤ 65535) (J Jx : List (Fin (cntN M)) → World → Prop) (W : World)
    (hJ : ∀ s A B, J s A → A.grownBy B none → J s B)
    (hY : ∀ (pre : List (Fin (cntN M))) (x : Fin (cntN M)) W, J pre W → pre.length < cntN M → YieldAt Fence.wide (n - 1) Tryd.prog l #[.int .i64 (x.val : Int), .int .i64 (chkN M x.val : Int)] W fun e W' =>
      (e = .returned (.bool true) ∧ J (pre ++ [x]) W' ∧ (LenAt B M W → LenAt B M W')) ∨ (e = .returned (.bool false) ∧ Jx (pre ++ [x]) W'))
    (hR : LenAt B M W) (h0 : J [] W) :
    CallsIn Fence.wide n Tryd.prog 82 #[.func (.yield l) #[] #[], .pointer (some ⟨B, 0, none⟩)] W fun e W' => (∃ v, e = .returned v) ∧
      ((∃ ys, ys = List.finRange (cntN M) ∧ J ys W') ∨ (∃ pre, (∃ k, k < cntN M ∧ pre = firstF (cntN M) (k + 1)) ∧ Jx pre W')) := by
  refine callsIn_of_wp Tryd.func82 rfl trivial ?_ rfl
  simp only [Tryd.ntmps82, List.size_toArray, List.length_cons, List.length_nil, Nat.reduceAdd, Nat.reduceSub, Array.replicate_succ, Array.replicate_zero, List.push_toArray, List.append_toArray, List.nil_append, List.cons_append]
  have hmx : Tryd.prog.follows .mixedOrders = true := by kernel_rfl
  have hC := fun w' => callsIn_wide (n := n - 1).2 (count_ex (M : Int) (wf_small hM) w')
  rw [show cntI (M : Int) = cntN M by unfold cntI; rw [if_pos (by omega), Int.toNat_natCast]] at hC
  have r0 : W.cell? ⟨B, 0, none⟩ = some (.int .i64 (M : Int)) := hR
  obtain ⟨c, hc⟩ : ∃ c, c = cntN M := ⟨_, rfl⟩
  have HC := Lib.hid hc
  have HR := Lib.hid hR
  have hcm : c ≤ 2200 := by rw [hc]; unfold cntN; omega
  have HS := Lib.hid (show ∀ k, k < c → 31 * k < M ∧ min 31 ((M : Int) - (31 * k : Nat)) = (chkN M k : Int) from fun k hk => by rw [hc] at hk; unfold cntN at hk; unfold chkN; omega)
  rw [← hc] at hC
  clear hc hR
  gi_wp2
  refine (hC _).mono ?_
  rintro e w' ⟨rfl, rfl⟩
  gi_wp2
  gi_loopw [6] (fun i wr => ∃ k : Nat, k ≤ c ∧ i = .int .i64 (k : Int) ∧ J (firstF (cntN M) k) wr ∧ LenAt B M wr) (fun i _ => c - (intOf i).toNat)
  case atStart => exact ⟨0, Nat.zero_le _, by simp, hJ _ _ _ h0 ⟨rfl, rfl, rfl, Nat.le_refl _, fun _ _ _ => rfl⟩, HR.out⟩
  case round =>
    obtain ⟨k, hk, rfl, hJs, hRd⟩ := hrel
    have t1 : wr.cell? ⟨B, 0, none⟩ = some (.int .i64 (M : Int)) := hRd
    by_cases hlt : k < c
    · obtain ⟨h31, hmn⟩ := HS.out k hlt
      obtain ⟨q, hq⟩ : ∃ q, q = 31 * k := ⟨_, rfl⟩
      rw [← hq] at h31 hmn
      have w1 : IntKind.i64.wrap ((k : Int) * 31) = (q : Int) := by rw [IntKind.wrap_i64]; omega
      have w2 : IntKind.i64.wrap ((M : Int) - (q : Int)) = (M : Int) - (q : Int) := by rw [IntKind.wrap_i64]; omega
      have w3 : IntKind.i64.wrap ((k : Int) + 1) = (k : Int) + 1 := by rw [IntKind.wrap_i64]; omega
      have i1 : (k : Int) < (c : Int) := by omega
      have hlt2 : k < cntN M := by have := HC.out; omega
      obtain ⟨fn, tmps, assign, body, hy, hround⟩ := hY _ ⟨k, hlt2⟩ wr hJs (by rw [firstF_length _ _ (by omega)]; exact hlt2)
      rw [← firstF_succ] at hround
      obtain ⟨d, hd⟩ : ∃ d, d = chkN M k := ⟨_, rfl⟩
      rw [← hd] at hmn
      dsimp only at hy hround
      rw [← hd] at hy
      have HRd := Lib.hid hRd
      clear hq hd hRd
      gi_wp2
      refine hround.mono ?_
      rintro r W3 (⟨rfl, hJ3, hk3⟩ | ⟨rfl, hJx3⟩)
      · have hRd3 := hk3 HRd.out
        clear hk3 hround hy
        gi_wp2
        go_roundw
        case rel => exact ⟨k + 1, by omega, by simp, hJ3, hRd3⟩
        case measure => simp [intOf]; omega
      · clear hround hy
        gi_wp2
        refine bodyPost_ret (results_none rfl _ _ _) rfl ?_
        exact ⟨⟨_, rfl⟩, .inr ⟨_, ⟨k, hlt2, rfl⟩, hJx3⟩⟩
    · obtain rfl : k = c := by omega
      have i1 : ¬ (k : Int) < (k : Int) := by omega
      gi_wp2
      go_end0
      rw [HC.out, firstF_all] at hJs
      first | exact ⟨⟨_, rfl⟩, .inl ⟨_, rfl, hJs⟩⟩ | exact ⟨⟨_, rfl⟩, .inl hJs⟩

set_option maxHeartbeats 400000 in
theorem lens_any (m : Int) (w : World) :
    Calls Tryd.prog 59 #[.int .i64 m] w fun e w' => e = .returned (.func (.func 82) #[] #[.pointer (some ⟨w.heap.size, 0, none⟩)]) ∧ w' = w.alloc (.cells #[.int .i64 m] 3) := by
  go_enter Tryd.func59, Tryd.ntmps59
  go_wp2
  go_ret
  exact ⟨rfl, rfl⟩
/-- The iterator as a loop takes it. -/
theorem lens_stops (n : Nat) (hn : 1 ≤ n) (B M : Nat) (hM : M ≤ 65535) (w : World) (hi : LenAt B M w) :
    SeqStopsK Fence.wide n Tryd.prog 82 #[.pointer (some ⟨B, 0, none⟩)] (fun x : Fin (cntN M) => #[.int .i64 (x.val : Int), .int .i64 (chkN M x.val : Int)]) (fun A C => LenAt B M A → LenAt B M C)
      (fun ys => ys = List.finRange (cntN M)) (fun pre => ∃ k, k < cntN M ∧ pre = firstF (cntN M) (k + 1)) (cntN M) w := fun l J Jx W hW hJ _ hY h0 => by
  have hg : w.grownBy W none := ⟨hW.os, hW.tape, hW.output, hW.size, fun k hk _ => hW.block k hk⟩
  exact lens1_in n hn l B M hM J Jx W (fun x A B hx hg => hJ x A B none hx hg (fun r e => by cases e)) (fun pre x W1 hj hlen => hY pre x W1 hj hlen)
    (hg.cell hi (by simp)) h0
/-- 'What lay outside S lies as it lay' abides the turn of a later block. -/
theorem Off.laterC {S : Nat → Prop} {w W W' : World} {row : Option Nat} (h : Off S w W) (hg : W.grownBy W' row) (hr : ∀ r, row = some r → w.heap.size ≤ r) : Off S w W' :=
  ⟨hg.os.trans h.os, hg.tape.trans h.tape, hg.output.trans h.output, Nat.le_trans h.size hg.size,
    fun k hk hn => (hg.block k (Nat.lt_of_lt_of_le hk h.size) (fun e => by have := hr k e.symm; omega)).trans (h.block k hk hn),
    fun k o hk ho => by
      have h1 := h.others k o hk ho
      exact (hg.block k (heap_lt h1) (fun e => by have := hr k e.symm; have := heap_lt hk; omega)).trans h1⟩
end
section
open Go.RowKit
attribute [local go_sem] Oper.semAt_some wide_fnC
theorem range_snoc {α : Type} (f : α → Nat) {pre : List α} {x : α} (h : (pre ++ [x]).map f = List.range (pre ++ [x]).length) : pre.map f = List.range pre.length ∧ f x = pre.length := by
  rw [List.map_append, List.length_append, List.length_singleton, List.range_succ] at h
  obtain ⟨h1, h2⟩ := List.append_inj' h rfl
  exact ⟨h1, by simpa using h2⟩
theorem take_set_next {L : List Nat} {k : Nat} (h : k < L.length) (z : Nat) : (L.set k z).take (k + 1) = L.take k ++ [z] := by
  rw [List.take_add_one]
  congr 1
  · rw [List.take_set_of_le (Nat.le_refl _)]
  · simp [h]
theorem Old.putAtC {l : Nat → Bool} {s : Nat} {b o : Nat} {W0 w : World} {Z X : Obj} {vs : List Value} (h : Old l s b W0 w Z X) (hX : w.heap[b]? = some Z → (w.setCells b o vs).heap[b]? = some X) (hl : l s = false) :
    Old (upd l s) s b W0 (w.setCells b o vs) Z X :=
  ⟨h.lt, fun h2 => (by rw [upd_same] at h2; cases h2), fun _ => hX (h.was hl)⟩
/-- Between two rounds: the list's numbers so far. -/
def SplI (p : Nat) (bs : List Nat) (c arr : Nat) (pre : List (Fin (cntN bs.length))) (W : World) : Prop :=
  ∃ L : List Nat, L.length = c ∧ NumsAt W arr 66 L ∧ (pre.map Fin.val = List.range pre.length → L.take pre.length = (splitK bs pre.length).map (fm p))
theorem SplI.next {p : Nat} {bs L : List Nat} {c arr : Nat} {pre : List (Fin (cntN bs.length))} {x : Fin (cntN bs.length)} {W' : World} (hc : c = cntN bs.length) (hL : L.length = c)
    (hp : pre.map Fin.val = List.range pre.length → L.take pre.length = (splitK bs pre.length).map (fm p)) (h : NumsAt W' arr 66 (L.set x.val (fm p (numB (chk bs x.val))))) : SplI p bs c arr (pre ++ [x]) W' := by
  refine ⟨_, by rw [List.length_set, hL], h, fun hr => ?_⟩
  obtain ⟨h1, h2⟩ := range_snoc Fin.val hr
  have hx := x.isLt
  rw [List.length_append, List.length_singleton, h2, take_set_next (by rw [hL, hc, ← h2]; exact hx), hp h1, splitK_succ, List.map_append]
  rfl
theorem pack_chunk {id : Int} {p i0 r s : Nat} (hF : Fld id p i0 r s) (a : Option Addr) (cap : Nat) (bs : List Nat) (S : Nat → Prop) (w : World) (hb : BsAt w a bs S) (hs : Small bs) (hl : bs.length ≤ 31) :
    Calls Tryd.prog 60 #[FV id p i0 r s, .slice a bs.length cap] w fun e w' => e = .returned (.tuple #[V (fm p (numB bs)), .int .i64 0]) ∧ Off (fun _ => False) w w' := by
  have h := pack_any hF a bs.length cap bs S w hb rfl hs
  rw [show packV p bs = (fm p (numB bs), 0) by unfold packV; rw [if_pos hl]] at h
  exact h
set_option maxRecDepth 100000 in
set_option maxHeartbeats 4000000 in
theorem split_any {id : Int} {p i0 r s : Nat} (hF : Fld id p i0 r s) (a : Option Addr) (n cap : Nat) (bs : List Nat) (S : Nat → Prop) (w : World) (hb : BsAt w a bs S) (hn : n = bs.length) (hcap : n ≤ cap) (hs : Small bs) (hl : n ≤ 65535) :
    Calls Tryd.prog 33 #[FV id p i0 r s, .slice a n cap] w fun e w' => ∃ a2 c2, e = .returned (.tuple #[.slice a2 (cntN n) c2, .int .i64 0]) ∧ Ls w' (.slice a2 (cntN n) c2) ((splitV bs).map (fm p)) ∧ Off (fun _ => False) w w' := by
  subst hn
  obtain ⟨n, hn⟩ : ∃ n, n = bs.length := ⟨_, rfl⟩
  have HN := Lib.hid hn
  have hb := hb.old
  rw [← hn] at hcap hl ⊢
  refine (callsIn_wide (n := 3)).1 ?_
  refine callsIn_of_wp_marks Tryd.func33 rfl trivial ?_ rfl
  simp only [Tryd.ntmps33, List.size_toArray, List.length_cons, List.length_nil, Nat.reduceAdd, Nat.reduceSub, Array.replicate_succ, Array.replicate_zero, List.push_toArray, List.append_toArray, List.nil_append, List.cons_append]
  have hmx : Tryd.prog.follows .mixedOrders = true := by kernel_rfl
  obtain ⟨c, hc⟩ : ∃ c, c = cntN n := ⟨_, rfl⟩
  have hcm : c ≤ 2200 := by rw [hc]; unfold cntN; omega
  have hIs := fun w' => callsIn_wide (n := 3 - 1).2 (islength_any (n : Int) (wf_small hl) w')
  rw [show decide (0 ≤ (n : Int) ∧ (n : Int) ≤ 65535) = true from decide_eq_true ⟨by omega, by omega⟩] at hIs
  have hCn := fun w' => callsIn_wide (n := 3 - 1).2 (count_ex (n : Int) (wf_small hl) w')
  rw [show cntI (n : Int) = c by unfold cntI; rw [if_pos (by omega), Int.toNat_natCast, hc]] at hCn
  have hLn := fun w' => callsIn_wide (n := 3 - 1).2 (lens_any (n : Int) w')
  have hmk := run_make_el c (by omega)
  have HF := Lib.hid hF
  have HB := Lib.hid hb
  have HS := Lib.hid hs
  have HL := Lib.hid hl
  have HCap := Lib.hid hcap
  have HC := Lib.hid hc
  have HCM := Lib.hid hcm
  rw [← hc]
  clear hF hb hs hcap hc hn hl hcm
  gi_wp2_with (first | (gi_at_call 58; refine (hIs _).mono ?_; rintro e w' ⟨rfl, rfl⟩) | (gi_at_call 57; refine (hCn _).mono ?_; rintro e w' ⟨rfl, rfl⟩) | (gi_at_call 59; refine (hLn _).mono ?_; rintro e w' ⟨rfl, rfl⟩))
  clear hIs hCn hLn hmk
  obtain ⟨W8, hW8⟩ : ∃ W8, W8 = ((((w.alloc (.cells #[.int .i64 id, .int .u64 (wd p 0 : Int), .int .u64 (wd p 1 : Int), .int .u64 (wd p 2 : Int), .int .u64 (wd p 3 : Int), .int .u64 (i0 : Int), .int .u64 (wd r 0 : Int), .int .u64 (wd r 1 : Int), .int .u64 (wd r 2 : Int), .int .u64 (wd r 3 : Int), .int .u64 (wd s 0 : Int), .int .u64 (wd s 1 : Int), .int .u64 (wd s 2 : Int), .int .u64 (wd s 3 : Int)] 73)).alloc (.cells #[.slice a n cap] 24)).alloc (.cells (flat4 (List.replicate c 0)).toArray 66)).alloc (.cells #[.slice (some ⟨w.heap.size + 1 + 1, 0, none⟩) c c] 47)).alloc (.cells #[.int .i64 (n : Int)] 3) := ⟨_, rfl⟩
  have hOW8 : Off (fun _ => False) w W8 := by rw [hW8]; exact (((((Off.refl _ w).alloc _).alloc _).alloc _).alloc _).alloc _
  have g_bf : W8.heap[w.heap.size]? = some (.cells #[.int .i64 id, .int .u64 (wd p 0 : Int), .int .u64 (wd p 1 : Int), .int .u64 (wd p 2 : Int), .int .u64 (wd p 3 : Int), .int .u64 (i0 : Int), .int .u64 (wd r 0 : Int), .int .u64 (wd r 1 : Int), .int .u64 (wd r 2 : Int), .int .u64 (wd r 3 : Int), .int .u64 (wd s 0 : Int), .int .u64 (wd s 1 : Int), .int .u64 (wd s 2 : Int), .int .u64 (wd s 3 : Int)] 73 (0, 0)) := by rw [hW8]; exact heap_old' (heap_old' (heap_old' (heap_old' (heap_new' rfl _) _) _) _) _
  have g_bb : W8.heap[w.heap.size + 1]? = some (.cells #[.slice a n cap] 24 (0, 0)) := by rw [hW8]; exact heap_old' (heap_old' (heap_old' (heap_new' (by simp) _) _) _) _
  have g_arr : W8.heap[w.heap.size + 1 + 1]? = some (.cells (flat4 (List.replicate c 0)).toArray 66 (0, 0)) := by rw [hW8]; exact heap_old' (heap_old' (heap_new' (by simp) _) _) _
  have g_sb : W8.heap[w.heap.size + 1 + 1 + 1]? = some (.cells #[.slice (some ⟨w.heap.size + 1 + 1, 0, none⟩) c c] 47 (0, 0)) := by rw [hW8]; exact heap_old' (heap_new' (by simp) _) _
  have g_lb : W8.heap[w.heap.size + 1 + 1 + 1 + 1]? = some (.cells #[.int .i64 (n : Int)] 3 (0, 0)) := by rw [hW8]; exact heap_new' (by simp) _
  have hsW8 : W8.heap.size = w.heap.size + 1 + 1 + 1 + 1 + 1 := by rw [hW8]; simp
  rw [← hW8]
  obtain ⟨lb, e_lb⟩ : ∃ lb, lb = w.heap.size + 1 + 1 + 1 + 1 := ⟨_, rfl⟩
  rw [← e_lb] at g_lb ⊢
  obtain ⟨sb, e_sb⟩ : ∃ sb, sb = w.heap.size + 1 + 1 + 1 := ⟨_, rfl⟩
  rw [← e_sb] at g_sb ⊢
  obtain ⟨arr, e_arr⟩ : ∃ arr, arr = w.heap.size + 1 + 1 := ⟨_, rfl⟩
  rw [← e_arr] at g_arr g_sb ⊢
  obtain ⟨bb, e_bb⟩ : ∃ bb, bb = w.heap.size + 1 := ⟨_, rfl⟩
  rw [← e_bb] at g_bb ⊢
  obtain ⟨bf, e_bf⟩ : ∃ bf, bf = w.heap.size := ⟨_, rfl⟩
  rw [← e_bf] at g_bf ⊢
  have HBk := Lib.hid (show bf = w.heap.size ∧ bb = w.heap.size + 1 ∧ arr = w.heap.size + 1 + 1 ∧ sb = w.heap.size + 1 + 1 + 1 ∧ lb = w.heap.size + 1 + 1 + 1 + 1 ∧ W8.heap.size = w.heap.size + 1 + 1 + 1 + 1 + 1 from ⟨e_bf, e_bb, e_arr, e_sb, e_lb, hsW8⟩)
  clear hW8 hsW8 e_bf e_bb e_arr e_sb e_lb
  have hLen : LenAt lb bs.length W8 := by unfold LenAt; rw [← HN.out]; exact cell_of_heap g_lb 0
  have hsq := lens_stops (3 - 1) (by omega) lb bs.length (by have := HL.out; have := HN.out; omega) W8 hLen
  have h80 : W8.heap[bf]? = some (.cells #[.int .i64 id, .int .u64 (wd p 0 : Int), .int .u64 (wd p 1 : Int), .int .u64 (wd p 2 : Int), .int .u64 (wd p 3 : Int), .int .u64 (i0 : Int), .int .u64 (wd r 0 : Int), .int .u64 (wd r 1 : Int), .int .u64 (wd r 2 : Int), .int .u64 (wd r 3 : Int), .int .u64 (wd s 0 : Int), .int .u64 (wd s 1 : Int), .int .u64 (wd s 2 : Int), .int .u64 (wd s 3 : Int)] 73 (0, 0)) ∧ W8.heap[bb]? = some (.cells #[.slice a n cap] 24 (0, 0)) ∧ W8.heap[sb]? = some (.cells #[.slice (some ⟨arr, 0, none⟩) c c] 47 (0, 0)) ∧ SplI p bs c arr [] W8 ∧ Off (fun _ => False) w W8 := ⟨g_bf, g_bb, g_sb, ⟨List.replicate c 0, List.length_replicate, g_arr, fun _ => rfl⟩, hOW8⟩
  have H80 := Lib.hid h80
  have HSq := Lib.hid hsq
  clear h80 hsq hLen g_bf g_bb g_sb g_lb g_arr hOW8
  refine wpIn_rangeFunc_ownH (F := Fence.wide) (n := 3) rfl (by omega) (gf := 82) (lb := #[.pointer (some ⟨lb, 0, none⟩)]) rfl trivial (enters_of Tryd.func82 (by kernel_rfl) rfl)
    HSq.out (fun h k x => k (h x)) (fun W l o o' hl h hc hw => lenK_b W l o o' hl h hc hw) (Below.refl _ _) (fun _ => by rfl)
    (fun pre W => W.heap[bf]? = some (.cells #[.int .i64 id, .int .u64 (wd p 0 : Int), .int .u64 (wd p 1 : Int), .int .u64 (wd p 2 : Int), .int .u64 (wd p 3 : Int), .int .u64 (i0 : Int), .int .u64 (wd r 0 : Int), .int .u64 (wd r 1 : Int), .int .u64 (wd r 2 : Int), .int .u64 (wd r 3 : Int), .int .u64 (wd s 0 : Int), .int .u64 (wd s 1 : Int), .int .u64 (wd s 2 : Int), .int .u64 (wd s 3 : Int)] 73 (0, 0)) ∧ W.heap[bb]? = some (.cells #[.slice a n cap] 24 (0, 0)) ∧ W.heap[sb]? = some (.cells #[.slice (some ⟨arr, 0, none⟩) c c] 47 (0, 0)) ∧ SplI p bs c arr pre W ∧ Off (fun _ => False) w W)
    (fun _ _ _ => False)
    (fun pre A B row hs hg hr => by
      obtain ⟨h1, h2, h3, ⟨L, hL, h4, h5⟩, h6⟩ := hs
      have hr' : ∀ r, row = some r → ∃ o : Obj, A.heap[r]? = some o ∧ o.isCells = false := fun r e => (hr r e).2
      exact ⟨(grownBy_keeps_cells hg hr' h1 rfl).trans h1, (grownBy_keeps_cells hg hr' h2 rfl).trans h2, (grownBy_keeps_cells hg hr' h3 rfl).trans h3, ⟨L, hL, (grownBy_keeps_cells hg hr' h4 rfl).trans h4, h5⟩, h6.laterC hg (fun r e => by have := (hr r e).1; have hb := HBk.out; omega)⟩)
    (fun _ _ _ _ _ hs _ _ => hs)
    H80.out
    (fun x a' W => a' = { tmps := #[FV id p i0 r s, .slice a n cap, .pointer (some ⟨bf, 0, none⟩), .pointer (some ⟨bb, 0, none⟩), .slice none 0 0, .int .i64 0, .pointer (some ⟨sb, 0, none⟩), .int .i64 (x.val : Int), .int .i64 (chkN bs.length x.val : Int), .slice a n cap, .int .i64 (n : Int), .bool true, .bool false, .slice a n cap, .int .i64 (n : Int), .int .i64 (c : Int), .slice (some ⟨arr, 0, none⟩) c c, .slice a n cap, .int .i64 (n : Int), .func (.func 82) #[] #[.pointer (some ⟨lb, 0, none⟩)], .int .i64 (x.val : Int), .int .i64 (chkN bs.length x.val : Int), undef, undef, undef, undef, undef, undef, undef, undef, undef, undef, undef, undef, undef], defers := [] })
    (fun x a' _ A C row hs hg hr => hs)
    ?assign ?body ?done ?stop
  case assign =>
    rintro l pre x W K hI hK
    clear HSq
    have HI := Lib.hid hI
    have HKf := Lib.hid hK
    clear hI hK
    gi_wp2
    exact HKf.out _ _ ((KeepsOthers.refl _).from _) (fun h => h) HI.out rfl
  case body =>
    rintro l pre x a' W _ _ ⟨h1, h2, h3, ⟨L, hLc, h4, h5⟩, h6⟩ rfl hlen
    have HNx := Lib.hid (fun (W' : World) (h : NumsAt W' arr 66 (L.set x.val (fm p (numB (chk bs x.val))))) => SplI.next (by rw [← HN.out]; exact HC.out) hLc h5 h)
    obtain ⟨j, hj⟩ : ∃ j, j = x.val := ⟨_, rfl⟩
    have hjc : j < c := by have := x.isLt; rw [hj, HC.out, HN.out]; exact this
    rw [← hj] at HNx ⊢
    have hck : (chk bs j).length = chkN bs.length j := by rw [chk_len]
    obtain ⟨d, hd⟩ : ∃ d, d = chkN bs.length j := ⟨_, rfl⟩
    rw [← hd] at hck ⊢
    have hd0 : 0 < d := by rw [hd]; exact chkN_pos (by rw [← HN.out, ← HC.out]; exact hjc)
    have hd1 : d ≤ 31 := by rw [hd]; exact chkN_le _ _
    have hdn : 31 * j + d ≤ n := by have := HC.out; rw [hd, ← HN.out]; unfold chkN; unfold cntN at this; omega
    obtain ⟨z, hz⟩ : ∃ z, z = fm p (numB (chk bs j)) := ⟨_, rfl⟩
    rw [← hz] at HNx
    obtain ⟨a1, ha1⟩ : ∃ a1, a1 = a.map (·.add (31 * j)) := ⟨_, rfl⟩
    have HPa := Lib.hid (show ∀ W, Calls Tryd.prog 61 #[.slice a n cap, .int .i64 (j : Int), .int .i64 (d : Int)] W fun e w' => e = .returned (.slice a1 d d) ∧ Off (fun _ => False) W w' from fun W => by
      refine (part_ex a n cap j d hd0 hdn HCap.out (by have := HL.out; omega) W).mono ?_
      rintro e w' ⟨rfl, rfl⟩
      exact ⟨by rw [ha1], Off.refl _ _⟩)
    have HPk := Lib.hid (show ∀ A, Off (fun k => k = arr) W A → Calls Tryd.prog 60 #[FV id p i0 r s, .slice a1 d d] A fun e w' => e = .returned (.tuple #[V z, .int .i64 0]) ∧ Off (fun _ => False) A w' from fun A hA => by
      have hBA : BsAt A a bs (fun k => k < w.heap.size) := (HB.out.off h6 (fun _ _ _ c => c)).off hA (fun k _ h1 h2 => by have hb := HBk.out; omega)
      have h := pack_chunk HF.out a1 d (chk bs j) _ A (ha1 ▸ part_at hBA j) (chk_small HS.out j) (by omega)
      rw [hck, ← hz] at h
      exact h)
    have hoj : L[j]? = some (L.getD j 0) := by rw [List.getD_eq_getElem?_getD, List.getElem?_eq_getElem (by omega)]; rfl
    have hjI : (j : Int) < (c : Int) := by omega
    have HOj := Lib.hid hoj
    have HPt := Lib.hid (show ∀ W : World, W.heap[arr]? = some (.cells (flat4 L).toArray 66 (0, 0)) → (W.setCells arr (j * 4) (words4 z)).heap[arr]? = some (.cells (flat4 (L.set j z)).toArray 66 (0, 0)) from fun W h => NumsAt.store h (by omega) z)
    have HAr : Hid (W.heap[arr]? = some (.cells (flat4 L).toArray 66 (0, 0))) := Lib.hid h4
    have H1 := Lib.hid h1
    have H2 := Lib.hid h2
    have H3 := Lib.hid h3
    have H6 := Lib.hid h6
    have HK : Hid (∀ A, Off (fun k => k = arr) W A → (A.cell? ⟨sb, 0, none⟩ = some (.slice (some ⟨arr, 0, none⟩) c c)) ∧ (A.cell? ⟨bf, 0, none⟩ = some (.int .i64 id) ∧ A.cell? ⟨bf, 1, none⟩ = some (.int .u64 (wd p 0 : Int)) ∧ A.cell? ⟨bf, 2, none⟩ = some (.int .u64 (wd p 1 : Int)) ∧ A.cell? ⟨bf, 3, none⟩ = some (.int .u64 (wd p 2 : Int)) ∧ A.cell? ⟨bf, 4, none⟩ = some (.int .u64 (wd p 3 : Int)) ∧ A.cell? ⟨bf, 5, none⟩ = some (.int .u64 (i0 : Int)) ∧ A.cell? ⟨bf, 6, none⟩ = some (.int .u64 (wd r 0 : Int)) ∧ A.cell? ⟨bf, 7, none⟩ = some (.int .u64 (wd r 1 : Int)) ∧ A.cell? ⟨bf, 8, none⟩ = some (.int .u64 (wd r 2 : Int)) ∧ A.cell? ⟨bf, 9, none⟩ = some (.int .u64 (wd r 3 : Int)) ∧ A.cell? ⟨bf, 10, none⟩ = some (.int .u64 (wd s 0 : Int)) ∧ A.cell? ⟨bf, 11, none⟩ = some (.int .u64 (wd s 1 : Int)) ∧ A.cell? ⟨bf, 12, none⟩ = some (.int .u64 (wd s 2 : Int)) ∧ A.cell? ⟨bf, 13, none⟩ = some (.int .u64 (wd s 3 : Int))) ∧ (A.cell? ⟨bb, 0, none⟩ = some (.slice a n cap)) ∧ Off (fun k => k = arr) W A) := Lib.hid (fun A h => ⟨cell_of_heap (h.heap h3 (by have hb := HBk.out; omega)) 0, fv_cells (h.heap h1 (by have hb := HBk.out; omega)), cell_of_heap (h.heap h2 (by have hb := HBk.out; omega)) 0, h⟩)
    clear h1 h2 h3 h4 h5 h6 hz hj hLc hoj ha1 hck hd hd0 hd1 hdn HSq H80
    gi_wp2
    refine wpIn_region_inv (fun a0 l a' w' => ∃ (u23 : Value) (u24 : Value) (u25 : Value) (u26 : Value) (u27 : Value) (u28 : Value) (u29 : Value) (u30 : Value) (u22 : Value) (u31 : Value) (u32 : Value) (u33 : Value), a' = (Act.put (Act.put (Act.put (Act.put (Act.put (Act.put (Act.put (Act.put (Act.put (Act.put (Act.put (Act.put a0 (some 23) u23) (some 24) u24) (some 25) u25) (some 26) u26) (some 27) u27) (some 28) u28) (some 29) u29) (some 30) u30) (some 22) u22) (some 31) u31) (some 32) u32) (some 33) u33) ∧ Slot l 0 u23 (.slice (some ⟨arr, 0, none⟩) c c) ∧ Slot l 1 u24 (.int .i64 (j : Int)) ∧ Slot l 2 u25 (FV id p i0 r s) ∧ Slot l 3 u26 (.slice a n cap) ∧ Slot l 4 u27 (.int .i64 (j : Int)) ∧ Slot l 5 u28 (.int .i64 (d : Int)) ∧ Slot l 6 u29 (.slice a1 d d) ∧ Slot l 7 u30 (.tuple #[V z, .int .i64 0]) ∧ Slot l 8 u22 (.tuple #[V z, .int .i64 0]) ∧ Slot l 9 u31 (V z) ∧ Slot l 10 u32 (.int .i64 0) ∧ Slot l 11 u33 (.pointer (some ⟨arr, j * 4, none⟩)) ∧ Old l 12 arr W w' (.cells (flat4 L).toArray 66) (.cells (flat4 (L.set j z)).toArray 66) ∧ Off (fun k => k = arr) W w') (by kernel_rfl) (by kernel_rfl) (by kernel_rfl) ?_ ⟨?_, ?_, ?_, ?_, ?_, ?_, ?_, ?_, ?_, ?_, ?_, ?_, ?_, trivial⟩ ?_
    · refine ⟨?z23, ?z24, ?z25, ?z26, ?z27, ?z28, ?z29, ?z30, ?z22, ?z31, ?z32, ?z33, ?fr, Slot.start _ _ _, Slot.start _ _ _, Slot.start _ _ _, Slot.start _ _ _, Slot.start _ _ _, Slot.start _ _ _, Slot.start _ _ _, Slot.start _ _ _, Slot.start _ _ _, Slot.start _ _ _, Slot.start _ _ _, Slot.start _ _ _, Old.start HAr.out _ _, (Off.refl _ W).drew⟩
      case fr => first | (simp only [Act.put, List.setIfInBounds_toArray, List.set_cons_zero, List.set_cons_succ]; rfl) | simp only [Act.put, List.setIfInBounds_toArray, List.set_cons_zero, List.set_cons_succ]
    · intro l a wr hI hl hd K' hK
      obtain ⟨u23, u24, u25, u26, u27, u28, u29, u30, u22, u31, u32, u33, ha, s0, s1, s2, s3, s4, s5, s6, s7, s8, s9, s10, s11, O0, hO⟩ := hI
      simp only [Act.put, List.setIfInBounds_toArray, List.set_cons_zero, List.set_cons_succ] at ha
      subst ha
      have hc := HK.out wr hO
      have p0 := hc.1
      clear hc
      go_simp
      refine hK.out _ _ ⟨_, _, _, _, _, _, _, _, _, _, _, _, ?_, Slot.new _ _ _, s1.keep rfl, s2.keep rfl, s3.keep rfl, s4.keep rfl, s5.keep rfl, s6.keep rfl, s7.keep rfl, s8.keep rfl, s9.keep rfl, s10.keep rfl, s11.keep rfl, O0.keep (Off.refl _ wr) rfl, hO⟩
      simp only [Act.put, List.setIfInBounds_toArray, List.set_cons_zero, List.set_cons_succ]
    · intro l a wr hI hl hd K' hK
      obtain ⟨u23, u24, u25, u26, u27, u28, u29, u30, u22, u31, u32, u33, ha, s0, s1, s2, s3, s4, s5, s6, s7, s8, s9, s10, s11, O0, hO⟩ := hI
      simp only [Act.put, List.setIfInBounds_toArray, List.set_cons_zero, List.set_cons_succ] at ha
      subst ha
      go_simp
      refine hK.out _ _ ⟨_, _, _, _, _, _, _, _, _, _, _, _, ?_, s0.keep rfl, Slot.new _ _ _, s2.keep rfl, s3.keep rfl, s4.keep rfl, s5.keep rfl, s6.keep rfl, s7.keep rfl, s8.keep rfl, s9.keep rfl, s10.keep rfl, s11.keep rfl, O0.keep (Off.refl _ wr) rfl, hO⟩
      simp only [Act.put, List.setIfInBounds_toArray, List.set_cons_zero, List.set_cons_succ]
    · intro l a wr hI hl hd K' hK
      obtain ⟨u23, u24, u25, u26, u27, u28, u29, u30, u22, u31, u32, u33, ha, s0, s1, s2, s3, s4, s5, s6, s7, s8, s9, s10, s11, O0, hO⟩ := hI
      simp only [Act.put, List.setIfInBounds_toArray, List.set_cons_zero, List.set_cons_succ] at ha
      subst ha
      have hc := HK.out wr hO
      have p0 := hc.2.1.1
      have p1 := hc.2.1.2.1
      have p2 := hc.2.1.2.2.1
      have p3 := hc.2.1.2.2.2.1
      have p4 := hc.2.1.2.2.2.2.1
      have p5 := hc.2.1.2.2.2.2.2.1
      have p6 := hc.2.1.2.2.2.2.2.2.1
      have p7 := hc.2.1.2.2.2.2.2.2.2.1
      have p8 := hc.2.1.2.2.2.2.2.2.2.2.1
      have p9 := hc.2.1.2.2.2.2.2.2.2.2.2.1
      have p10 := hc.2.1.2.2.2.2.2.2.2.2.2.2.1
      have p11 := hc.2.1.2.2.2.2.2.2.2.2.2.2.2.1
      have p12 := hc.2.1.2.2.2.2.2.2.2.2.2.2.2.2.1
      have p13 := hc.2.1.2.2.2.2.2.2.2.2.2.2.2.2.2
      clear hc
      go_simp
      refine hK.out _ _ ⟨_, _, _, _, _, _, _, _, _, _, _, _, ?_, s0.keep rfl, s1.keep rfl, Slot.new _ _ _, s3.keep rfl, s4.keep rfl, s5.keep rfl, s6.keep rfl, s7.keep rfl, s8.keep rfl, s9.keep rfl, s10.keep rfl, s11.keep rfl, O0.keep (Off.refl _ wr) rfl, hO⟩
      simp only [Act.put, List.setIfInBounds_toArray, List.set_cons_zero, List.set_cons_succ]
    · intro l a wr hI hl hd K' hK
      obtain ⟨u23, u24, u25, u26, u27, u28, u29, u30, u22, u31, u32, u33, ha, s0, s1, s2, s3, s4, s5, s6, s7, s8, s9, s10, s11, O0, hO⟩ := hI
      simp only [Act.put, List.setIfInBounds_toArray, List.set_cons_zero, List.set_cons_succ] at ha
      subst ha
      have hc := HK.out wr hO
      have p0 := hc.2.2.1
      clear hc
      go_simp
      refine hK.out _ _ ⟨_, _, _, _, _, _, _, _, _, _, _, _, ?_, s0.keep rfl, s1.keep rfl, s2.keep rfl, Slot.new _ _ _, s4.keep rfl, s5.keep rfl, s6.keep rfl, s7.keep rfl, s8.keep rfl, s9.keep rfl, s10.keep rfl, s11.keep rfl, O0.keep (Off.refl _ wr) rfl, hO⟩
      simp only [Act.put, List.setIfInBounds_toArray, List.set_cons_zero, List.set_cons_succ]
    · intro l a wr hI hl hd K' hK
      obtain ⟨u23, u24, u25, u26, u27, u28, u29, u30, u22, u31, u32, u33, ha, s0, s1, s2, s3, s4, s5, s6, s7, s8, s9, s10, s11, O0, hO⟩ := hI
      simp only [Act.put, List.setIfInBounds_toArray, List.set_cons_zero, List.set_cons_succ] at ha
      subst ha
      go_simp
      refine hK.out _ _ ⟨_, _, _, _, _, _, _, _, _, _, _, _, ?_, s0.keep rfl, s1.keep rfl, s2.keep rfl, s3.keep rfl, Slot.new _ _ _, s5.keep rfl, s6.keep rfl, s7.keep rfl, s8.keep rfl, s9.keep rfl, s10.keep rfl, s11.keep rfl, O0.keep (Off.refl _ wr) rfl, hO⟩
      simp only [Act.put, List.setIfInBounds_toArray, List.set_cons_zero, List.set_cons_succ]
    · intro l a wr hI hl hd K' hK
      obtain ⟨u23, u24, u25, u26, u27, u28, u29, u30, u22, u31, u32, u33, ha, s0, s1, s2, s3, s4, s5, s6, s7, s8, s9, s10, s11, O0, hO⟩ := hI
      simp only [Act.put, List.setIfInBounds_toArray, List.set_cons_zero, List.set_cons_succ] at ha
      subst ha
      go_simp
      refine hK.out _ _ ⟨_, _, _, _, _, _, _, _, _, _, _, _, ?_, s0.keep rfl, s1.keep rfl, s2.keep rfl, s3.keep rfl, s4.keep rfl, Slot.new _ _ _, s6.keep rfl, s7.keep rfl, s8.keep rfl, s9.keep rfl, s10.keep rfl, s11.keep rfl, O0.keep (Off.refl _ wr) rfl, hO⟩
      simp only [Act.put, List.setIfInBounds_toArray, List.set_cons_zero, List.set_cons_succ]
    · intro l a wr hI hl hd K' hK
      obtain ⟨u23, u24, u25, u26, u27, u28, u29, u30, u22, u31, u32, u33, ha, s0, s1, s2, s3, s4, s5, s6, s7, s8, s9, s10, s11, O0, hO⟩ := hI
      simp only [Act.put, List.setIfInBounds_toArray, List.set_cons_zero, List.set_cons_succ] at ha
      have q3 := s3 (hd 3 (by decide))
      have q4 := s4 (hd 4 (by decide))
      have q5 := s5 (hd 5 (by decide))
      subst ha q3 q4 q5
      go_simp
      refine (held_inv (HPa.out wr) hO).mono ?_
      rintro e w1 ⟨rfl, hO1, hOW⟩
      go_wp2_with fail
      refine hK.out _ _ ⟨_, _, _, _, _, _, _, _, _, _, _, _, ?_, s0.keep rfl, s1.keep rfl, s2.keep rfl, s3.keep rfl, s4.keep rfl, s5.keep rfl, Slot.new _ _ _, s7.keep rfl, s8.keep rfl, s9.keep rfl, s10.keep rfl, s11.keep rfl, O0.keep hOW rfl, hO1⟩
      simp only [Act.put, List.setIfInBounds_toArray, List.set_cons_zero, List.set_cons_succ]
    · intro l a wr hI hl hd K' hK
      obtain ⟨u23, u24, u25, u26, u27, u28, u29, u30, u22, u31, u32, u33, ha, s0, s1, s2, s3, s4, s5, s6, s7, s8, s9, s10, s11, O0, hO⟩ := hI
      simp only [Act.put, List.setIfInBounds_toArray, List.set_cons_zero, List.set_cons_succ] at ha
      have q2 := s2 (hd 2 (by decide))
      have q6 := s6 (hd 6 (by decide))
      subst ha q2 q6
      go_simp
      refine (held_inv (HPk.out wr hO) hO).mono ?_
      rintro e w1 ⟨rfl, hO1, hOW⟩
      go_wp2_with fail
      refine hK.out _ _ ⟨_, _, _, _, _, _, _, _, _, _, _, _, ?_, s0.keep rfl, s1.keep rfl, s2.keep rfl, s3.keep rfl, s4.keep rfl, s5.keep rfl, s6.keep rfl, Slot.new _ _ _, s8.keep rfl, s9.keep rfl, s10.keep rfl, s11.keep rfl, O0.keep hOW rfl, hO1⟩
      simp only [Act.put, List.setIfInBounds_toArray, List.set_cons_zero, List.set_cons_succ]
    · intro l a wr hI hl hd K' hK
      obtain ⟨u23, u24, u25, u26, u27, u28, u29, u30, u22, u31, u32, u33, ha, s0, s1, s2, s3, s4, s5, s6, s7, s8, s9, s10, s11, O0, hO⟩ := hI
      simp only [Act.put, List.setIfInBounds_toArray, List.set_cons_zero, List.set_cons_succ] at ha
      have q7 := s7 (hd 7 (by decide))
      subst ha q7
      go_simp
      refine hK.out _ _ ⟨_, _, _, _, _, _, _, _, _, _, _, _, ?_, s0.keep rfl, s1.keep rfl, s2.keep rfl, s3.keep rfl, s4.keep rfl, s5.keep rfl, s6.keep rfl, s7.keep rfl, Slot.new _ _ _, s9.keep rfl, s10.keep rfl, s11.keep rfl, O0.keep (Off.refl _ wr) rfl, hO⟩
      simp only [Act.put, List.setIfInBounds_toArray, List.set_cons_zero, List.set_cons_succ]
    · intro l a wr hI hl hd K' hK
      obtain ⟨u23, u24, u25, u26, u27, u28, u29, u30, u22, u31, u32, u33, ha, s0, s1, s2, s3, s4, s5, s6, s7, s8, s9, s10, s11, O0, hO⟩ := hI
      simp only [Act.put, List.setIfInBounds_toArray, List.set_cons_zero, List.set_cons_succ] at ha
      have q8 := s8 (hd 8 (by decide))
      subst ha q8
      go_simp
      refine hK.out _ _ ⟨_, _, _, _, _, _, _, _, _, _, _, _, ?_, s0.keep rfl, s1.keep rfl, s2.keep rfl, s3.keep rfl, s4.keep rfl, s5.keep rfl, s6.keep rfl, s7.keep rfl, s8.keep rfl, Slot.new _ _ _, s10.keep rfl, s11.keep rfl, O0.keep (Off.refl _ wr) rfl, hO⟩
      simp only [Act.put, List.setIfInBounds_toArray, List.set_cons_zero, List.set_cons_succ]
    · intro l a wr hI hl hd K' hK
      obtain ⟨u23, u24, u25, u26, u27, u28, u29, u30, u22, u31, u32, u33, ha, s0, s1, s2, s3, s4, s5, s6, s7, s8, s9, s10, s11, O0, hO⟩ := hI
      simp only [Act.put, List.setIfInBounds_toArray, List.set_cons_zero, List.set_cons_succ] at ha
      have q8 := s8 (hd 8 (by decide))
      subst ha q8
      go_simp
      refine hK.out _ _ ⟨_, _, _, _, _, _, _, _, _, _, _, _, ?_, s0.keep rfl, s1.keep rfl, s2.keep rfl, s3.keep rfl, s4.keep rfl, s5.keep rfl, s6.keep rfl, s7.keep rfl, s8.keep rfl, s9.keep rfl, Slot.new _ _ _, s11.keep rfl, O0.keep (Off.refl _ wr) rfl, hO⟩
      simp only [Act.put, List.setIfInBounds_toArray, List.set_cons_zero, List.set_cons_succ]
    · intro l a wr hI hl hd K' hK
      obtain ⟨u23, u24, u25, u26, u27, u28, u29, u30, u22, u31, u32, u33, ha, s0, s1, s2, s3, s4, s5, s6, s7, s8, s9, s10, s11, O0, hO⟩ := hI
      simp only [Act.put, List.setIfInBounds_toArray, List.set_cons_zero, List.set_cons_succ] at ha
      have q0 := s0 (hd 0 (by decide))
      have q1 := s1 (hd 1 (by decide))
      subst ha q0 q1
      go_simp
      refine hK.out _ _ ⟨_, _, _, _, _, _, _, _, _, _, _, _, ?_, s0.keep rfl, s1.keep rfl, s2.keep rfl, s3.keep rfl, s4.keep rfl, s5.keep rfl, s6.keep rfl, s7.keep rfl, s8.keep rfl, s9.keep rfl, s10.keep rfl, Slot.new _ _ _, O0.keep (Off.refl _ wr) rfl, hO⟩
      simp only [Act.put, List.setIfInBounds_toArray, List.set_cons_zero, List.set_cons_succ]
    · intro l a wr hI hl hd K' hK
      obtain ⟨u23, u24, u25, u26, u27, u28, u29, u30, u22, u31, u32, u33, ha, s0, s1, s2, s3, s4, s5, s6, s7, s8, s9, s10, s11, O0, hO⟩ := hI
      simp only [Act.put, List.setIfInBounds_toArray, List.set_cons_zero, List.set_cons_succ] at ha
      have q11 := s11 (hd 11 (by decide))
      have q9 := s9 (hd 9 (by decide))
      subst ha q11 q9
      have hZ := (O0.was hl)
      obtain ⟨m0, m1, m2, m3⟩ := NumsAt.cell hZ HOj.out
      have fz := fun j => NumsAt.frozen hZ j
      have lt := heap_lt hZ
      clear hZ
      go_simp
      refine hK.out _ _ ⟨_, _, _, _, _, _, _, _, _, _, _, _, ?_, s0.keep rfl, s1.keep rfl, s2.keep rfl, s3.keep rfl, s4.keep rfl, s5.keep rfl, s6.keep rfl, s7.keep rfl, s8.keep rfl, s9.keep rfl, s10.keep rfl, s11.keep rfl, O0.putAtC (HPt.out wr) hl, setCells_in_at hO (fun _ => rfl) (words4 z)⟩
      simp only [Act.put, List.setIfInBounds_toArray, List.set_cons_zero, List.set_cons_succ]
    · intro l a wc hI hd
      obtain ⟨u23, u24, u25, u26, u27, u28, u29, u30, u22, u31, u32, u33, ha, s0, s1, s2, s3, s4, s5, s6, s7, s8, s9, s10, s11, O0, hO⟩ := hI
      simp only [Act.put, List.setIfInBounds_toArray, List.set_cons_zero, List.set_cons_succ] at ha
      have q0 := s0 (hd 0 (by decide))
      have q1 := s1 (hd 1 (by decide))
      have q2 := s2 (hd 2 (by decide))
      have q3 := s3 (hd 3 (by decide))
      have q4 := s4 (hd 4 (by decide))
      have q5 := s5 (hd 5 (by decide))
      have q6 := s6 (hd 6 (by decide))
      have q7 := s7 (hd 7 (by decide))
      have q8 := s8 (hd 8 (by decide))
      have q9 := s9 (hd 9 (by decide))
      have q10 := s10 (hd 10 (by decide))
      have q11 := s11 (hd 11 (by decide))
      have r0 : wc.heap[arr]? = some (.cells (flat4 (L.set j z)).toArray 66) := O0.now (hd 12 (by decide))
      subst ha q0 q1 q2 q3 q4 q5 q6 q7 q8 q9 q10 q11
      clear hd s0 s1 s2 s3 s4 s5 s6 s7 s8 s9 s10 s11 O0
      have hb := HBk.out
      refine ⟨hO.keeps.from _, ?_, hO.heap H1.out (by omega), hO.heap H2.out (by omega), hO.heap H3.out (by omega), HNx.out _ r0, H6.out.trans hO (fun k hk e => by omega)⟩
      exact fun h => hO.cell h (by have hb := HBk.out; simp; omega)
  case done =>
    rintro D ys A hD rfl ⟨h1, h2, h3, ⟨L, hLc, h4, h5⟩, h6⟩ hK
    have hfin : L = (splitV bs).map (fm p) := by
      have h := h5 (by rw [finR_val, List.length_finRange])
      rw [List.length_finRange, List.take_of_length_le (by rw [hLc, HC.out, HN.out]; exact Nat.le_refl _)] at h
      exact h
    have m0 := cell_of_heap h3 0
    have H4 := Lib.hid h4
    have H6 := Lib.hid h6
    have HFn := Lib.hid hfin
    have HLc := Lib.hid hLc
    have HKK := Lib.hid hK
    clear h1 h2 h3 h4 h5 h6 hfin hLc hK HSq H80
    gi_wp2
    refine ⟨by simp, .inl ⟨_, _, rfl, run_takeDeferred HKK.out, ?_⟩⟩
    have hb := HBk.out
    have hO10 : Off (fun _ => False) w (A.putObj D (.deferred none)) := H6.out.laterC (grownBy_putObj' A D _) (fun r e => by cases e; omega)
    have s9 : NumsAt (A.putObj D (.deferred none)) arr 66 L := (World.putObj_heap_other (by omega)).trans H4.out
    have hlc := HLc.out
    refine ⟨.tuple #[.slice (some ⟨arr, 0, none⟩) c c, .int .i64 0], by simp [results, Tryd.results33, go_sem], some ⟨arr, 0, none⟩, c, rfl, ?_, hO10⟩
    have h := Ls.of_all (cap := c) s9 (by have := HCM.out; omega)
    rw [HFn.out] at h hlc
    rw [hlc] at h
    exact h
  case stop =>
    rintro D c pre W _ _ h _
    exact h.elim
set_option maxRecDepth 100000 in
set_option maxHeartbeats 4000000 in
theorem split_over {id : Int} {p i0 r s : Nat} (_hF : Fld id p i0 r s) (a : Option Addr) (n cap : Nat) (w : World) (hl : 65535 < n) (hm : (Lit.int .i64 (n : Int)).wf = true) :
    Calls Tryd.prog 33 #[FV id p i0 r s, .slice a n cap] w fun e w' => e = .returned (.tuple #[.slice none 0 0, .int .i64 6]) ∧ Off (fun _ => False) w w' := by
  have hIs := fun w' => islength_any (n : Int) hm w'
  rw [show decide (0 ≤ (n : Int) ∧ (n : Int) ≤ 65535) = false from decide_eq_false (by omega)] at hIs
  go_enter Tryd.func33, Tryd.ntmps33
  go_wp2_with fail
  refine (hIs _).mono ?_
  rintro e w' ⟨rfl, rfl⟩
  go_wp2
  exact bodyPost_ret (v := .tuple #[.slice none 0 0, .int .i64 6]) (by simp [results, Tryd.results33, go_sem]) rfl ⟨rfl, ((Off.refl _ w).alloc _).alloc _⟩
end
end Go.Proofs.YtclehgconbdkpaaDoor
