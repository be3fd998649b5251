/-
  Contracts of slices.All at words, of mask.Table (a loop over that iterator) and of the examples' function 'alive' of layer 1's statements, over this seat's translation: Table returns the element at the index, or 0, and changes nothing that lay in memory before. Conditions: the arguments are words; the table's cells lie in memory as its slice says.
-/
import Derived.Test.YtcjeodjhdhelnaaMaskMore
import Derived.RangeFuncNested
import Derived.RangeFuncBound
import Derived.RangeFuncCalls
import Derived.RangeFuncLeaves
import Derived.RangeFuncBox
import Derived.RangeFuncFrom
import Derived.Shelf.Abstract
import Derived.Shelf.RegionOpen
import Derived.WalkKit
import Derived.OwnWalkIn
import Derived.TacticsInMore
import Derived.LoopNIn
import Derived.LoopIn
namespace Go.Proofs.Ytcjeodjhdhelnaa
open Go.RowKit Go.Shelf
attribute [local go_sem] Oper.semAt_some

set_option maxRecDepth 100000 in
set_option maxHeartbeats 2000000 in
theorem all1_in (F : Fence) (n : Nat) (h8 : F.fn 24) (hro : F.round = none) (hn : 1 ≤ n) (l Bs n₀ : Nat) (a : Option Addr) (len cap : Nat) (zs : List Int) (hreach : len ≤ 17592186044416) (J Jx : List Nat → World → Prop)
    (hY : ∀ (pre : List Nat) (x : Nat) W, J pre W → pre.length < len → YieldAt F (n - 1) Try.prog l #[.int .i64 (x : Int), .int .u64 (nth zs x)] W fun e W' =>
      (e = .returned (.bool true) ∧ J (pre ++ [x]) W' ∧ Below n₀ W W') ∨ (e = .returned (.bool false) ∧ Jx (pre ++ [x]) W'))
    (W : World) (hBs : W.cell? ⟨Bs, 0, none⟩ = some (.slice a len cap)) (hc : 0 < len → ∃ b off, a = some ⟨b, off, none⟩ ∧ b < n₀ ∧ ∀ j, j < len → W.cell? ⟨b, off + j, none⟩ = some (.int .u64 (nth zs j))) (h0 : J [] W) :
    CallsIn F n Try.prog 24 #[.func (.yield l) #[] #[], .pointer (some ⟨Bs, 0, none⟩)] W fun e W' => (∃ v, e = .returned v) ∧
      ((∃ ys, ys = List.range len ∧ J ys W') ∨ (∃ pre, (∃ k, k ≤ len ∧ pre = List.range k) ∧ Jx pre W')) := by
  refine callsIn_of_wp Try.func24 rfl h8 ?_ hro
  simp only [Try.ntmps24, List.size_toArray, List.length_cons, List.length_nil, Nat.reduceAdd, Nat.reduceSub, Array.replicate_succ, Array.replicate_zero, List.push_toArray, List.append_toArray, List.nil_append, List.cons_append]
  gi_wp2
  gi_loopw [7] (fun i wr => ∃ k : Nat, k ≤ len ∧ i = .int .i64 k ∧ J (List.range k) wr ∧ Below n₀ W wr)
    (fun i _ => len - (intOf i).toNat)
  case atStart => exact ⟨0, Nat.zero_le _, rfl, h0, Below.refl _ _⟩
  case round =>
    obtain ⟨k, hk, rfl, hJs, hnx⟩ := hrel
    by_cases hlt : k < len
    · obtain ⟨b, off, rfl, hb, hcc⟩ := hc (by omega)
      have hcx : wr.cell? ⟨b, off + k, none⟩ = some (.int .u64 (nth zs k)) := (hnx.cell (p := ⟨b, off + k, none⟩) hb).trans (hcc k hlt)
      obtain ⟨fn, tmps, assign, body, hy, hR⟩ := hY _ k wr hJs (by rw [List.length_range]; exact hlt)
      clear hc hcc
      gi_wp2
      refine hR.mono ?_
      rintro e W3 (⟨rfl, hJ3, hk3⟩ | ⟨rfl, hJx3⟩)
      · gi_wp2
        go_roundw
        case rel => exact ⟨k + 1, by omega, by simp, by rw [List.range_succ]; exact hJ3, hnx.trans hk3⟩
        case measure => simp [intOf]; omega
      · gi_wp2
        refine bodyPost_ret (results_none rfl _ _ _) rfl ?_
        exact ⟨⟨_, rfl⟩, .inr ⟨_, ⟨k + 1, by omega, List.range_succ.symm⟩, hJx3⟩⟩
    · obtain rfl : k = len := by omega
      clear hc
      gi_wp2
      go_end0
      exact ⟨⟨_, rfl⟩, .inl ⟨_, rfl, hJs⟩⟩

set_option maxHeartbeats 1000000 in
/-- slices.All(s): the slice value is boxed; the function value captures the box. -/
theorem all_in (F : Fence) (n : Nat) (h6 : F.fn 23) (hro : F.round = none) (a : Option Addr) (len cap : Nat) (w : World) :
    CallsIn F n Try.prog 23 #[.slice a len cap] w fun e w' => e = .returned (.func (.func 24) #[] #[.pointer (some ⟨w.heap.size, 0, none⟩)]) ∧ w' = w.alloc (.cells #[.slice a len cap] 27) := by
  refine callsIn_of_wp Try.func23 rfl h6 ?_ hro
  simp only [Try.ntmps23, List.size_toArray, List.length_cons, List.length_nil, Nat.reduceAdd, Nat.reduceSub, Array.replicate_succ, Array.replicate_zero, List.push_toArray, List.append_toArray, List.nil_append, List.cons_append]
  gi_wp2
  go_ret
  exact ⟨rfl, rfl⟩

theorem all_stops (F : Fence) (n : Nat) (h8 : F.fn 24) (hro : F.round = none) (hn : 1 ≤ n) (Bs n₀ : Nat) (sv : Value) (zs : List Int) (w : World) (hBs : Bs < w.heap.size) (hn₀ : n₀ ≤ w.heap.size)
    (hc : w.cell? ⟨Bs, 0, none⟩ = some sv) (hI : WordsB n₀ w sv zs) :
    SeqStopsK F n Try.prog 24 #[.pointer (some ⟨Bs, 0, none⟩)] (fun x : Nat => #[Value.int .i64 (x : Int), Value.int .u64 (nth zs x)]) (Below n₀) (fun ys => ys = List.range zs.length)
      (fun pre => ∃ k, k ≤ zs.length ∧ pre = List.range k) zs.length w := fun l J Jx W hW _ _ hY h0 => by
  have hc' := (hW.cell (p := ⟨Bs, 0, none⟩) hBs).trans hc
  obtain ⟨a, cap, rfl, h1, h2, h3⟩ := hI.below (hW.mono hn₀)
  exact all1_in F n h8 hro hn l Bs n₀ a zs.length cap zs h1 J Jx hY W hc' h3 h0

/-- What has been found when the elements with the indices pre have been read. -/
def found (zs : List Int) (i : Int) (pre : List Nat) : Int := pre.foldl (fun acc (k : Nat) => bits .or .u64 acc (bits .and .u64 (mk (eqB (IntKind.u64.wrap (k : Int)) i)) (nth zs k))) 0
theorem found_snoc (zs : List Int) (i : Int) (pre : List Nat) (k : Nat) : found zs i (pre ++ [k]) = bits .or .u64 (found zs i pre) (bits .and .u64 (mk (eqB (IntKind.u64.wrap (k : Int)) i)) (nth zs k)) := by simp [found]
theorem nth_word {zs : List Int} (h : ∀ n ∈ zs, Word n) (k : Nat) : Word (nth zs k) := by
  unfold nth
  by_cases hk : k < zs.length
  · rw [List.getElem?_eq_getElem hk]; exact h _ (List.getElem_mem hk)
  · rw [List.getElem?_eq_none (by omega)]; exact ⟨by simp, by simp⟩
theorem and_mk {x : Int} (c : Bool) (hx : Word x) : bits .and .u64 (mk c) x = if c then x else 0 := by
  have hm := mk_word c
  rw [u64_and _ _ hm.1 hm.2 hx.1 hx.2]
  have h1 := hx.1
  cases c
  · simp [mk]
  · have e : (18446744073709551615 : Int).toNat = 18446744073709551615 := by omega
    have e2 : 18446744073709551615 &&& x.toNat = x.toNat := by
      rw [Nat.and_comm]
      have := Nat.and_two_pow_sub_one_eq_mod x.toNat 64
      have h2 := word_nat hx
      simp at this
      rw [this]; omega
    simp only [mk, if_true, e, e2]
    omega
theorem or_zero {x : Int} (hx : Word x) : bits .or .u64 x 0 = x := by
  rw [u64_or _ _ hx.1 hx.2 (by omega) (by omega)]
  have := hx.1
  simp; omega
theorem zero_or {x : Int} (hx : Word x) : bits .or .u64 0 x = x := by
  rw [u64_or _ _ (by omega) (by omega) hx.1 hx.2]
  have := hx.1
  simp; omega
theorem found_range {zs : List Int} (h : ∀ n ∈ zs, Word n) {i : Int} (hi : Word i) : ∀ k : Nat, k ≤ 17592186044416 → found zs i (List.range k) = if i < k then nth zs i.toNat else 0 := by
  intro k
  have hi1 := hi.1
  induction k with
  | zero => intro _; rw [if_neg (by omega)]; rfl
  | succ k ih =>
    intro hk
    have hw : IntKind.u64.wrap (k : Int) = k := by rw [IntKind.wrap_u64]; omega
    rw [List.range_succ, found_snoc, ih (by omega), hw, and_mk _ (nth_word h k)]
    by_cases e : (k : Int) = i
    · subst e
      have e1 : eqB (k : Int) k = true := by simp [eqB]
      have e3 : ¬ (k : Int) < k := by omega
      have e4 : (k : Int) < ((k + 1 : Nat) : Int) := by omega
      simp only [e1, e3, e4, if_true, if_false, zero_or (nth_word h k)]
      simp
    · have e1 : eqB (k : Int) i = false := by simpa [eqB] using e
      by_cases e2 : i < k
      · have e4 : i < ((k + 1 : Nat) : Int) := by omega
        simp only [e1, e2, e4, if_true, if_false, Bool.false_eq_true, or_zero (nth_word h _)]
      · have e4 : ¬ i < ((k + 1 : Nat) : Int) := by omega
        simp only [e1, e2, e4, if_false, Bool.false_eq_true]
        exact or_zero ⟨by omega, by omega⟩
theorem found_all {zs : List Int} (h : ∀ n ∈ zs, Word n) {i : Int} (hi : Word i) (hl : zs.length ≤ 17592186044416) : found zs i (List.range zs.length) = tableV zs i := by
  rw [found_range h hi _ hl]
  unfold tableV nth
  have := hi.1
  by_cases e : i < zs.length
  · rw [if_pos e]
  · rw [if_neg e, List.getElem?_eq_none (by omega)]; rfl

/-- What a round of Table's loop leaves, out of what it found. -/
theorem round_end (w W : World) (zs : List Int) (i : Int) (pre : List Nat) (x : Nat) (c : Array Value) (T : Nat)
    (hi0 : W.cell? ⟨w.heap.size, 0, none⟩ = some (.int .u64 i)) (hc : W.cell? ⟨w.heap.size + 1, 0, none⟩ = some (.int .u64 (found zs i pre))) (hf : W.frozen? ⟨w.heap.size + 1, 0, none⟩ = false)
    (hB : Below w.heap.size w W) (hL : w.heap.size + 1 < W.heap.size) :
    let W' := ((W.setCell ⟨w.heap.size + 1, 0, none⟩ (.int .u64 (bits .or .u64 (found zs i pre) (bits .and .u64 (mk (eqB (IntKind.u64.wrap (x : Int)) i)) (nth zs x))))).alloc (.cells c T)).drew
    KeepsOthers W W' ∧ Below w.heap.size W W' ∧ (W'.cell? ⟨w.heap.size, 0, none⟩ = some (.int .u64 i) ∧ W'.cell? ⟨w.heap.size + 1, 0, none⟩ = some (.int .u64 (found zs i (pre ++ [x]))) ∧ W'.frozen? ⟨w.heap.size + 1, 0, none⟩ = false) ∧ Below w.heap.size w W' := by
  have hb : Below w.heap.size W ((W.setCell ⟨w.heap.size + 1, 0, none⟩ (.int .u64 (bits .or .u64 (found zs i pre) (bits .and .u64 (mk (eqB (IntKind.u64.wrap (x : Int)) i)) (nth zs x))))).alloc (.cells c T)).drew :=
    (((Below.refl w.heap.size W).setCell (p := ⟨w.heap.size + 1, 0, none⟩) (by simp) _).alloc (by simp; omega) _).drew
  have hs := World.cell?_setCell_same' W ⟨w.heap.size + 1, 0, none⟩ (.int .u64 (found zs i (pre ++ [x]))) (by rw [hc]; rfl)
  refine ⟨((KeepsOthers.setCell _ _ _).trans (KeepsOthers.alloc _ _)).trans (KeepsOthers.drew _), hb, ⟨?_, ?_, ?_⟩, hB.trans hb⟩
  · rw [cell_drew_own, World.cell?_alloc_past _ _ _ (by simp; omega)]
    rw [World.cell?_setCell_other]
    · exact hi0
    · simp
  · rw [cell_drew_own, World.cell?_alloc_past _ _ _ (by simp; omega), ← found_snoc]
    exact hs
  · rw [frozen_drew_own, World.frozen?_alloc_past _ _ _ (by simp; omega), World.frozen?_setCell]
    exact hf

set_option maxRecDepth 100000 in
set_option maxHeartbeats 2000000 in
theorem table_any (a : Option Addr) (len cap : Nat) (zs : List Int) (i : Int) (hi : Word i) (w : World) (hI : WordsB w.heap.size w (.slice a len cap) zs) :
    Calls Try.prog 20 #[.slice a len cap, .int .u64 i] w fun e W' => e = .returned (.int .u64 (tableV zs i)) ∧ Below w.heap.size w W' := by
  obtain rfl := hI.words.lt
  refine (callsIn_wide (n := 3)).1 ?_
  refine callsIn_of_wp_marks Try.func20 rfl trivial ?_ rfl
  simp only [Try.ntmps20, List.size_toArray, List.length_cons, List.length_nil, Nat.reduceAdd, Nat.reduceSub, Array.replicate_succ, Array.replicate_zero, List.push_toArray, List.append_toArray, List.nil_append, List.cons_append]
  gi_wp2_with (refine ⟨trivial, ?_⟩; gi_at_call 23; refine (all_in Fence.wide _ trivial rfl _ _ _ _).mono ?_; rintro e w' ⟨rfl, rfl⟩)
  have bI := Boxed.new w 22 (.int .u64 i)
  have bF := Boxed.new (w.alloc (.cells #[.int .u64 i] 22)) 22 (.int .u64 0)
  have bS := Boxed.new ((w.alloc (.cells #[.int .u64 i] 22)).alloc (.cells #[.int .u64 0] 22)) 27 (.slice a zs.length cap)
  simp only [World.size_alloc] at bF bS
  have hB0 : Below w.heap.size w (((w.alloc (.cells #[.int .u64 i] 22)).alloc (.cells #[.int .u64 0] 22)).alloc (.cells #[.slice a zs.length cap] 27)) := (((Below.refl _ w).alloc (Nat.le_refl _) _).alloc (by simp) _).alloc (by simp; omega) _
  have hws : ∀ n ∈ zs, Word n := by obtain ⟨_, _, _, _, h, _⟩ := hI; exact h
  have hle : zs.length ≤ 17592186044416 := by obtain ⟨_, _, _, h, _, _⟩ := hI; exact h
  refine wpIn_rangeFunc_ownF (F := Fence.wide) (n := 3) rfl (by omega) (gf := 24) (lb := #[.pointer (some ⟨w.heap.size + 1 + 1, 0, none⟩)]) rfl trivial (enters_of Try.func24 (by kernel_rfl) rfl)
    (all_stops Fence.wide (3 - 1) trivial rfl (by omega) (w.heap.size + 1 + 1) w.heap.size _ zs _ (by simp) (by simp; omega) bS.cell (hI.below hB0)) belowK_t (belowK_b (by simp; omega)) (Below.refl _ _) (fun _ => by rfl)
    (fun pre W => (W.cell? ⟨w.heap.size, 0, none⟩ = some (.int .u64 i) ∧ W.cell? ⟨w.heap.size + 1, 0, none⟩ = some (.int .u64 (found zs i pre)) ∧ W.frozen? ⟨w.heap.size + 1, 0, none⟩ = false) ∧ Below w.heap.size w W)
    (fun _ _ _ => False)
    (OwnFrom.and (Own.from (fun s A B row hs hg hr => ⟨cell_kept hs.1 hg hr, cell_kept hs.2.1 hg hr, (frozen_kept hs.2.1 hg hr).trans hs.2.2⟩) _) (ownFrom_below (Nat.le_refl _) (by simp; omega)))
    (fun _ _ _ _ _ hs _ _ => hs)
    ⟨⟨((bI.alloc _).alloc _).cell, (bF.alloc _).cell, (bF.alloc _).frozen⟩, hB0⟩
    (fun x => { tmps := #[.slice a zs.length cap, .int .u64 i, undef, .pointer (some ⟨w.heap.size, 0, none⟩), .int .u64 0, .pointer (some ⟨w.heap.size + 1, 0, none⟩), .int .i64 (x : Int), .int .u64 (nth zs x), .slice a zs.length cap, .func (.func 24) #[] #[.pointer (some ⟨w.heap.size + 1 + 1, 0, none⟩)], .int .i64 (x : Int), .int .u64 (nth zs x), undef, undef, undef, undef, undef, undef, undef, undef, undef], defers := [] }) ?assign ?body ?done ?stop
  case assign =>
    intro l x W K hK
    gi_wp2
    exact hK
  case body =>
    rintro l pre x W ⟨⟨hi0, hc, hf⟩, hB⟩ _
    have hmx : Try.prog.follows .mixedOrders = true := by kernel_rfl
    have hw := neg_word (x : Int)
    have hL : w.heap.size + 1 < W.heap.size := World.block_lt_of_cell? W _ hc
    have hL0 : w.heap.size < W.heap.size := World.block_lt_of_cell? W _ hi0
    gi_wp2
    gi_region_with_o (refine ⟨trivial, ?_⟩; gi_at_call 16; refine (CallsIn.inRound l (callsIn_wide.2 (equal_any _ _ hw hi _))).mono ?_; rintro e w' ⟨rfl, c, rfl⟩)
    all_goals exact round_end w W zs i pre x _ _ hi0 hc hf hB hL
  case done =>
    rintro D ys W hD rfl ⟨⟨_, hc, _⟩, hB⟩ hK
    gi_wp2
    refine ⟨by simp, .inl ⟨_, _, rfl, run_takeDeferred hK, ?_⟩⟩
    exact ⟨_, results_tmp rfl _ _ _, (by exact ret_u64 (found_all hws hi hle)), hB.trans (belowK_b (w := w) (Nat.le_refl _) W D _ _ (by simp at hD; omega) hK rfl rfl)⟩
  case stop =>
    rintro D c pre W _ _ h _
    exact h.elim
end Go.Proofs.Ytcjeodjhdhelnaa
