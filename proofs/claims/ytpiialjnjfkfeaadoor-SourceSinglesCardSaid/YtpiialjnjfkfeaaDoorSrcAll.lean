/-
  Random bytes in plain lists: what Take, Element and Elements return and leave. Plain facts; the conditions are of lengths.
  The reference of layer 14 over this seat's translation: Take and Elements of its Source. Conditions: its bytes are readable and not in the source's own block.
  What a source is in memory. Plain facts; no condition.
  The contracts of package source over this seat's translation: New, Left, Take, Element, Elements, also of a nil source. Conditions: the source lies in memory as SrcP says; the field's constants are those of its modulus.
-/
import Derived.Test.YtpiialjnjfkfeaaDoorBytPlain
import Derived.Test.YtpiialjnjfkfeaaDoorPartBy
import Derived.Test.YtpiialjnjfkfeaaDoorBytAll
import Derived.Test.YtpiialjnjfkfeaaDoorElRows
import Derived.Test.YtpiialjnjfkfeaaDoorRowByte
import Derived.Test.YtpiialjnjfkfeaaDoorMontOps
namespace Go.Proofs.YtpiialjnjfkfeaaDoor
section
/-- Take: the bytes, the error, the bytes that remain. -/
def takeV (bs : List Nat) (n : Int) : List Nat × Nat × List Nat := if n < 0 then ([], 2, bs) else if (bs.length : Int) < n then ([], 7, bs) else (bs.take n.toNat, 0, bs.drop n.toNat)
theorem takeV_ok {bs : List Nat} {n : Nat} (h : n ≤ bs.length) : takeV bs (n : Int) = (bs.take n, 0, bs.drop n) := by
  unfold takeV; rw [if_neg (by omega), if_neg (by omega), Int.toNat_natCast]
theorem takeV_neg {bs : List Nat} {n : Int} (h : n < 0) : takeV bs n = ([], 2, bs) := by unfold takeV; rw [if_pos h]
theorem takeV_few {bs : List Nat} {n : Int} (h0 : 0 ≤ n) (h : (bs.length : Int) < n) : takeV bs n = ([], 7, bs) := by unfold takeV; rw [if_neg (by omega), if_pos h]
theorem takeV_rest (bs : List Nat) (n : Int) : (takeV bs n).2.2.length ≤ bs.length := by
  unfold takeV
  split
  · exact Nat.le_refl _
  · split
    · exact Nat.le_refl _
    · simp
theorem takeV_small {bs : List Nat} (h : Small bs) (n : Int) : Small (takeV bs n).1 ∧ Small (takeV bs n).2.2 := by
  unfold takeV
  split
  · exact ⟨fun x hx => by simp at hx, h⟩
  · split
    · exact ⟨fun x hx => by simp at hx, h⟩
    · exact ⟨h.take _, h.drop _⟩
/-- The number of the element with the index i. -/
def elB (bs : List Nat) (i : Nat) : Nat := numB ((bs.drop (64 * i)).take 64)
def elsK (bs : List Nat) (k : Nat) : List Nat := (List.range k).map (elB bs)
theorem elsK_zero (bs : List Nat) : elsK bs 0 = [] := rfl
theorem elsK_succ (bs : List Nat) (k : Nat) : elsK bs (k + 1) = elsK bs k ++ [elB bs k] := by simp [elsK, List.range_succ]
theorem elsK_length (bs : List Nat) (k : Nat) : (elsK bs k).length = k := by simp [elsK]
theorem elsK_add (bs : List Nat) (n k : Nat) : elsK bs (n + k) = elsK bs n ++ elsK (bs.drop (64 * n)) k := by
  unfold elsK
  rw [List.range_add, List.map_append, List.map_map]
  congr 1
  apply List.map_congr_left
  intro i _
  show elB bs (n + i) = elB (bs.drop (64 * n)) i
  unfold elB
  rw [List.drop_drop, show 64 * n + 64 * i = 64 * (n + i) by omega]
/-- Elements: the numbers, the error, the bytes that remain. -/
def elemsV (bs : List Nat) (n : Int) : List Nat × Nat × List Nat := if n < 0 then ([], 2, bs) else if ((bs.length / 64 : Nat) : Int) < n then ([], 7, bs) else (elsK bs n.toNat, 0, bs.drop (64 * n.toNat))
theorem elemsV_ok {bs : List Nat} {n : Nat} (h : 64 * n ≤ bs.length) : elemsV bs (n : Int) = (elsK bs n, 0, bs.drop (64 * n)) := by
  unfold elemsV; rw [if_neg (by omega), if_neg (by omega), Int.toNat_natCast]
theorem elemsV_neg {bs : List Nat} {n : Int} (h : n < 0) : elemsV bs n = ([], 2, bs) := by unfold elemsV; rw [if_pos h]
theorem elemsV_few {bs : List Nat} {n : Int} (h0 : 0 ≤ n) (h : ((bs.length / 64 : Nat) : Int) < n) : elemsV bs n = ([], 7, bs) := by unfold elemsV; rw [if_neg (by omega), if_pos h]
theorem elemsV_rest (bs : List Nat) (n : Int) : (elemsV bs n).2.2.length ≤ bs.length := by
  unfold elemsV
  split
  · exact Nat.le_refl _
  · split
    · exact Nat.le_refl _
    · simp
theorem elemsV_small {bs : List Nat} (h : Small bs) (n : Int) : Small (elemsV bs n).2.2 := by
  unfold elemsV
  split
  · exact h
  · split
    · exact h
    · exact h.drop _
theorem elemsV_len (bs : List Nat) (n : Int) : 64 * (elemsV bs n).1.length ≤ bs.length := by
  unfold elemsV
  split
  · exact Nat.zero_le _
  · split
    · exact Nat.zero_le _
    · rw [elsK_length]; omega
/-- Element: the number, the error, the bytes that remain. -/
def elemV (bs : List Nat) : Nat × Nat × List Nat := if 64 ≤ bs.length then (elB bs 0, 0, bs.drop 64) else (0, 7, bs)
theorem elemV_elems (bs : List Nat) : (64 ≤ bs.length → elemsV bs 1 = ([elB bs 0], 0, bs.drop 64)) ∧ (¬ 64 ≤ bs.length → elemsV bs 1 = ([], 7, bs)) := by
  refine ⟨fun h => ?_, fun h => ?_⟩
  · have := elemsV_ok (bs := bs) (n := 1) (by omega)
    exact this
  · exact elemsV_few (by omega) (by omega)
end
section
open Go.RowKit
attribute [local go_sem ↓] Go.wp_at_zero Go.wp_at_succ
/-- The reference's source at block b has the bytes bs left, which lie within S. -/
def RefP (W : World) (b : Nat) (bs : List Nat) (S : Nat → Prop) : Prop := ∃ a cap, W.heap[b]? = some (.cells #[.slice a bs.length cap] 30 (0, 0)) ∧ bs.length ≤ cap ∧ BsAt W a bs S
theorem RefP.off {W W' : World} {b : Nat} {bs : List Nat} {S S' : Nat → Prop} (h : RefP W b bs S) (ho : Off S' W W') (hb : ¬ S' b) (hd : ∀ k, k < W.heap.size → S k → ¬ S' k) : RefP W' b bs S := by
  obtain ⟨a, cap, h1, h2, h3⟩ := h
  exact ⟨a, cap, ho.heap h1 hb, h2, h3.off ho hd⟩
theorem RefP.lt {W : World} {b : Nat} {bs : List Nat} {S : Nat → Prop} (h : RefP W b bs S) : b < W.heap.size := by
  obtain ⟨a, cap, h1, _⟩ := h
  exact heap_lt h1
theorem ref_put_one {W : World} {b : Nat} {u u' : Value} {T : TypeId} (h : W.heap[b]? = some (.cells #[u] T (0, 0))) : (W.setCell ⟨b, 0, none⟩ u').heap[b]? = some (.cells #[u'] T (0, 0)) := setCells_at (vs := [u']) h rfl
theorem ref_put_off (W : World) (b : Nat) (u' : Value) : Off (fun k => k = b) W (W.setCell ⟨b, 0, none⟩ u') := setCells_off b [u'] 0 W
set_option maxRecDepth 100000 in
set_option maxHeartbeats 4000000 in
theorem reftake_any (b : Nat) (bs : List Nat) (S : Nat → Prop) (n : Int) (_hn : (Lit.int .i64 n).wf = true) (w : World) (h : RefP w b bs S) (hS : ∀ k, S k → k ≠ b) :
    Calls Tryd.prog 13 #[.pointer (some ⟨b, 0, none⟩), .int .i64 n] w fun e w' => ∃ a m c, e = .returned (.tuple #[.slice a m c, .int .i64 ((takeV bs n).2.1 : Int)]) ∧ m = (takeV bs n).1.length ∧ m ≤ c ∧ BsAt w' a (takeV bs n).1 S ∧ RefP w' b (takeV bs n).2.2 S ∧ Off (fun k => k = b) w w' := by
  obtain ⟨a, cap, h1, hc, hb⟩ := h
  obtain ⟨N, hN⟩ : ∃ N, N = bs.length := ⟨_, rfl⟩
  rw [← hN] at h1 hc
  have m0 : w.cell? ⟨b, 0, none⟩ = some (.slice a N cap) := cell_of_heap h1 0
  by_cases hneg : n < 0
  · rw [takeV_neg hneg]
    have HH := Lib.hid (show RefP w b bs S from ⟨a, cap, by rw [← hN]; exact h1, by omega, hb⟩)
    clear h1 hc hb hN
    go_enter Tryd.func13, Tryd.ntmps13
    go_wp2
    exact bodyPost_ret (v := .tuple #[.slice none 0 0, .int .i64 2]) (by simp [results, Tryd.results13, go_sem]) rfl ⟨none, 0, 0, rfl, rfl, Nat.le_refl _, BsAt.nil _ _ _, HH.out, (Off.refl (fun _ => False) _).mono (fun _ _ c => c.elim)⟩
  · by_cases hfew : (N : Int) < n
    · rw [takeV_few (by omega) (by rw [← hN]; exact hfew)]
      have HH := Lib.hid (show RefP w b bs S from ⟨a, cap, by rw [← hN]; exact h1, by omega, hb⟩)
      clear h1 hc hb hN
      go_enter Tryd.func13, Tryd.ntmps13
      go_wp2
      exact bodyPost_ret (v := .tuple #[.slice none 0 0, .int .i64 7]) (by simp [results, Tryd.results13, go_sem]) rfl ⟨none, 0, 0, rfl, rfl, Nat.le_refl _, BsAt.nil _ _ _, HH.out, (Off.refl (fun _ => False) _).mono (fun _ _ c => c.elim)⟩
    · obtain ⟨k, rfl⟩ : ∃ k : Nat, n = (k : Int) := Int.eq_ofNat_of_zero_le (by omega)
      have hk : k ≤ N := by omega
      rw [takeV_ok (by omega)]
      obtain ⟨a1, hs1, hb1⟩ := part_h a N cap k bs hN hk hc
      obtain ⟨a2, hs2, hb2⟩ := part_l a N cap k bs hN hk hc
      have fz := fun j => frozen_of_heap h1 j
      have lt := heap_lt h1
      have hput := ref_put_one (u' := .slice a2 (N - k) (cap - k)) h1
      have hoff := ref_put_off w b (.slice a2 (N - k) (cap - k))
      have hd : ∀ j, j < w.heap.size → S j → ¬ (j = b) := fun j _ hj e => hS j hj e
      have hb3 := hb1 _ S (hb.off hoff hd)
      have hb4 := hb2 _ S (hb.off hoff hd)
      have HF := Lib.hid (show RefP (w.setCell ⟨b, 0, none⟩ (.slice a2 (N - k) (cap - k))) b (bs.drop k) S from ⟨a2, cap - k, by rw [List.length_drop, ← hN]; exact hput, by rw [List.length_drop]; omega, hb4⟩)
      have HB := Lib.hid hb3
      have HO := Lib.hid hoff
      have HL := Lib.hid (show k = (bs.take k).length by rw [List.length_take]; omega)
      have HC := Lib.hid (show k ≤ cap by omega)
      clear hput hoff hd hb3 hb4 hb1 hb2 hb h1 hc hN hS
      go_enter Tryd.func13, Tryd.ntmps13
      go_wp2
      exact bodyPost_ret (v := .tuple #[.slice a1 k cap, .int .i64 0]) (by simp [results, Tryd.results13, go_sem]) rfl ⟨a1, k, cap, rfl, by first | exact HL.out | simpa using HL.out, HC.out, HB.out, HF.out, HO.out⟩
theorem grown_offS {S : Nat → Prop} {w W w1 : World} {n k size : Nat} {T : TypeId} {v : Value} {xs : List Value} (hO : Off S w W) (hn : w.heap.size ≤ n) (h : W.ownsRow n T size v k xs) (hg : W.grownBy w1 v.ownBlock) : Off S w w1 :=
  hO.grown hg (fun j ej => by
    have hx := (h.lt j ej).1
    refine ⟨fun h => by omega, fun o ho => ?_⟩
    rcases h.2 with ⟨rfl, _⟩ | ⟨g, cap, cur, rfl, _, hgb, _⟩
    · simp [Value.ownBlock] at ej
    · obtain rfl : g = j := by simpa [Value.ownBlock] using ej
      rw [hgb] at ho; cases ho; rfl)
theorem own_offS {S : Nat → Prop} {w w' : World} {base size n : Nat} {T : TypeId} {v : Value} {xs : List Value} (h : w.ownsRow base T size v n xs) (ho : Off S w w') (hd : ∀ k, base ≤ k → ¬ S k) : w'.ownsRow base T size v n xs := by
  obtain ⟨hl, h⟩ := h
  refine ⟨hl, ?_⟩
  rcases h with hn | ⟨g, cap, cur, rfl, hb, hg, r⟩
  · exact .inl hn
  · exact .inr ⟨g, cap, cur, rfl, hb, ho.heap hg (hd g hb), r⟩
theorem RefP.keep {W W' : World} {b : Nat} {bs : List Nat} {S : Nat → Prop} (h : RefP W b bs S) (ho : Off (fun _ => False) W W') : RefP W' b bs S := h.off ho (fun c => c) (fun _ _ _ c => c)
theorem RefP.grow {W W' : World} {b : Nat} {bs : List Nat} {S : Nat → Prop} {row : Option Nat} (h : RefP W b bs S) (hg : W.grownBy W' row) (hr : ∀ j, row = some j → j ≠ b ∧ ¬ S j) : RefP W' b bs S := by
  obtain ⟨a, cap, h1, h2, h3⟩ := h
  refine ⟨a, cap, (hg.block b (heap_lt h1) (fun e => (hr b e.symm).1 rfl)).trans h1, h2, fun hp => ?_⟩
  obtain ⟨c, o, ha, hS, hx⟩ := h3 hp
  refine ⟨c, o, ha, hS, fun j x hj => ?_⟩
  have hc := hx j x hj
  exact (World.cell?_of_block (hg.block c (World.block_lt_of_cell? W _ hc) (fun e => (hr c e.symm).2 hS))).trans hc
set_option maxRecDepth 100000 in
set_option maxHeartbeats 4000000 in
theorem refels_any (p : Nat) (hp : p < R256) (h1p : 1 < p) (b : Nat) (bs : List Nat) (S : Nat → Prop) (n : Int) (_hnw : (Lit.int .i64 n).wf = true) (w : World) (h : RefP w b bs S) (hS : ∀ k, S k → k ≠ b) (hSw : ∀ k, S k → k < w.heap.size) (hsm : Small bs) (hl : bs.length ≤ 100000) :
    Calls Tryd.prog 17 #[.pointer (some ⟨b, 0, none⟩), V p, .int .i64 n] w fun e w' => ∃ v, e = .returned (.tuple #[v, .int .i64 ((elemsV bs n).2.1 : Int)]) ∧ Ls w' v ((elemsV bs n).1.map (· % p)) ∧ RefP w' b (elemsV bs n).2.2 S ∧ Off (fun k => k = b) w w' := by
  have hlt := h.lt
  by_cases hneg : n < 0
  · rw [elemsV_neg hneg]
    have HH := Lib.hid h
    clear h hS hSw hsm hl
    go_enter Tryd.func17, Tryd.ntmps17
    go_wp2
    exact bodyPost_ret (v := .tuple #[.slice none 0 0, .int .i64 2]) (by simp [results, Tryd.results17, go_sem]) rfl ⟨_, rfl, Ls.nil _, HH.out.keep ((Off.refl _ w).alloc _), Off.mono (S := fun _ => False) ((Off.refl _ w).alloc _) (fun _ _ c => c.elim)⟩
  · obtain ⟨a0, cap, g0, hc0, hb0⟩ := h
    obtain ⟨N, hN⟩ : ∃ N, N = bs.length := ⟨_, rfl⟩
    have HH := Lib.hid (show RefP w b bs S from ⟨a0, cap, g0, hc0, hb0⟩)
    rw [← hN] at g0
    have m0 : w.cell? ⟨b, 0, none⟩ = some (.slice a0 N cap) := cell_of_heap g0 0
    have hq0 : Int.tdiv (N : Int) 64 = ((N / 64 : Nat) : Int) := by
      rw [Int.tdiv_eq_ediv_of_nonneg (by omega)]
      omega
    obtain ⟨q, hq⟩ : ∃ q, q = N / 64 := ⟨_, rfl⟩
    rw [← hq] at hq0
    have hw0 : IntKind.i64.wrap (q : Int) = (q : Int) := by rw [IntKind.wrap_i64]; omega
    by_cases hfew : (q : Int) < n
    · rw [elemsV_few (by omega) (by rw [← hN, ← hq]; exact hfew)]
      clear g0 hc0 hb0 hS hSw hsm hl hN hq
      go_enter Tryd.func17, Tryd.ntmps17
      go_wp2
      exact bodyPost_ret (v := .tuple #[.slice none 0 0, .int .i64 7]) (by simp [results, Tryd.results17, go_sem]) rfl ⟨_, rfl, Ls.nil _, HH.out.keep ((Off.refl _ w).alloc _), Off.mono (S := fun _ => False) ((Off.refl _ w).alloc _) (fun _ _ c => c.elim)⟩
    · obtain ⟨k, rfl⟩ : ∃ k : Nat, n = (k : Int) := Int.eq_ofNat_of_zero_le (by omega)
      rw [elemsV_ok (by omega)]
      obtain ⟨j0, hj, hj0, hj1, hj2⟩ := info_parts vec_info
      obtain ⟨W1, hW1⟩ : ∃ W1, W1 = w.alloc (.cells #[.int .u64 (wd p 0 : Int), .int .u64 (wd p 1 : Int), .int .u64 (wd p 2 : Int), .int .u64 (wd p 3 : Int)] 39) := ⟨_, rfl⟩
      have hO1 : Off (fun _ => False) w W1 := by rw [hW1]; exact (Off.refl _ w).alloc _
      have g1 : W1.heap[w.heap.size]? = some (.cells #[.int .u64 (wd p 0 : Int), .int .u64 (wd p 1 : Int), .int .u64 (wd p 2 : Int), .int .u64 (wd p 3 : Int)] 39) := by rw [hW1]; exact heap_new' rfl _
      have hh1 : RefP W1 b bs S := HH.out.keep hO1
      have HW1 := Lib.hid hW1
      have HO1 := Lib.hid hO1
      have HG1 := Lib.hid g1
      have HR1 := Lib.hid hh1
      have HBl := Lib.hid hlt
      have HS := Lib.hid hS
      have HSw := Lib.hid hSw
      have HSm := Lib.hid hsm
      have HKl := Lib.hid (show 64 * k ≤ bs.length ∧ bs.length ≤ 100000 by omega)
      have HPp := Lib.hid hp
      have HP1 := Lib.hid h1p
      have i0 : ¬ (q : Int) < (k : Int) := hfew
      have i1 : ¬ (k : Int) < 0 := hneg
      have hk2 : k ≤ 2000 := by omega
      clear hW1 hO1 g1 hh1 g0 hc0 hb0 hS hSw hsm hl hN hq hfew hneg hp h1p
      go_enter Tryd.func17, Tryd.ntmps17
      go_wp2
      rw [← HW1.out]
      clear hlt
      go_loopw [8, 9] (fun v i wr => ∃ m : Nat, m ≤ k ∧ i = .int .i64 (m : Int) ∧ (∃ a c, v = .slice a m c ∧ wr.ownsRow W1.heap.size 39 4 v m (flat4 ((elsK bs m).map (· % p)))) ∧ RefP wr b (bs.drop (64 * m)) S ∧ Off (fun j => j = b) W1 wr) (fun _ i _ => k - (intOf i).toNat)
      case atStart => exact ⟨0, Nat.zero_le _, rfl, ⟨none, 0, rfl, World.ownsRow_nil _ _ _ _⟩, HR1.out, Off.refl _ W1⟩
      case round =>
        obtain ⟨m, hm, rfl, ⟨va, vc, rfl, hov⟩, hRf, hO⟩ := hrel
        by_cases hlt : m < k
        · have hb := HBl.out
          have i2 : (m : Int) < (k : Int) := by omega
          have w2 : IntKind.i64.wrap ((m : Int) + 1) = (m : Int) + 1 := by rw [IntKind.wrap_i64]; omega
          have hlen : (bs.drop (64 * m)).length = bs.length - 64 * m := List.length_drop
          have h64 : 64 ≤ (bs.drop (64 * m)).length := by have := HKl.out.1; omega
          have FT := Lib.hid (reftake_any b (bs.drop (64 * m)) S 64 (by decide) wr hRf HS.out)
          rw [show takeV (bs.drop (64 * m)) 64 = ((bs.drop (64 * m)).take 64, 0, bs.drop (64 * (m + 1))) by rw [show (64 : Int) = ((64 : Nat) : Int) from rfl, takeV_ok h64, List.drop_drop, show 64 * m + 64 = 64 * (m + 1) by omega]] at FT
          have h6 : ((bs.drop (64 * m)).take 64).length = 64 := by rw [List.length_take]; omega
          have FW := Lib.hid (fun (W : World) (a : Option Addr) (c : Nat) (hc : 64 ≤ c) (hb : BsAt W a ((bs.drop (64 * m)).take 64) S) => refwide_any p HPp.out HP1.out a 64 c ((bs.drop (64 * m)).take 64) S W hb h6.symm ((HSm.out.drop _).take _) hc)
          rw [show rwideV p ((bs.drop (64 * m)).take 64) = (elB bs m % p, 0) by unfold rwideV elB; rw [if_pos h6]] at FW
          obtain ⟨z, hz⟩ : ∃ z, z = elB bs m % p := ⟨_, rfl⟩
          rw [← hz] at FW
          have HFl := Lib.hid (show flat4 ((elsK bs m).map (· % p)) ++ words4 z = flat4 ((elsK bs (m + 1)).map (· % p)) by rw [elsK_succ, List.map_append, flat4_append, hz]; rfl)
          have HO := Lib.hid hO
          have HOv := Lib.hid hov
          have H6 := Lib.hid h6
          clear hO hov hRf hlen h64 h6 hz
          go_wp2_with fail
          refine FT.out.mono ?_
          rintro e u1 ⟨a1, m1, c1, rfl, hm1, hc1, hb1, hR1, hO1⟩
          obtain rfl : m1 = 64 := hm1.trans H6.out
          have HB1 := Lib.hid hb1
          have HRf1 := Lib.hid hR1
          have HO1' := Lib.hid (HO.out.trans hO1 (fun _ _ e => e))
          have HOv1 := Lib.hid (own_offS HOv.out hO1 (fun j hj e => by have := HO1.out.size; omega))
          obtain ⟨p0, p1, p2, p3⟩ := cells4 (HO1'.out.heap HG1.out (by omega))
          have hltp := heap_lt (HO1'.out.heap HG1.out (by omega))
          clear hb1 hR1 hO1 hm1
          go_wp2_with fail
          refine (FW.out _ _ _ hc1 HB1.out).mono ?_
          rintro e u2 ⟨rfl, hO2⟩
          have HRf2 := Lib.hid (HRf1.out.keep hO2)
          have HO2 := Lib.hid (HO1'.out.trans hO2 (fun _ _ c => c.elim))
          have HOv2 := Lib.hid (own_off HOv1.out hO2)
          have hs2 := hO2.size
          clear hO2 p0 p1 p2 p3 hltp
          go_wp2_with (at_builtin; refine wpList_append_own _ rfl _ _ 48 rfl W1.heap.size 39 j0 _ 4 32 Tryd.underlying48 hj hj0 hj1 hj2 rfl (by decide) _ m _ rfl ((HOv2.out.alloc _).alloc _) ⟨u2.heap.size + 1, 0, none⟩ 1 1 (words4 z) rfl rfl ?q1 (words4_one _) ?q2 ?q3 ?q4 ?_)
          case q1 => exact words4_at (heap_new' (by simp) _)
          case q2 => unfold maxLen; omega
          case q3 => omega
          case q4 => have := HO2.out.size; have := HO1.out.size; simp; omega
          intro v' w1 hown' hgrow hnil
          obtain ⟨g6, c6, rfl⟩ := ownsRow_succ hown'
          rw [HFl.out] at hown'
          have hsz := (HO2.out.alloc (.cells #[.int .u64 (wd z 0 : Int), .int .u64 (wd z 1 : Int), .int .u64 (wd z 2 : Int), .int .u64 (wd z 3 : Int)] 39)).alloc (.cells #[.int .u64 (wd z 0 : Int), .int .u64 (wd z 1 : Int), .int .u64 (wd z 2 : Int), .int .u64 (wd z 3 : Int)] 39)
          have hO3 := grown_offS hsz (Nat.le_refl _) ((HOv2.out.alloc _).alloc _) hgrow
          have hR3 := (HRf2.out.keep (((Off.refl (fun _ => False) u2).alloc (.cells #[.int .u64 (wd z 0 : Int), .int .u64 (wd z 1 : Int), .int .u64 (wd z 2 : Int), .int .u64 (wd z 3 : Int)] 39)).alloc (.cells #[.int .u64 (wd z 0 : Int), .int .u64 (wd z 1 : Int), .int .u64 (wd z 2 : Int), .int .u64 (wd z 3 : Int)] 39))).grow hgrow (fun j ej => by
            have hx := (((HOv2.out.alloc (.cells #[.int .u64 (wd z 0 : Int), .int .u64 (wd z 1 : Int), .int .u64 (wd z 2 : Int), .int .u64 (wd z 3 : Int)] 39)).alloc (.cells #[.int .u64 (wd z 0 : Int), .int .u64 (wd z 1 : Int), .int .u64 (wd z 2 : Int), .int .u64 (wd z 3 : Int)] 39)).lt j ej).1
            have := HO1.out.size
            exact ⟨by omega, fun hc => by have := HSw.out j hc; omega⟩)
          have HR3 := Lib.hid hR3
          have HO3 := Lib.hid hO3
          have HOv3 := Lib.hid hown'
          clear hR3 hO3 hown' hgrow hsz
          go_wp2
          go_roundw
          case rel => exact ⟨m + 1, by omega, by simp, ⟨_, _, rfl, HOv3.out⟩, HR3.out, HO3.out⟩
          case measure => simp [intOf]; omega
        · obtain rfl : m = k := by omega
          have i2 : ¬ (m : Int) < (m : Int) := by omega
          have hfin := Ls.of (ls_of_own hov (by rw [List.length_map, elsK_length]) (by omega))
          have HO := Lib.hid hO
          have HRf := Lib.hid hRf
          have HLs := Lib.hid hfin
          clear hO hRf hfin hov
          go_wp2
          exact bodyPost_ret (v := .tuple #[.slice va m vc, .int .i64 0]) (by simp [results, Tryd.results17, go_sem]) rfl ⟨_, rfl, HLs.out, HRf.out, (HO1.out.mono (fun _ _ c => c.elim)).trans HO.out (fun _ _ e => e)⟩
end
section
open Go.RowKit
/-- The source at block b has the bytes bs left; all that it lies in is within S (to be told by the code's own layout). -/
def SrcP (W : World) (b : Nat) (bs : List Nat) (S : Nat → Prop) : Prop := S b ∧ (∀ k, S k → k < W.heap.size) ∧ Small bs ∧ ∃ a cap, W.heap[b]? = some (.cells #[.slice a bs.length cap] 65 (0, 0)) ∧ bs.length ≤ cap ∧ BsAt W a bs (fun j => S j ∧ j ≠ b)
theorem SrcP.off {W W' : World} {b : Nat} {bs : List Nat} {S S' : Nat → Prop} (h : SrcP W b bs S) (ho : Off S' W W') (hd : ∀ k, k < W.heap.size → S k → ¬ S' k) : SrcP W' b bs S := by
  obtain ⟨h0, hk, hs, a, cap, h1, h2, h3⟩ := h
  exact ⟨h0, fun k h => Nat.lt_of_lt_of_le (hk k h) ho.size, hs, a, cap, ho.heap h1 (hd b (heap_lt h1) h0), h2, h3.off ho (fun k hk hs => hd k hk hs.1)⟩
theorem SrcP.keep {W W' : World} {b : Nat} {bs : List Nat} {S : Nat → Prop} (h : SrcP W b bs S) (ho : Off (fun _ => False) W W') : SrcP W' b bs S := h.off ho (fun _ _ _ c => c)
theorem SrcP.mem {W : World} {b : Nat} {bs : List Nat} {S : Nat → Prop} (h : SrcP W b bs S) : S b := h.1
theorem SrcP.lt {W : World} {b : Nat} {bs : List Nat} {S : Nat → Prop} (h : SrcP W b bs S) : ∀ k, S k → k < W.heap.size := h.2.1
theorem SrcP.small {W : World} {b : Nat} {bs : List Nat} {S : Nat → Prop} (h : SrcP W b bs S) : Small bs := h.2.2.1
end
section
open Go.RowKit
attribute [local go_sem ↓] Go.wp_at_zero Go.wp_at_succ
set_option maxRecDepth 100000
set_option maxHeartbeats 4000000
theorem new_any (a : Option Addr) (n cap : Nat) (bs : List Nat) (S : Nat → Prop) (w : World) (hb : BsAt w a bs S) (hn : n = bs.length) (_hc : n ≤ cap) (hs : Small bs) (hl : n ≤ 5000) :
    Calls Tryd.prog 10 #[.slice a n cap] w fun e w' => ∃ b S', e = .returned (.pointer (some ⟨b, 0, none⟩)) ∧ SrcP w' b bs S' ∧ (∀ k, S' k → w.heap.size ≤ k) ∧ Off (fun _ => False) w w' := by
  have FC := Lib.hid (clone_by a n cap bs S w hb hn hl)
  have HS := Lib.hid hs
  clear hb hn hl hs
  go_enter Tryd.func10, Tryd.ntmps10
  go_wp2_with fail
  refine FC.out.mono ?_
  rintro e u ⟨v, rfl, hr, hO⟩
  obtain ⟨a', cap', rfl, hc', hb'⟩ := hr.at
  have hA := (Off.refl (fun _ => False) u).alloc (.cells #[.slice a' bs.length cap'] 65)
  have HB := Lib.hid (hb'.off hA (fun _ _ _ c => c))
  have HC := Lib.hid hc'
  have HO := Lib.hid hO
  have hs1 := hO.size
  clear hr hb' hc' hO hA FC
  go_wp2
  go_ret
  exact ⟨u.heap.size, fun j => w.heap.size ≤ j ∧ j < u.heap.size + 1, rfl, ⟨⟨hs1, by omega⟩, fun k h => by simp; omega, HS.out, a', cap', heap_new' rfl _, HC.out, HB.out.mono (fun k _ h => ⟨⟨h.1, by omega⟩, by omega⟩)⟩, fun k h => h.1, HO.out.alloc _⟩
theorem left_any (b : Nat) (bs : List Nat) (S : Nat → Prop) (w : World) (h : SrcP w b bs S) :
    Calls Tryd.prog 11 #[.pointer (some ⟨b, 0, none⟩)] w fun e w' => e = .returned (.int .i64 (bs.length : Int)) ∧ Off (fun _ => False) w w' := by
  obtain ⟨_, _, _, a, cap, h1, _, _⟩ := h
  obtain ⟨n, hn⟩ : ∃ n, n = bs.length := ⟨_, rfl⟩
  rw [← hn] at h1 ⊢
  have m0 : w.cell? ⟨b, 0, none⟩ = some (.slice a n cap) := cell_of_heap h1 0
  have lt := heap_lt h1
  clear h1 hn
  go_enter Tryd.func11, Tryd.ntmps11
  go_wp2
  go_ret
  exact ⟨rfl, Off.refl _ _⟩
theorem left_nil (w : World) : Calls Tryd.prog 11 #[.pointer none] w fun e w' => e = .returned (.int .i64 0) ∧ Off (fun _ => False) w w' := by
  go_enter Tryd.func11, Tryd.ntmps11
  go_wp2
  go_ret
  exact ⟨rfl, Off.refl _ _⟩
/-- The error of a call that takes n parts of z bytes each, of N bytes. -/
def chkC (N : Nat) (n : Int) (z : Nat) : Nat := if n < 0 then 2 else if ((N / z : Nat) : Int) < n then 7 else 0
theorem check_any (b : Nat) (bs : List Nat) (S : Nat → Prop) (n : Int) (_hn : (Lit.int .i64 n).wf = true) (z : Nat) (hz : 0 < z) (hz2 : z ≤ 64) (w : World) (h : SrcP w b bs S) (hl : bs.length ≤ 5000) :
    Calls Tryd.prog 24 #[.pointer (some ⟨b, 0, none⟩), .int .i64 n, .int .i64 (z : Int)] w fun e w' => e = .returned (.int .i64 (chkC bs.length n z : Int)) ∧ Off (fun _ => False) w w' := by
  obtain ⟨_, _, _, a, cap, h1, _, _⟩ := h
  obtain ⟨N, hN⟩ : ∃ N, N = bs.length := ⟨_, rfl⟩
  rw [← hN] at h1 hl ⊢
  have m0 : w.cell? ⟨b, 0, none⟩ = some (.slice a N cap) := cell_of_heap h1 0
  have lt := heap_lt h1
  obtain ⟨q, hq⟩ : ∃ q, q = N / z := ⟨_, rfl⟩
  have hqN : q ≤ N := by rw [hq]; exact Nat.div_le_self _ _
  have hq0 : Int.tdiv (N : Int) (z : Int) = (q : Int) := by
    rw [Int.tdiv_eq_ediv_of_nonneg (by omega), hq]
    exact (Int.natCast_ediv _ _).symm
  have hw0 : IntKind.i64.wrap (q : Int) = (q : Int) := by rw [IntKind.wrap_i64]; omega
  have hz0 : ¬ (z : Int) = 0 := by omega
  have hz1 : ¬ (z : Nat) = 0 := by omega
  unfold chkC
  rw [← hq]
  clear h1 hN hq hz hz2
  by_cases hneg : n < 0
  · rw [if_pos hneg]
    go_enter Tryd.func24, Tryd.ntmps24
    go_wp2
    go_ret
    exact ⟨rfl, Off.refl _ _⟩
  · rw [if_neg hneg]
    by_cases hfew : (q : Int) < n
    · rw [if_pos hfew]
      go_enter Tryd.func24, Tryd.ntmps24
      go_wp2
      go_ret
      exact ⟨rfl, Off.refl _ _⟩
    · rw [if_neg hfew]
      go_enter Tryd.func24, Tryd.ntmps24
      go_wp2
      go_ret
      exact ⟨rfl, Off.refl _ _⟩
theorem check_nil (n : Int) (z : Int) (w : World) :
    Calls Tryd.prog 24 #[.pointer none, .int .i64 n, .int .i64 z] w fun e w' => e = .returned (.int .i64 1) ∧ Off (fun _ => False) w w' := by
  go_enter Tryd.func24, Tryd.ntmps24
  go_wp2
  go_ret
  exact ⟨rfl, Off.refl _ _⟩
theorem take_any (b : Nat) (bs : List Nat) (S : Nat → Prop) (n : Int) (hn : (Lit.int .i64 n).wf = true) (w : World) (h : SrcP w b bs S) (hl : bs.length ≤ 5000) :
    Calls Tryd.prog 12 #[.pointer (some ⟨b, 0, none⟩), .int .i64 n] w fun e w' => ∃ v, e = .returned (.tuple #[v, .int .i64 ((takeV bs n).2.1 : Int)]) ∧ RowY w.heap.size w' v (takeV bs n).1 ∧ SrcP w' b (takeV bs n).2.2 S ∧ Off (fun k => k = b) w w' := by
  have FK := Lib.hid (check_any b bs S n hn 1 (by decide) (by decide) w h hl)
  have HH := Lib.hid h
  obtain ⟨hSb, hSw, hsm, a, cap, h1, hc, hb⟩ := h
  obtain ⟨N, hN⟩ : ∃ N, N = bs.length := ⟨_, rfl⟩
  rw [← hN] at h1 hc FK
  unfold chkC at FK
  rw [Nat.div_one] at FK
  have lt := heap_lt h1
  by_cases hneg : n < 0
  · rw [takeV_neg hneg]
    rw [if_pos hneg] at FK
    clear h1 hc hb hN hSb hSw hsm hl hn
    go_enter Tryd.func12, Tryd.ntmps12
    go_wp2_with fail
    refine FK.out.mono ?_
    rintro e u ⟨rfl, hO⟩
    have HP := Lib.hid (HH.out.keep hO)
    have HO := Lib.hid hO
    clear hO
    go_wp2
    exact bodyPost_ret (v := .tuple #[.slice none 0 0, .int .i64 2]) (by simp [results, Tryd.results12, go_sem]) rfl ⟨_, rfl, RowT.nil _, HP.out, Off.mono (S := fun _ => False) HO.out (fun _ _ c => c.elim)⟩
  · rw [if_neg hneg] at FK
    by_cases hfew : (N : Int) < n
    · rw [takeV_few (by omega) (by rw [← hN]; exact hfew)]
      rw [if_pos hfew] at FK
      clear h1 hc hb hN hSb hSw hsm hl hn
      go_enter Tryd.func12, Tryd.ntmps12
      go_wp2_with fail
      refine FK.out.mono ?_
      rintro e u ⟨rfl, hO⟩
      have HP := Lib.hid (HH.out.keep hO)
      have HO := Lib.hid hO
      clear hO
      go_wp2
      exact bodyPost_ret (v := .tuple #[.slice none 0 0, .int .i64 7]) (by simp [results, Tryd.results12, go_sem]) rfl ⟨_, rfl, RowT.nil _, HP.out, Off.mono (S := fun _ => False) HO.out (fun _ _ c => c.elim)⟩
    · rw [if_neg hfew] at FK
      obtain ⟨k, rfl⟩ : ∃ k : Nat, n = (k : Int) := Int.eq_ofNat_of_zero_le (by omega)
      have hk : k ≤ N := by omega
      rw [takeV_ok (by omega)]
      obtain ⟨a1, hs1, hb1⟩ := part_h a N cap k bs hN hk hc
      obtain ⟨a2, hs2, hb2⟩ := part_l a N cap k bs hN hk hc
      have FC := Lib.hid (fun W (h : Off (fun _ => False) w W) => clone_by a1 k cap (bs.take k) _ W (hb1 _ _ (hb.off h (fun _ _ _ c => c))) (by rw [List.length_take]; omega) (by omega))
      have HB2 := Lib.hid (fun W (h : Off (fun j => j = b) w W) => hb2 W _ (hb.off h (fun j _ hj e => hj.2 e)))
      have HG := Lib.hid h1
      have HD := Lib.hid (show (bs.drop k).length = N - k ∧ N - k ≤ cap - k ∧ Small (bs.drop k) ∧ S b ∧ (∀ j, S j → j < w.heap.size) from ⟨by rw [List.length_drop, hN], by omega, hsm.drop _, hSb, hSw⟩)
      clear h1 hc hb hN hSb hSw hsm hl hb1 hb2 hn hneg hfew
      go_enter Tryd.func12, Tryd.ntmps12
      go_wp2_with fail
      refine FK.out.mono ?_
      rintro e u0 ⟨rfl, hO⟩
      have h2 := hO.heap HG.out (fun c => c)
      have m0 : u0.cell? ⟨b, 0, none⟩ = some (.slice a N cap) := cell_of_heap h2 0
      have FC0 := Lib.hid (FC.out u0 hO)
      have HG0 := Lib.hid h2
      have HO0 := Lib.hid hO
      clear hO h2 FC
      go_wp2_with fail
      refine FC0.out.mono ?_
      rintro e u ⟨v, rfl, hr, hO⟩
      have h2 := hO.heap HG0.out (fun c => c)
      have m1 : u.cell? ⟨b, 0, none⟩ = some (.slice a N cap) := cell_of_heap h2 0
      have fz := fun j => frozen_of_heap h2 j
      have lt2 := heap_lt h2
      have hput := ref_put_one (u' := .slice a2 (N - k) (cap - k)) h2
      have hoff := ref_put_off u b (.slice a2 (N - k) (cap - k))
      have hO2 := (((HO0.out.trans hO (fun _ _ c => c)).mono (S' := fun j => j = b) (fun _ _ c => c.elim)).trans hoff (fun _ _ e => e))
      have HR := Lib.hid ((hr.base HO0.out.size).off hoff (fun j hj e => by have := (World.ownsRow.lt (hr.base HO0.out.size) j hj).1; omega))
      have HP := Lib.hid (show SrcP (u.setCell ⟨b, 0, none⟩ (.slice a2 (N - k) (cap - k))) b (bs.drop k) S from ⟨HD.out.2.2.2.1, fun j hj => Nat.lt_of_lt_of_le (HD.out.2.2.2.2 j hj) hO2.size, HD.out.2.2.1, a2, cap - k, by rw [HD.out.1]; exact hput, by rw [HD.out.1]; exact HD.out.2.1, HB2.out _ hO2⟩)
      have HO := Lib.hid hO2
      clear hput hoff hO2 hr hO h2 FC0 HB2 m0
      go_wp2
      exact bodyPost_ret (v := .tuple #[v, .int .i64 0]) (by simp [results, Tryd.results12, go_sem]) rfl ⟨_, rfl, HR.out, HP.out, HO.out⟩
theorem take_nil (n : Int) (w : World) : Calls Tryd.prog 12 #[.pointer none, .int .i64 n] w fun e w' => e = .returned (.tuple #[.slice none 0 0, .int .i64 1]) ∧ Off (fun _ => False) w w' := by
  have FK := Lib.hid (check_nil n 1 w)
  go_enter Tryd.func12, Tryd.ntmps12
  go_wp2_with fail
  refine FK.out.mono ?_
  rintro e u ⟨rfl, hO⟩
  have HO := Lib.hid hO
  clear hO
  go_wp2
  exact bodyPost_ret (v := .tuple #[.slice none 0 0, .int .i64 1]) (by simp [results, Tryd.results12, go_sem]) rfl ⟨rfl, HO.out⟩
theorem off4S {S : Nat → Prop} {w u : World} {b : Nat} (h : Off S w u) (hb : b < w.heap.size → S b) (v0 v1 v2 v3 : Value) : Off S w ((((u.setCell ⟨b, 0, none⟩ v0).setCell ⟨b, 1, none⟩ v1).setCell ⟨b, 2, none⟩ v2).setCell ⟨b, 3, none⟩ v3) :=
  (((h.setCell (p := ⟨b, 0, none⟩) hb _).setCell (p := ⟨b, 1, none⟩) hb _).setCell (p := ⟨b, 2, none⟩) hb _).setCell (p := ⟨b, 3, none⟩) hb _
theorem elem_nil (id : Int) (p i r s : Nat) (w : World) : Calls Tryd.prog 19 #[.pointer none, FV id p i r s] w fun e w' => e = .returned (.tuple #[.agg #[.int .u64 0, .int .u64 0, .int .u64 0, .int .u64 0], .int .i64 1]) ∧ Off (fun _ => False) w w' := by
  have FT := Lib.hid (fun W => take_nil 64 W)
  go_enter Tryd.func19, Tryd.ntmps19
  go_wp2_with fail
  obtain ⟨W0, hW0⟩ : ∃ W0, W0 = ((w.alloc (.cells #[.int .i64 id, .int .u64 (wd p 0 : Int), .int .u64 (wd p 1 : Int), .int .u64 (wd p 2 : Int), .int .u64 (wd p 3 : Int), .int .u64 (i : Int), .int .u64 (wd r 0 : Int), .int .u64 (wd r 1 : Int), .int .u64 (wd r 2 : Int), .int .u64 (wd r 3 : Int), .int .u64 (wd s 0 : Int), .int .u64 (wd s 1 : Int), .int .u64 (wd s 2 : Int), .int .u64 (wd s 3 : Int)] 42)).alloc (.cells #[.int .u64 0, .int .u64 0, .int .u64 0, .int .u64 0] 40)) := ⟨_, rfl⟩
  have hO0 : Off (fun _ => False) w W0 := by rw [hW0]; exact ((Off.refl _ w).alloc _).alloc _
  have g1 : W0.heap[w.heap.size + 1]? = some (.cells #[.int .u64 0, .int .u64 0, .int .u64 0, .int .u64 0] 40) := by rw [hW0]; exact heap_new' (by simp) _
  rw [← hW0]
  clear hW0
  refine (FT.out _).mono ?_
  rintro e u ⟨rfl, hO⟩
  have h1 := hO.heap g1 (fun c => c)
  have HOu := Lib.hid (hO0.trans hO (fun _ _ c => c))
  obtain ⟨⟨r0, r1, r2, r3⟩, fz, lt⟩ := zero_cells h1
  clear h1 hO hO0 g1
  go_wp2
  refine bodyPost_ret (v := .tuple #[.agg #[.int .u64 0, .int .u64 0, .int .u64 0, .int .u64 0], .int .i64 1]) (by simp [results, Tryd.results19, go_sem, r0, r1, r2, r3]) rfl ⟨rfl, ?_⟩
  exact off4 HOu.out (by omega) _ _ _ _
theorem elem_any {id : Int} {p i r s : Nat} (hF : Fld id p i r s) (b : Nat) (bs : List Nat) (S : Nat → Prop) (w : World) (h : SrcP w b bs S) (hl : bs.length ≤ 5000) :
    Calls Tryd.prog 19 #[.pointer (some ⟨b, 0, none⟩), FV id p i r s] w fun e w' => e = .returned (.tuple #[V (fm p (elemV bs).1), .int .i64 ((elemV bs).2.1 : Int)]) ∧ SrcP w' b (elemV bs).2.2 S ∧ Off (fun k => k = b) w w' := by
  obtain ⟨W0, hW0⟩ : ∃ W0, W0 = ((w.alloc (.cells #[.int .i64 id, .int .u64 (wd p 0 : Int), .int .u64 (wd p 1 : Int), .int .u64 (wd p 2 : Int), .int .u64 (wd p 3 : Int), .int .u64 (i : Int), .int .u64 (wd r 0 : Int), .int .u64 (wd r 1 : Int), .int .u64 (wd r 2 : Int), .int .u64 (wd r 3 : Int), .int .u64 (wd s 0 : Int), .int .u64 (wd s 1 : Int), .int .u64 (wd s 2 : Int), .int .u64 (wd s 3 : Int)] 42)).alloc (.cells #[.int .u64 0, .int .u64 0, .int .u64 0, .int .u64 0] 40)) := ⟨_, rfl⟩
  have hO0 : Off (fun _ => False) w W0 := by rw [hW0]; exact ((Off.refl _ w).alloc _).alloc _
  have g0 : W0.heap[w.heap.size]? = some (.cells #[.int .i64 id, .int .u64 (wd p 0 : Int), .int .u64 (wd p 1 : Int), .int .u64 (wd p 2 : Int), .int .u64 (wd p 3 : Int), .int .u64 (i : Int), .int .u64 (wd r 0 : Int), .int .u64 (wd r 1 : Int), .int .u64 (wd r 2 : Int), .int .u64 (wd r 3 : Int), .int .u64 (wd s 0 : Int), .int .u64 (wd s 1 : Int), .int .u64 (wd s 2 : Int), .int .u64 (wd s 3 : Int)] 42) := by rw [hW0]; exact heap_old' (heap_new' rfl _) _
  have g1 : W0.heap[w.heap.size + 1]? = some (.cells #[.int .u64 0, .int .u64 0, .int .u64 0, .int .u64 0] 40) := by rw [hW0]; exact heap_new' (by simp) _
  have hbw := h.lt b h.mem
  have hsm := h.small
  have HSw := Lib.hid h.lt
  have FT := Lib.hid (take_any b bs S 64 (by decide) W0 (h.keep hO0) hl)
  have HW0 := Lib.hid hW0
  have HO0 := Lib.hid hO0
  have HG0 := Lib.hid g0
  have HG1 := Lib.hid g1
  have HBw := Lib.hid hbw
  clear hW0 hO0 g0 g1 h hbw
  by_cases h64 : 64 ≤ bs.length
  · rw [show takeV bs 64 = (bs.take 64, 0, bs.drop 64) from takeV_ok h64] at FT
    rw [show elemV bs = (elB bs 0, 0, bs.drop 64) by unfold elemV; rw [if_pos h64]]
    have h6 : (bs.take 64).length = 64 := by rw [List.length_take]; omega
    have FW := Lib.hid (fun (W : World) (a : Option Addr) (c : Nat) (St : Nat → Prop) (hc : 64 ≤ c) (hb : BsAt W a (bs.take 64) St) => wide_any hF a 64 c (bs.take 64) St W hb h6.symm (hsm.take _) hc)
    rw [show wideV p (bs.take 64) = (fm p (elB bs 0), 0) by unfold wideV elB; rw [if_pos h6, Nat.mul_zero, List.drop_zero]] at FW
    obtain ⟨y, hy⟩ : ∃ y, y = fm p (elB bs 0) := ⟨_, rfl⟩
    dsimp only at FT FW ⊢
    rw [← hy] at FW ⊢
    have H6 := Lib.hid h6
    clear hF hsm hl h64 h6 hy
    go_enter Tryd.func19, Tryd.ntmps19
    go_wp2_with fail
    rw [← HW0.out]
    refine FT.out.mono ?_
    rintro e u1 ⟨v, rfl, hr, hP, hO⟩
    obtain ⟨a, cap, rfl, hc, hb⟩ := hr.at
    rw [H6.out] at hc ⊢
    have HB := Lib.hid hb
    have HP1 := Lib.hid hP
    have HO1 := Lib.hid hO
    have HGf := Lib.hid (hO.heap HG0.out (fun e => by have := HBw.out; omega))
    have HGr := Lib.hid (hO.heap HG1.out (fun e => by have := HBw.out; omega))
    obtain ⟨f0, f1, f2, f3, f4, f5, f6, f7, f8, f9, f10, f11, f12, f13⟩ := fv_cells HGf.out
    have hltf := heap_lt HGf.out
    clear hr hP hO hb FT
    go_wp2_with fail
    refine (FW.out _ _ _ _ hc HB.out).mono ?_
    rintro e u2 ⟨rfl, hO⟩
    obtain ⟨⟨r0, r1, r2, r3⟩, fz, lt⟩ := zero_cells (hO.heap HGr.out (fun c => c))
    have HP2 := Lib.hid (HP1.out.keep hO)
    have HO2 := Lib.hid ((HO0.out.mono (S' := fun j => j = b) (fun _ _ c => c.elim)).trans (HO1.out.trans hO (fun _ _ c => c.elim)) (fun _ _ e => e))
    have hsz := HO2.out.size
    have hbw := HBw.out
    have hszr := HO0.out.size
    clear hO f0 f1 f2 f3 f4 f5 f6 f7 f8 f9 f10 f11 f12 f13 hltf
    go_wp2
    refine bodyPost_ret (v := .tuple #[V y, .int .i64 0]) (by simp [results, Tryd.results19, go_sem, r0, r1, r2, r3]) rfl ⟨rfl, ?_, ?_⟩
    · exact HP2.out.off (off4S (S := fun j => j = w.heap.size + 1) (Off.refl _ _) (fun _ => rfl) _ _ _ _) (fun j _ hj e => by have := HSw.out j hj; omega)
    · exact off4S HO2.out (fun h => by omega) _ _ _ _
  · rw [show takeV bs 64 = ([], 7, bs) from takeV_few (by decide) (by omega)] at FT
    rw [show elemV bs = (0, 7, bs) by unfold elemV; rw [if_neg h64]]
    have hz : V (fm p 0) = .agg #[.int .u64 0, .int .u64 0, .int .u64 0, .int .u64 0] := by
      rw [fm_zero]
      exact lit_small 0 (by decide)
    dsimp only at FT ⊢
    rw [hz]
    clear hF hsm hl h64 hz
    go_enter Tryd.func19, Tryd.ntmps19
    go_wp2_with fail
    rw [← HW0.out]
    refine FT.out.mono ?_
    rintro e u1 ⟨v, rfl, hr, hP, hO⟩
    obtain ⟨a, cap, rfl, hc, hb⟩ := hr.at
    obtain ⟨⟨r0, r1, r2, r3⟩, fz, lt⟩ := zero_cells (hO.heap HG1.out (fun e => by have := HBw.out; omega))
    have HP2 := Lib.hid hP
    have HO2 := Lib.hid ((HO0.out.mono (S' := fun j => j = b) (fun _ _ c => c.elim)).trans hO (fun _ _ e => e))
    clear hr hP hO hb hc FT
    go_wp2
    refine bodyPost_ret (v := .tuple #[.agg #[.int .u64 0, .int .u64 0, .int .u64 0, .int .u64 0], .int .i64 7]) (by simp [results, Tryd.results19, go_sem, r0, r1, r2, r3]) rfl ⟨rfl, ?_, ?_⟩
    · exact HP2.out.off (off4S (S := fun j => j = w.heap.size + 1) (Off.refl _ _) (fun _ => rfl) _ _ _ _) (fun j _ hj e => by have := HSw.out j hj; omega)
    · exact off4S HO2.out (fun h => by omega) _ _ _ _
theorem els_nil (id : Int) (p i r s : Nat) (n : Int) (w : World) : Calls Tryd.prog 16 #[.pointer none, FV id p i r s, .int .i64 n] w fun e w' => e = .returned (.tuple #[.slice none 0 0, .int .i64 1]) ∧ Off (fun _ => False) w w' := by
  have FK := Lib.hid (fun W => check_nil n 64 W)
  go_enter Tryd.func16, Tryd.ntmps16
  go_wp2_with fail
  obtain ⟨W0, hW0⟩ : ∃ W0, W0 = w.alloc (.cells #[.int .i64 id, .int .u64 (wd p 0 : Int), .int .u64 (wd p 1 : Int), .int .u64 (wd p 2 : Int), .int .u64 (wd p 3 : Int), .int .u64 (i : Int), .int .u64 (wd r 0 : Int), .int .u64 (wd r 1 : Int), .int .u64 (wd r 2 : Int), .int .u64 (wd r 3 : Int), .int .u64 (wd s 0 : Int), .int .u64 (wd s 1 : Int), .int .u64 (wd s 2 : Int), .int .u64 (wd s 3 : Int)] 42) := ⟨_, rfl⟩
  have hO0 : Off (fun _ => False) w W0 := by rw [hW0]; exact (Off.refl _ w).alloc _
  rw [← hW0]
  clear hW0
  refine (FK.out _).mono ?_
  rintro e u ⟨rfl, hO⟩
  have HO := Lib.hid (hO0.trans hO (fun _ _ c => c))
  clear hO hO0
  go_wp2
  exact bodyPost_ret (v := .tuple #[.slice none 0 0, .int .i64 1]) (by simp [results, Tryd.results16, go_sem]) rfl ⟨rfl, HO.out⟩
theorem els_any {id : Int} {p i r s : Nat} (hF : Fld id p i r s) (b : Nat) (bs : List Nat) (S : Nat → Prop) (n : Int) (hn : (Lit.int .i64 n).wf = true) (w : World) (h : SrcP w b bs S) (hl : bs.length ≤ 5000) :
    Calls Tryd.prog 16 #[.pointer (some ⟨b, 0, none⟩), FV id p i r s, .int .i64 n] w fun e w' => ∃ v, e = .returned (.tuple #[v, .int .i64 ((elemsV bs n).2.1 : Int)]) ∧ LsAt w' v ((elemsV bs n).1.map (fm p)) (fun j => w.heap.size ≤ j) ∧ SrcP w' b (elemsV bs n).2.2 S ∧ Off (fun k => k = b) w w' := by
  obtain ⟨W0, hW0⟩ : ∃ W0, W0 = w.alloc (.cells #[.int .i64 id, .int .u64 (wd p 0 : Int), .int .u64 (wd p 1 : Int), .int .u64 (wd p 2 : Int), .int .u64 (wd p 3 : Int), .int .u64 (i : Int), .int .u64 (wd r 0 : Int), .int .u64 (wd r 1 : Int), .int .u64 (wd r 2 : Int), .int .u64 (wd r 3 : Int), .int .u64 (wd s 0 : Int), .int .u64 (wd s 1 : Int), .int .u64 (wd s 2 : Int), .int .u64 (wd s 3 : Int)] 42) := ⟨_, rfl⟩
  have hO0 : Off (fun _ => False) w W0 := by rw [hW0]; exact (Off.refl _ w).alloc _
  have g0 : W0.heap[w.heap.size]? = some (.cells #[.int .i64 id, .int .u64 (wd p 0 : Int), .int .u64 (wd p 1 : Int), .int .u64 (wd p 2 : Int), .int .u64 (wd p 3 : Int), .int .u64 (i : Int), .int .u64 (wd r 0 : Int), .int .u64 (wd r 1 : Int), .int .u64 (wd r 2 : Int), .int .u64 (wd r 3 : Int), .int .u64 (wd s 0 : Int), .int .u64 (wd s 1 : Int), .int .u64 (wd s 2 : Int), .int .u64 (wd s 3 : Int)] 42) := by rw [hW0]; exact heap_new' rfl _
  have hbw := h.lt b h.mem
  have HP0 := Lib.hid (h.keep hO0)
  have HW0 := Lib.hid hW0
  have HO0 := Lib.hid hO0
  have HG0 := Lib.hid g0
  have HBw := Lib.hid hbw
  have HSw := Lib.hid h.lt
  clear hW0 hO0 g0 h hbw
  obtain ⟨N, hN⟩ : ∃ N, N = bs.length := ⟨_, rfl⟩
  have FL := Lib.hid (check_any b bs S n hn 64 (by decide) (by decide) W0 HP0.out hl)
  rw [← hN] at FL
  unfold chkC at FL
  obtain ⟨q, hq⟩ : ∃ q, q = N / 64 := ⟨_, rfl⟩
  rw [← hq] at FL
  by_cases hneg : n < 0
  · rw [elemsV_neg hneg]
    rw [if_pos hneg] at FL
    clear hF hl hN hq hn
    go_enter Tryd.func16, Tryd.ntmps16
    go_wp2_with fail
    rw [← HW0.out]
    refine FL.out.mono ?_
    rintro e u ⟨rfl, hO⟩
    have HPu := Lib.hid (HP0.out.keep hO)
    have HOu := Lib.hid (HO0.out.trans hO (fun _ _ c => c))
    clear hO
    go_wp2
    exact bodyPost_ret (v := .tuple #[.slice none 0 0, .int .i64 2]) (by simp [results, Tryd.results16, go_sem]) rfl ⟨_, rfl, ⟨none, 0, rfl, Nat.zero_le _, fun h => by simp at h⟩, HPu.out, Off.mono (S := fun _ => False) HOu.out (fun _ _ c => c.elim)⟩
  · rw [if_neg hneg] at FL
    by_cases hfew : (q : Int) < n
    · rw [elemsV_few (by omega) (by rw [← hN, ← hq]; exact hfew)]
      rw [if_pos hfew] at FL
      clear hF hl hN hq hn
      go_enter Tryd.func16, Tryd.ntmps16
      go_wp2_with fail
      rw [← HW0.out]
      refine FL.out.mono ?_
      rintro e u ⟨rfl, hO⟩
      have HPu := Lib.hid (HP0.out.keep hO)
      have HOu := Lib.hid (HO0.out.trans hO (fun _ _ c => c))
      clear hO
      go_wp2
      exact bodyPost_ret (v := .tuple #[.slice none 0 0, .int .i64 7]) (by simp [results, Tryd.results16, go_sem]) rfl ⟨_, rfl, ⟨none, 0, rfl, Nat.zero_le _, fun h => by simp at h⟩, HPu.out, Off.mono (S := fun _ => False) HOu.out (fun _ _ c => c.elim)⟩
    · rw [if_neg hfew] at FL
      obtain ⟨k, rfl⟩ : ∃ k : Nat, n = (k : Int) := Int.eq_ofNat_of_zero_le (by omega)
      rw [elemsV_ok (by omega)]
      have HKl := Lib.hid (show 64 * k ≤ bs.length ∧ bs.length ≤ 5000 by omega)
      have hk2 : k ≤ 100 := by omega
      have hmk := run_make_el k (by omega)
      have hmf : ∀ (fn : Fn) (first cap : Array Value) (W : World), (Instr.makeFunc fn first cap).run Tryd.prog W = .ok (.func fn first cap) W := fun _ _ _ _ => rfl
      have HF := Lib.hid hF
      clear hF hl hN hq hn hneg hfew
      go_enter Tryd.func16, Tryd.ntmps16
      go_wp2_with fail
      rw [← HW0.out]
      refine FL.out.mono ?_
      rintro e u1 ⟨rfl, hO1⟩
      have HP1 := Lib.hid (HP0.out.keep hO1)
      have HG1 := Lib.hid (hO1.heap HG0.out (fun c => c))
      have HO1 := Lib.hid (HO0.out.trans hO1 (fun _ _ c => c))
      have HB1 := Lib.hid (show w.heap.size < u1.heap.size ∧ b < u1.heap.size from ⟨heap_lt (hO1.heap HG0.out (fun c => c)), (HP0.out.keep hO1).lt b (HP0.out.keep hO1).mem⟩)
      clear hO1 FL
      go_wp2_with fail
      obtain ⟨W2, hW2⟩ : ∃ W2, W2 = u1.alloc (.cells (flat4 (List.replicate k 0)).toArray 40) := ⟨_, rfl⟩
      have hA2 : Off (fun _ => False) u1 W2 := by rw [hW2]; exact (Off.refl _ u1).alloc _
      have gA : NumsAt W2 u1.heap.size 40 (List.replicate k 0) := by rw [hW2]; exact heap_new' rfl _
      obtain ⟨arr, harr⟩ : ∃ arr, arr = u1.heap.size := ⟨_, rfl⟩
      rw [← hW2, ← harr]
      rw [← harr] at gA
      have HP2 := Lib.hid (HP1.out.keep hA2)
      have HG2 := Lib.hid (hA2.heap HG1.out (fun c => c))
      have HO2 := Lib.hid ((HO1.out.trans hA2 (fun _ _ c => c)).mono (S' := fun j => j = b) (fun _ _ c => c.elim))
      have HAr := Lib.hid (show w.heap.size < arr ∧ b < w.heap.size ∧ b ≠ arr from ⟨by have := HB1.out; omega, HBw.out, by have := HB1.out; omega⟩)
      have HA2 := Lib.hid gA
      clear hW2 hA2 gA harr hmk HP1 HG1 HO1 HP0
      go_loopw [23] (fun i2 wr => ∃ (m : Nat) (L : List Nat), m ≤ k ∧ i2 = .int .i64 (m : Int) ∧ L.length = k ∧ L.take m = (elsK bs m).map (fm p) ∧ NumsAt wr arr 40 L ∧ SrcP wr b (bs.drop (64 * m)) S ∧ wr.heap[w.heap.size]? = some (.cells #[.int .i64 id, .int .u64 (wd p 0 : Int), .int .u64 (wd p 1 : Int), .int .u64 (wd p 2 : Int), .int .u64 (wd p 3 : Int), .int .u64 (i : Int), .int .u64 (wd r 0 : Int), .int .u64 (wd r 1 : Int), .int .u64 (wd r 2 : Int), .int .u64 (wd r 3 : Int), .int .u64 (wd s 0 : Int), .int .u64 (wd s 1 : Int), .int .u64 (wd s 2 : Int), .int .u64 (wd s 3 : Int)] 42) ∧ Off (fun j => j = b) w wr) (fun i2 _ => k - (intOf i2).toNat)
      case atStart => exact ⟨0, List.replicate k 0, Nat.zero_le _, rfl, List.length_replicate, rfl, HA2.out, HP2.out, HG2.out, HO2.out⟩
      case round =>
        clear HA2 HP2 HG2 HO2
        obtain ⟨m, L, hm, rfl, hL, hT, hA, hP, hG, hO⟩ := hrel
        by_cases hlt : m < k
        · have FE := Lib.hid (elem_any HF.out b (bs.drop (64 * m)) S _ hP (by rw [List.length_drop]; have := HKl.out; omega))
          have h64 : 64 ≤ (bs.drop (64 * m)).length := by rw [List.length_drop]; have := HKl.out; omega
          rw [show elemV (bs.drop (64 * m)) = (elB bs m, 0, bs.drop (64 * (m + 1))) by unfold elemV; rw [if_pos h64, List.drop_drop, show 64 * m + 64 = 64 * (m + 1) by omega]; unfold elB; rw [List.drop_drop, show 64 * m + 64 * 0 = 64 * m by omega]] at FE
          obtain ⟨z, hz⟩ : ∃ z, z = fm p (elB bs m) := ⟨_, rfl⟩
          dsimp only at FE
          rw [← hz] at FE
          have i1 : (m : Int) < (k : Int) := by omega
          have w2 : IntKind.i64.wrap ((m : Int) + 1) = (m : Int) + 1 := by rw [IntKind.wrap_i64]; omega
          have HLn := Lib.hid (show (L.set m z).length = k ∧ (L.set m z).take (m + 1) = (elsK bs (m + 1)).map (fm p) by
            refine ⟨by rw [List.length_set, hL], ?_⟩
            rw [elsK_succ, List.map_append, ← hT, List.take_add_one, List.take_set_of_le (Nat.le_refl _)]
            simp [hL, hlt, hz])
          have HA := Lib.hid hA
          have HG := Lib.hid hG
          have HO := Lib.hid hO
          have HOj := Lib.hid (show L[m]? = some (L.getD m 0) by rw [List.getD_eq_getElem?_getD, List.getElem?_eq_getElem (by omega)]; rfl)
          have HLl := Lib.hid (show m < L.length by omega)
          obtain ⟨f0, f1, f2, f3, f4, f5, f6, f7, f8, f9, f10, f11, f12, f13⟩ := fv_cells HG.out
          have hltf := heap_lt HG.out
          clear hA hP hG hO hT hL h64 hz
          go_wp2_with fail
          refine FE.out.mono ?_
          rintro e u3 ⟨rfl, hP3, hO3⟩
          have hZ := HA.out.off hO3 (fun e => HAr.out.2.2 e.symm)
          obtain ⟨m0, m1, m2, m3⟩ := NumsAt.cell hZ HOj.out
          have fz := fun j => NumsAt.frozen hZ j
          have lt := heap_lt hZ
          have hst := NumsAt.store hZ HLl.out z
          have hoff := setCells_off arr (words4 z) (m * 4) u3
          have HN3 := Lib.hid hst
          have HG3 := Lib.hid (hoff.heap (hO3.heap HG.out (fun e => by have := HAr.out; omega)) (fun e => by have := HAr.out; omega))
          have HP3 := Lib.hid (hP3.off hoff (fun j _ hj e => by have := HSw.out j hj; have := HAr.out; omega))
          have HO3 := Lib.hid ((HO.out.trans hO3 (fun _ _ e => e)).trans hoff (fun j hj e => by have := HAr.out; omega))
          clear hZ hst hoff hO3 hP3 f0 f1 f2 f3 f4 f5 f6 f7 f8 f9 f10 f11 f12 f13 hltf FE HA HG HO
          go_wp2
          go_roundw
          case rel => exact ⟨m + 1, L.set m z, by omega, by simp, HLn.out.1, HLn.out.2, HN3.out, HP3.out, HG3.out, HO3.out⟩
          case measure => simp [intOf]; omega
        · obtain rfl : m = k := by omega
          have i1 : ¬ (m : Int) < (m : Int) := by omega
          have hfin : L = (elsK bs m).map (fm p) := by rw [← hT, List.take_of_length_le (by omega)]
          have HLs := Lib.hid (show LsAt _ (.slice (some ⟨arr, 0, none⟩) m m) ((elsK bs m).map (fm p)) (fun j => w.heap.size ≤ j) by
            have h1 := Ls.of_all (cap := m) hA (by omega)
            rw [hL] at h1
            rw [← hfin]
            obtain ⟨a', c', hv, hlen, hat⟩ := h1
            refine ⟨a', c', hv, hlen, fun hp => ?_⟩
            obtain ⟨b', o', ha, _, hc⟩ := hat hp
            refine ⟨b', o', ha, ?_, hc⟩
            rw [ha] at hv
            simp at hv
            have := HAr.out
            omega)
          have HP3 := Lib.hid hP
          have HO3 := Lib.hid hO
          clear hA hP hG hO hT hL hfin
          go_wp2
          exact bodyPost_ret (v := .tuple #[.slice (some ⟨arr, 0, none⟩) m m, .int .i64 0]) (by simp [results, Tryd.results16, go_sem]) rfl ⟨_, rfl, HLs.out, HP3.out, HO3.out⟩
end
end Go.Proofs.YtpiialjnjfkfeaaDoor
