/-
  Random bytes in plain lists: what Take, Element and Elements return and leave. Plain facts; the conditions are of lengths.
  The reference of layer 14 over this seat's translation: Take and Elements of its Source. Conditions: its bytes are readable and not in the source's own block.
-/
import Derived.Test.YtclehgconbdkpaaDoorBytLow
import Derived.Test.YtclehgconbdkpaaDoorBytRow
import Derived.Test.YtclehgconbdkpaaDoorBytAll
import Derived.Test.YtclehgconbdkpaaDoorRowsEl
namespace Go.Proofs.YtclehgconbdkpaaDoor
section
/-- Take: the bytes, the error, the bytes that remain. -/
def takeV (bs : List Nat) (n : Int) : List Nat × Nat × List Nat := if n < 0 then ([], 2, bs) else if (bs.length : Int) < n then ([], 7, bs) else (bs.take n.toNat, 0, bs.drop n.toNat)
theorem takeV_ok {bs : List Nat} {n : Nat} (h : n ≤ bs.length) : takeV bs (n : Int) = (bs.take n, 0, bs.drop n) := by
  unfold takeV; rw [if_neg (by omega), if_neg (by omega), Int.toNat_natCast]
theorem takeV_neg {bs : List Nat} {n : Int} (h : n < 0) : takeV bs n = ([], 2, bs) := by unfold takeV; rw [if_pos h]
theorem takeV_few {bs : List Nat} {n : Int} (h0 : 0 ≤ n) (h : (bs.length : Int) < n) : takeV bs n = ([], 7, bs) := by unfold takeV; rw [if_neg (by omega), if_pos h]
theorem takeV_rest (bs : List Nat) (n : Int) : (takeV bs n).2.2.length ≤ bs.length := by
  unfold takeV
  split
  · exact Nat.le_refl _
  · split
    · exact Nat.le_refl _
    · simp
theorem takeV_small {bs : List Nat} (h : Small bs) (n : Int) : Small (takeV bs n).1 ∧ Small (takeV bs n).2.2 := by
  unfold takeV
  split
  · exact ⟨fun x hx => by simp at hx, h⟩
  · split
    · exact ⟨fun x hx => by simp at hx, h⟩
    · exact ⟨h.take _, h.drop _⟩
/-- The number of the element with the index i. -/
def elB (bs : List Nat) (i : Nat) : Nat := numB ((bs.drop (64 * i)).take 64)
def elsK (bs : List Nat) (k : Nat) : List Nat := (List.range k).map (elB bs)
theorem elsK_zero (bs : List Nat) : elsK bs 0 = [] := rfl
theorem elsK_succ (bs : List Nat) (k : Nat) : elsK bs (k + 1) = elsK bs k ++ [elB bs k] := by simp [elsK, List.range_succ]
theorem elsK_length (bs : List Nat) (k : Nat) : (elsK bs k).length = k := by simp [elsK]
theorem elsK_add (bs : List Nat) (n k : Nat) : elsK bs (n + k) = elsK bs n ++ elsK (bs.drop (64 * n)) k := by
  unfold elsK
  rw [List.range_add, List.map_append, List.map_map]
  congr 1
  apply List.map_congr_left
  intro i _
  show elB bs (n + i) = elB (bs.drop (64 * n)) i
  unfold elB
  rw [List.drop_drop, show 64 * n + 64 * i = 64 * (n + i) by omega]
/-- Elements: the numbers, the error, the bytes that remain. -/
def elemsV (bs : List Nat) (n : Int) : List Nat × Nat × List Nat := if n < 0 then ([], 2, bs) else if ((bs.length / 64 : Nat) : Int) < n then ([], 7, bs) else (elsK bs n.toNat, 0, bs.drop (64 * n.toNat))
theorem elemsV_ok {bs : List Nat} {n : Nat} (h : 64 * n ≤ bs.length) : elemsV bs (n : Int) = (elsK bs n, 0, bs.drop (64 * n)) := by
  unfold elemsV; rw [if_neg (by omega), if_neg (by omega), Int.toNat_natCast]
theorem elemsV_neg {bs : List Nat} {n : Int} (h : n < 0) : elemsV bs n = ([], 2, bs) := by unfold elemsV; rw [if_pos h]
theorem elemsV_few {bs : List Nat} {n : Int} (h0 : 0 ≤ n) (h : ((bs.length / 64 : Nat) : Int) < n) : elemsV bs n = ([], 7, bs) := by unfold elemsV; rw [if_neg (by omega), if_pos h]
theorem elemsV_rest (bs : List Nat) (n : Int) : (elemsV bs n).2.2.length ≤ bs.length := by
  unfold elemsV
  split
  · exact Nat.le_refl _
  · split
    · exact Nat.le_refl _
    · simp
theorem elemsV_small {bs : List Nat} (h : Small bs) (n : Int) : Small (elemsV bs n).2.2 := by
  unfold elemsV
  split
  · exact h
  · split
    · exact h
    · exact h.drop _
theorem elemsV_len (bs : List Nat) (n : Int) : 64 * (elemsV bs n).1.length ≤ bs.length := by
  unfold elemsV
  split
  · exact Nat.zero_le _
  · split
    · exact Nat.zero_le _
    · rw [elsK_length]; omega
/-- Element: the number, the error, the bytes that remain. -/
def elemV (bs : List Nat) : Nat × Nat × List Nat := if 64 ≤ bs.length then (elB bs 0, 0, bs.drop 64) else (0, 7, bs)
theorem elemV_elems (bs : List Nat) : (64 ≤ bs.length → elemsV bs 1 = ([elB bs 0], 0, bs.drop 64)) ∧ (¬ 64 ≤ bs.length → elemsV bs 1 = ([], 7, bs)) := by
  refine ⟨fun h => ?_, fun h => ?_⟩
  · have := elemsV_ok (bs := bs) (n := 1) (by omega)
    exact this
  · exact elemsV_few (by omega) (by omega)
end
section
open Go.RowKit
attribute [local go_sem ↓] Go.wp_at_zero Go.wp_at_succ
/-- The reference's source at block b has the bytes bs left, which lie within S. -/
def RefP (W : World) (b : Nat) (bs : List Nat) (S : Nat → Prop) : Prop := ∃ a cap, W.heap[b]? = some (.cells #[.slice a bs.length cap] 85 (0, 0)) ∧ bs.length ≤ cap ∧ BsAt W a bs S
theorem RefP.off {W W' : World} {b : Nat} {bs : List Nat} {S S' : Nat → Prop} (h : RefP W b bs S) (ho : Off S' W W') (hb : ¬ S' b) (hd : ∀ k, k < W.heap.size → S k → ¬ S' k) : RefP W' b bs S := by
  obtain ⟨a, cap, h1, h2, h3⟩ := h
  exact ⟨a, cap, ho.heap h1 hb, h2, h3.off ho hd⟩
theorem RefP.lt {W : World} {b : Nat} {bs : List Nat} {S : Nat → Prop} (h : RefP W b bs S) : b < W.heap.size := by
  obtain ⟨a, cap, h1, _⟩ := h
  exact heap_lt h1
theorem ref_put_one {W : World} {b : Nat} {u u' : Value} {T : TypeId} (h : W.heap[b]? = some (.cells #[u] T (0, 0))) : (W.setCell ⟨b, 0, none⟩ u').heap[b]? = some (.cells #[u'] T (0, 0)) := setCells_at (vs := [u']) h rfl
theorem ref_put_off (W : World) (b : Nat) (u' : Value) : Off (fun k => k = b) W (W.setCell ⟨b, 0, none⟩ u') := setCells_off b [u'] 0 W
set_option maxRecDepth 100000 in
set_option maxHeartbeats 4000000 in
theorem reftake_any (b : Nat) (bs : List Nat) (S : Nat → Prop) (n : Int) (_hn : (Lit.int .i64 n).wf = true) (w : World) (h : RefP w b bs S) (hS : ∀ k, S k → k ≠ b) :
    Calls Tryd.prog 66 #[.pointer (some ⟨b, 0, none⟩), .int .i64 n] w fun e w' => ∃ a m c, e = .returned (.tuple #[.slice a m c, .int .i64 ((takeV bs n).2.1 : Int)]) ∧ m = (takeV bs n).1.length ∧ m ≤ c ∧ BsAt w' a (takeV bs n).1 S ∧ RefP w' b (takeV bs n).2.2 S ∧ Off (fun k => k = b) w w' := by
  obtain ⟨a, cap, h1, hc, hb⟩ := h
  obtain ⟨N, hN⟩ : ∃ N, N = bs.length := ⟨_, rfl⟩
  rw [← hN] at h1 hc
  have m0 : w.cell? ⟨b, 0, none⟩ = some (.slice a N cap) := cell_of_heap h1 0
  by_cases hneg : n < 0
  · rw [takeV_neg hneg]
    have HH := Lib.hid (show RefP w b bs S from ⟨a, cap, by rw [← hN]; exact h1, by omega, hb⟩)
    clear h1 hc hb hN
    go_enter Tryd.func66, Tryd.ntmps66
    go_wp2
    exact bodyPost_ret (v := .tuple #[.slice none 0 0, .int .i64 2]) (by simp [results, Tryd.results66, go_sem]) rfl ⟨none, 0, 0, rfl, rfl, Nat.le_refl _, BsAt.nil _ _ _, HH.out, (Off.refl (fun _ => False) _).mono (fun _ _ c => c.elim)⟩
  · by_cases hfew : (N : Int) < n
    · rw [takeV_few (by omega) (by rw [← hN]; exact hfew)]
      have HH := Lib.hid (show RefP w b bs S from ⟨a, cap, by rw [← hN]; exact h1, by omega, hb⟩)
      clear h1 hc hb hN
      go_enter Tryd.func66, Tryd.ntmps66
      go_wp2
      exact bodyPost_ret (v := .tuple #[.slice none 0 0, .int .i64 7]) (by simp [results, Tryd.results66, go_sem]) rfl ⟨none, 0, 0, rfl, rfl, Nat.le_refl _, BsAt.nil _ _ _, HH.out, (Off.refl (fun _ => False) _).mono (fun _ _ c => c.elim)⟩
    · obtain ⟨k, rfl⟩ : ∃ k : Nat, n = (k : Int) := Int.eq_ofNat_of_zero_le (by omega)
      have hk : k ≤ N := by omega
      rw [takeV_ok (by omega)]
      obtain ⟨a1, hs1, hb1⟩ := part_h a N cap k bs hN hk hc
      obtain ⟨a2, hs2, hb2⟩ := part_l a N cap k bs hN hk hc
      have fz := fun j => frozen_of_heap h1 j
      have lt := heap_lt h1
      have hput := ref_put_one (u' := .slice a2 (N - k) (cap - k)) h1
      have hoff := ref_put_off w b (.slice a2 (N - k) (cap - k))
      have hd : ∀ j, j < w.heap.size → S j → ¬ (j = b) := fun j _ hj e => hS j hj e
      have hb3 := hb1 _ S (hb.off hoff hd)
      have hb4 := hb2 _ S (hb.off hoff hd)
      have HF := Lib.hid (show RefP (w.setCell ⟨b, 0, none⟩ (.slice a2 (N - k) (cap - k))) b (bs.drop k) S from ⟨a2, cap - k, by rw [List.length_drop, ← hN]; exact hput, by rw [List.length_drop]; omega, hb4⟩)
      have HB := Lib.hid hb3
      have HO := Lib.hid hoff
      have HL := Lib.hid (show k = (bs.take k).length by rw [List.length_take]; omega)
      have HC := Lib.hid (show k ≤ cap by omega)
      clear hput hoff hd hb3 hb4 hb1 hb2 hb h1 hc hN hS
      go_enter Tryd.func66, Tryd.ntmps66
      go_wp2
      exact bodyPost_ret (v := .tuple #[.slice a1 k cap, .int .i64 0]) (by simp [results, Tryd.results66, go_sem]) rfl ⟨a1, k, cap, rfl, by first | exact HL.out | simpa using HL.out, HC.out, HB.out, HF.out, HO.out⟩
theorem grown_offS {S : Nat → Prop} {w W w1 : World} {n k size : Nat} {T : TypeId} {v : Value} {xs : List Value} (hO : Off S w W) (hn : w.heap.size ≤ n) (h : W.ownsRow n T size v k xs) (hg : W.grownBy w1 v.ownBlock) : Off S w w1 :=
  hO.grown hg (fun j ej => by
    have hx := (h.lt j ej).1
    refine ⟨fun h => by omega, fun o ho => ?_⟩
    rcases h.2 with ⟨rfl, _⟩ | ⟨g, cap, cur, rfl, _, hgb, _⟩
    · simp [Value.ownBlock] at ej
    · obtain rfl : g = j := by simpa [Value.ownBlock] using ej
      rw [hgb] at ho; cases ho; rfl)
theorem own_offS {S : Nat → Prop} {w w' : World} {base size n : Nat} {T : TypeId} {v : Value} {xs : List Value} (h : w.ownsRow base T size v n xs) (ho : Off S w w') (hd : ∀ k, base ≤ k → ¬ S k) : w'.ownsRow base T size v n xs := by
  obtain ⟨hl, h⟩ := h
  refine ⟨hl, ?_⟩
  rcases h with hn | ⟨g, cap, cur, rfl, hb, hg, r⟩
  · exact .inl hn
  · exact .inr ⟨g, cap, cur, rfl, hb, ho.heap hg (hd g hb), r⟩
theorem RefP.keep {W W' : World} {b : Nat} {bs : List Nat} {S : Nat → Prop} (h : RefP W b bs S) (ho : Off (fun _ => False) W W') : RefP W' b bs S := h.off ho (fun c => c) (fun _ _ _ c => c)
theorem RefP.grow {W W' : World} {b : Nat} {bs : List Nat} {S : Nat → Prop} {row : Option Nat} (h : RefP W b bs S) (hg : W.grownBy W' row) (hr : ∀ j, row = some j → j ≠ b ∧ ¬ S j) : RefP W' b bs S := by
  obtain ⟨a, cap, h1, h2, h3⟩ := h
  refine ⟨a, cap, (hg.block b (heap_lt h1) (fun e => (hr b e.symm).1 rfl)).trans h1, h2, fun hp => ?_⟩
  obtain ⟨c, o, ha, hS, hx⟩ := h3 hp
  refine ⟨c, o, ha, hS, fun j x hj => ?_⟩
  have hc := hx j x hj
  exact (World.cell?_of_block (hg.block c (World.block_lt_of_cell? W _ hc) (fun e => (hr c e.symm).2 hS))).trans hc
set_option maxRecDepth 100000 in
set_option maxHeartbeats 4000000 in
theorem refels_any (p : Nat) (hp : p < R256) (h1p : 1 < p) (b : Nat) (bs : List Nat) (S : Nat → Prop) (n : Int) (_hnw : (Lit.int .i64 n).wf = true) (w : World) (h : RefP w b bs S) (hS : ∀ k, S k → k ≠ b) (hSw : ∀ k, S k → k < w.heap.size) (hsm : Small bs) (hl : bs.length ≤ 100000) :
    Calls Tryd.prog 38 #[.pointer (some ⟨b, 0, none⟩), V p, .int .i64 n] w fun e w' => ∃ v, e = .returned (.tuple #[v, .int .i64 ((elemsV bs n).2.1 : Int)]) ∧ Ls w' v ((elemsV bs n).1.map (· % p)) ∧ RefP w' b (elemsV bs n).2.2 S ∧ Off (fun k => k = b) w w' := by
  have hlt := h.lt
  by_cases hneg : n < 0
  · rw [elemsV_neg hneg]
    have HH := Lib.hid h
    clear h hS hSw hsm hl
    go_enter Tryd.func38, Tryd.ntmps38
    go_wp2
    exact bodyPost_ret (v := .tuple #[.slice none 0 0, .int .i64 2]) (by simp [results, Tryd.results38, go_sem]) rfl ⟨_, rfl, Ls.nil _, HH.out.keep ((Off.refl _ w).alloc _), Off.mono (S := fun _ => False) ((Off.refl _ w).alloc _) (fun _ _ c => c.elim)⟩
  · obtain ⟨a0, cap, g0, hc0, hb0⟩ := h
    obtain ⟨N, hN⟩ : ∃ N, N = bs.length := ⟨_, rfl⟩
    have HH := Lib.hid (show RefP w b bs S from ⟨a0, cap, g0, hc0, hb0⟩)
    rw [← hN] at g0
    have m0 : w.cell? ⟨b, 0, none⟩ = some (.slice a0 N cap) := cell_of_heap g0 0
    have hq0 : Int.tdiv (N : Int) 64 = ((N / 64 : Nat) : Int) := by
      rw [Int.tdiv_eq_ediv_of_nonneg (by omega)]
      omega
    obtain ⟨q, hq⟩ : ∃ q, q = N / 64 := ⟨_, rfl⟩
    rw [← hq] at hq0
    have hw0 : IntKind.i64.wrap (q : Int) = (q : Int) := by rw [IntKind.wrap_i64]; omega
    by_cases hfew : (q : Int) < n
    · rw [elemsV_few (by omega) (by rw [← hN, ← hq]; exact hfew)]
      clear g0 hc0 hb0 hS hSw hsm hl hN hq
      go_enter Tryd.func38, Tryd.ntmps38
      go_wp2
      exact bodyPost_ret (v := .tuple #[.slice none 0 0, .int .i64 7]) (by simp [results, Tryd.results38, go_sem]) rfl ⟨_, rfl, Ls.nil _, HH.out.keep ((Off.refl _ w).alloc _), Off.mono (S := fun _ => False) ((Off.refl _ w).alloc _) (fun _ _ c => c.elim)⟩
    · obtain ⟨k, rfl⟩ : ∃ k : Nat, n = (k : Int) := Int.eq_ofNat_of_zero_le (by omega)
      rw [elemsV_ok (by omega)]
      obtain ⟨j0, hj, hj0, hj1, hj2⟩ := info_parts vec_info
      obtain ⟨W1, hW1⟩ : ∃ W1, W1 = w.alloc (.cells #[.int .u64 (wd p 0 : Int), .int .u64 (wd p 1 : Int), .int .u64 (wd p 2 : Int), .int .u64 (wd p 3 : Int)] 51) := ⟨_, rfl⟩
      have hO1 : Off (fun _ => False) w W1 := by rw [hW1]; exact (Off.refl _ w).alloc _
      have g1 : W1.heap[w.heap.size]? = some (.cells #[.int .u64 (wd p 0 : Int), .int .u64 (wd p 1 : Int), .int .u64 (wd p 2 : Int), .int .u64 (wd p 3 : Int)] 51) := by rw [hW1]; exact heap_new' rfl _
      have hh1 : RefP W1 b bs S := HH.out.keep hO1
      have HW1 := Lib.hid hW1
      have HO1 := Lib.hid hO1
      have HG1 := Lib.hid g1
      have HR1 := Lib.hid hh1
      have HBl := Lib.hid hlt
      have HS := Lib.hid hS
      have HSw := Lib.hid hSw
      have HSm := Lib.hid hsm
      have HKl := Lib.hid (show 64 * k ≤ bs.length ∧ bs.length ≤ 100000 by omega)
      have HPp := Lib.hid hp
      have HP1 := Lib.hid h1p
      have i0 : ¬ (q : Int) < (k : Int) := hfew
      have i1 : ¬ (k : Int) < 0 := hneg
      have hk2 : k ≤ 2000 := by omega
      clear hW1 hO1 g1 hh1 g0 hc0 hb0 hS hSw hsm hl hN hq hfew hneg hp h1p
      go_enter Tryd.func38, Tryd.ntmps38
      go_wp2
      rw [← HW1.out]
      clear hlt
      go_loopw [8, 9] (fun v i wr => ∃ m : Nat, m ≤ k ∧ i = .int .i64 (m : Int) ∧ (∃ a c, v = .slice a m c ∧ wr.ownsRow W1.heap.size 51 4 v m (flat4 ((elsK bs m).map (· % p)))) ∧ RefP wr b (bs.drop (64 * m)) S ∧ Off (fun j => j = b) W1 wr) (fun _ i _ => k - (intOf i).toNat)
      case atStart => exact ⟨0, Nat.zero_le _, rfl, ⟨none, 0, rfl, World.ownsRow_nil _ _ _ _⟩, HR1.out, Off.refl _ W1⟩
      case round =>
        obtain ⟨m, hm, rfl, ⟨va, vc, rfl, hov⟩, hRf, hO⟩ := hrel
        by_cases hlt : m < k
        · have hb := HBl.out
          have i2 : (m : Int) < (k : Int) := by omega
          have w2 : IntKind.i64.wrap ((m : Int) + 1) = (m : Int) + 1 := by rw [IntKind.wrap_i64]; omega
          have hlen : (bs.drop (64 * m)).length = bs.length - 64 * m := List.length_drop
          have h64 : 64 ≤ (bs.drop (64 * m)).length := by have := HKl.out.1; omega
          have FT := Lib.hid (reftake_any b (bs.drop (64 * m)) S 64 (by decide) wr hRf HS.out)
          rw [show takeV (bs.drop (64 * m)) 64 = ((bs.drop (64 * m)).take 64, 0, bs.drop (64 * (m + 1))) by rw [show (64 : Int) = ((64 : Nat) : Int) from rfl, takeV_ok h64, List.drop_drop, show 64 * m + 64 = 64 * (m + 1) by omega]] at FT
          have h6 : ((bs.drop (64 * m)).take 64).length = 64 := by rw [List.length_take]; omega
          have FW := Lib.hid (fun (W : World) (a : Option Addr) (c : Nat) (hc : 64 ≤ c) (hb : BsAt W a ((bs.drop (64 * m)).take 64) S) => refwide_any p HPp.out HP1.out a 64 c ((bs.drop (64 * m)).take 64) S W hb h6.symm ((HSm.out.drop _).take _) hc)
          rw [show rwideV p ((bs.drop (64 * m)).take 64) = (elB bs m % p, 0) by unfold rwideV elB; rw [if_pos h6]] at FW
          obtain ⟨z, hz⟩ : ∃ z, z = elB bs m % p := ⟨_, rfl⟩
          rw [← hz] at FW
          have HFl := Lib.hid (show flat4 ((elsK bs m).map (· % p)) ++ words4 z = flat4 ((elsK bs (m + 1)).map (· % p)) by rw [elsK_succ, List.map_append, flat4_append, hz]; rfl)
          have HO := Lib.hid hO
          have HOv := Lib.hid hov
          have H6 := Lib.hid h6
          clear hO hov hRf hlen h64 h6 hz
          go_wp2_with fail
          refine FT.out.mono ?_
          rintro e u1 ⟨a1, m1, c1, rfl, hm1, hc1, hb1, hR1, hO1⟩
          obtain rfl : m1 = 64 := hm1.trans H6.out
          have HB1 := Lib.hid hb1
          have HRf1 := Lib.hid hR1
          have HO1' := Lib.hid (HO.out.trans hO1 (fun _ _ e => e))
          have HOv1 := Lib.hid (own_offS HOv.out hO1 (fun j hj e => by have := HO1.out.size; omega))
          obtain ⟨p0, p1, p2, p3⟩ := cells4 (HO1'.out.heap HG1.out (by omega))
          have hltp := heap_lt (HO1'.out.heap HG1.out (by omega))
          clear hb1 hR1 hO1 hm1
          go_wp2_with fail
          refine (FW.out _ _ _ hc1 HB1.out).mono ?_
          rintro e u2 ⟨rfl, hO2⟩
          have HRf2 := Lib.hid (HRf1.out.keep hO2)
          have HO2 := Lib.hid (HO1'.out.trans hO2 (fun _ _ c => c.elim))
          have HOv2 := Lib.hid (own_off HOv1.out hO2)
          have hs2 := hO2.size
          clear hO2 p0 p1 p2 p3 hltp
          go_wp2_with (at_builtin; refine wpList_append_own _ rfl _ _ 46 rfl W1.heap.size 51 j0 _ 4 32 Tryd.underlying46 hj hj0 hj1 hj2 rfl (by decide) _ m _ rfl ((HOv2.out.alloc _).alloc _) ⟨u2.heap.size + 1, 0, none⟩ 1 1 (words4 z) rfl rfl ?q1 (words4_one _) ?q2 ?q3 ?q4 ?_)
          case q1 => exact words4_at (heap_new' (by simp) _)
          case q2 => unfold maxLen; omega
          case q3 => omega
          case q4 => have := HO2.out.size; have := HO1.out.size; simp; omega
          intro v' w1 hown' hgrow hnil
          obtain ⟨g6, c6, rfl⟩ := ownsRow_succ hown'
          rw [HFl.out] at hown'
          have hsz := (HO2.out.alloc (.cells #[.int .u64 (wd z 0 : Int), .int .u64 (wd z 1 : Int), .int .u64 (wd z 2 : Int), .int .u64 (wd z 3 : Int)] 51)).alloc (.cells #[.int .u64 (wd z 0 : Int), .int .u64 (wd z 1 : Int), .int .u64 (wd z 2 : Int), .int .u64 (wd z 3 : Int)] 51)
          have hO3 := grown_offS hsz (Nat.le_refl _) ((HOv2.out.alloc _).alloc _) hgrow
          have hR3 := (HRf2.out.keep (((Off.refl (fun _ => False) u2).alloc (.cells #[.int .u64 (wd z 0 : Int), .int .u64 (wd z 1 : Int), .int .u64 (wd z 2 : Int), .int .u64 (wd z 3 : Int)] 51)).alloc (.cells #[.int .u64 (wd z 0 : Int), .int .u64 (wd z 1 : Int), .int .u64 (wd z 2 : Int), .int .u64 (wd z 3 : Int)] 51))).grow hgrow (fun j ej => by
            have hx := (((HOv2.out.alloc (.cells #[.int .u64 (wd z 0 : Int), .int .u64 (wd z 1 : Int), .int .u64 (wd z 2 : Int), .int .u64 (wd z 3 : Int)] 51)).alloc (.cells #[.int .u64 (wd z 0 : Int), .int .u64 (wd z 1 : Int), .int .u64 (wd z 2 : Int), .int .u64 (wd z 3 : Int)] 51)).lt j ej).1
            have := HO1.out.size
            exact ⟨by omega, fun hc => by have := HSw.out j hc; omega⟩)
          have HR3 := Lib.hid hR3
          have HO3 := Lib.hid hO3
          have HOv3 := Lib.hid hown'
          clear hR3 hO3 hown' hgrow hsz
          go_wp2
          go_roundw
          case rel => exact ⟨m + 1, by omega, by simp, ⟨_, _, rfl, HOv3.out⟩, HR3.out, HO3.out⟩
          case measure => simp [intOf]; omega
        · obtain rfl : m = k := by omega
          have i2 : ¬ (m : Int) < (m : Int) := by omega
          have hfin := Ls.of (ls_of_own hov (by rw [List.length_map, elsK_length]) (by omega))
          have HO := Lib.hid hO
          have HRf := Lib.hid hRf
          have HLs := Lib.hid hfin
          clear hO hRf hfin hov
          go_wp2
          exact bodyPost_ret (v := .tuple #[.slice va m vc, .int .i64 0]) (by simp [results, Tryd.results38, go_sem]) rfl ⟨_, rfl, HLs.out, HRf.out, (HO1.out.mono (fun _ _ c => c.elim)).trans HO.out (fun _ _ e => e)⟩
end
end Go.Proofs.YtclehgconbdkpaaDoor
