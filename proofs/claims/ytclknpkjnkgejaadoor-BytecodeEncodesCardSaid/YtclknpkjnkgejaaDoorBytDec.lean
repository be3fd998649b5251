/-
  Contracts of package bytecode over this seat's translation: Decode, Pack, Unpack and Wide. Conditions: the field's constants are those of its modulus; the slice is told by its bytes.
-/
import Derived.Test.YtclknpkjnkgejaaDoorBytCode
import Derived.Test.YtclknpkjnkgejaaDoorFieldOps
namespace Go.Proofs.YtclknpkjnkgejaaDoor
open Go.RowKit
attribute [local go_sem ↓] Go.wp_at_zero Go.wp_at_succ
/-- What Decode returns: the element and the error. -/
def decV (p : Nat) (bs : List Nat) : Nat × Nat := if bs.length = 32 then (if numB bs < p then (fm p (numB bs), 0) else (0, 9)) else (0, 8)
theorem numB_r256 {bs : List Nat} (hs : Small bs) (h : bs.length ≤ 32) : numB bs < R256 := by
  rw [r256_bytes]
  exact Nat.lt_of_lt_of_le (numB_lt hs) (Nat.pow_le_pow_right (by decide) h)
set_option maxRecDepth 100000 in
set_option maxHeartbeats 4000000 in
theorem decode_any {id : Int} {p i r s : Nat} (hF : Fld id p i r s) (a : Option Addr) (n cap : Nat) (bs : List Nat) (S : Nat → Prop) (w : World) (hb : BsAt w a bs S) (hn : n = bs.length) (hs : Small bs) :
    Calls Tryd.prog 13 #[FV id p i r s, .slice a n cap] w fun e w' => e = .returned (.tuple #[V (decV p bs).1, .int .i64 ((decV p bs).2 : Int)]) ∧ Off (fun _ => False) w w' := by
  by_cases h32 : n = 32
  · have hx := numB_r256 hs (by omega)
    have hN := fun W (h : Off (fun _ => False) w W) => numberof_any a n cap bs S W (hb.off h (fun _ _ _ c => c)) hn hs (by omega)
    have HC := Lib.hid (fun W => contains_any id p i r s (numB bs) hF.mp.lt hx W)
    have HT := Lib.hid (fun W => mto_any hF (numB bs) hx W)
    have hd : decV p bs = if numB bs < p then (fm p (numB bs), 0) else (0, 9) := by unfold decV; rw [if_pos (by omega)]
    have hm : numB bs < p → numB bs % p = numB bs := Nat.mod_eq_of_lt
    obtain ⟨x, hxx⟩ : ∃ x, x = numB bs := ⟨_, rfl⟩
    rw [← hxx] at hN HC HT hd hm
    have HN := Lib.hid hN
    clear hN hb hn hs hx hxx hF
    subst h32
    by_cases hlt : x < p
    · have hl : lessN x p = true := by unfold lessN; simpa using hlt
      rw [hl, show mk true = 18446744073709551615 from rfl] at HC
      rw [hd, if_pos hlt]
      rw [hm hlt] at HT
      obtain ⟨y, hy⟩ : ∃ y, y = fm p x := ⟨_, rfl⟩
      rw [← hy] at HT ⊢
      clear hd hm hl hlt hy
      go_enter Tryd.func13, Tryd.ntmps13
      go_wp2_with fail
      refine (HN.out _ (((Off.refl (fun _ => False) w).alloc _).alloc _)).mono ?_
      rintro e u1 ⟨rfl, hO⟩
      have HFc := Lib.hid (show u1.heap[w.heap.size]? = some (.cells #[.int .i64 id, .int .u64 (wd p 0 : Int), .int .u64 (wd p 1 : Int), .int .u64 (wd p 2 : Int), .int .u64 (wd p 3 : Int), .int .u64 (i : Int), .int .u64 (wd r 0 : Int), .int .u64 (wd r 1 : Int), .int .u64 (wd r 2 : Int), .int .u64 (wd r 3 : Int), .int .u64 (wd s 0 : Int), .int .u64 (wd s 1 : Int), .int .u64 (wd s 2 : Int), .int .u64 (wd s 3 : Int)] 26) from hO.heap (heap_old' (heap_new' rfl _) _) (fun c => c))
      have HRc := Lib.hid (show u1.heap[w.heap.size + 1]? = some (.cells #[.int .u64 0, .int .u64 0, .int .u64 0, .int .u64 0] 24) from hO.heap (heap_new' (by simp) _) (fun c => c))
      have HO1 := Lib.hid ((((Off.refl (fun _ => False) w).alloc _).alloc _).trans hO (fun _ _ c => c))
      clear hO
      obtain ⟨W1, hW1⟩ : ∃ W1, W1 = u1.alloc (.cells #[.int .u64 (wd x 0 : Int), .int .u64 (wd x 1 : Int), .int .u64 (wd x 2 : Int), .int .u64 (wd x 3 : Int)] 23) := ⟨_, rfl⟩
      have hXc : W1.heap[u1.heap.size]? = some (.cells #[.int .u64 (wd x 0 : Int), .int .u64 (wd x 1 : Int), .int .u64 (wd x 2 : Int), .int .u64 (wd x 3 : Int)] 23) := by rw [hW1]; exact heap_new' rfl _
      have hFc : W1.heap[w.heap.size]? = some (.cells #[.int .i64 id, .int .u64 (wd p 0 : Int), .int .u64 (wd p 1 : Int), .int .u64 (wd p 2 : Int), .int .u64 (wd p 3 : Int), .int .u64 (i : Int), .int .u64 (wd r 0 : Int), .int .u64 (wd r 1 : Int), .int .u64 (wd r 2 : Int), .int .u64 (wd r 3 : Int), .int .u64 (wd s 0 : Int), .int .u64 (wd s 1 : Int), .int .u64 (wd s 2 : Int), .int .u64 (wd s 3 : Int)] 26) := by rw [hW1]; exact heap_old' HFc.out _
      have hRc : W1.heap[w.heap.size + 1]? = some (.cells #[.int .u64 0, .int .u64 0, .int .u64 0, .int .u64 0] 24) := by rw [hW1]; exact heap_old' HRc.out _
      have hO1 : Off (fun _ => False) w W1 := by rw [hW1]; exact HO1.out.alloc _
      obtain ⟨f0, f1, f2, f3, f4, f5, f6, f7, f8, f9, f10, f11, f12, f13⟩ := fv_cells hFc
      obtain ⟨x0, x1, x2, x3⟩ := cells4 hXc
      have lf := heap_lt hFc
      have HX1 := Lib.hid hXc
      have HF1 := Lib.hid hFc
      have HR1 := Lib.hid hRc
      have HO2 := Lib.hid hO1
      have HW1 := Lib.hid hW1
      clear hXc hFc hRc hO1 hW1 HFc HRc HO1
      go_upto_region 4 with fail
      rw [← HW1.out]
      go_wp2_with fail
      refine (HC.out _).mono ?_
      rintro e u2 ⟨rfl, hO⟩
      have hRc := hO.heap HR1.out (fun c => c)
      clear f0 f1 f2 f3 f4 f5 f6 f7 f8 f9 f10 f11 f12 f13 x0 x1 x2 x3 HC HN
      obtain ⟨f0, f1, f2, f3, f4, f5, f6, f7, f8, f9, f10, f11, f12, f13⟩ := fv_cells (hO.heap HF1.out (fun c => c))
      obtain ⟨x0, x1, x2, x3⟩ := cells4 (hO.heap HX1.out (fun c => c))
      have HRd := Lib.hid hRc
      have HO3 := Lib.hid (HO2.out.trans hO (fun _ _ c => c))
      clear hO hRc HX1 HF1 HR1 HO2 HW1
      go_wp2_with fail
      refine (HT.out _).mono ?_
      rintro e u3 ⟨rfl, hO⟩
      obtain ⟨⟨r0, r1, r2, r3⟩, fz, lt⟩ := zero_cells (hO.heap HRd.out (fun c => c))
      have HO4 := Lib.hid (HO3.out.trans hO (fun _ _ c => c))
      clear f0 f1 f2 f3 f4 f5 f6 f7 f8 f9 f10 f11 f12 f13 x0 x1 x2 x3 hO
      go_wp2
      refine bodyPost_ret (v := .tuple #[V y, .int .i64 0]) (by simp [results, Tryd.results13, go_sem, r0, r1, r2, r3]) rfl ⟨rfl, ?_⟩
      exact off4 HO4.out (by omega) _ _ _ _
    · have hl : lessN x p = false := by unfold lessN; simpa using hlt
      rw [hl, show mk false = 0 from rfl] at HC
      rw [hd, if_neg hlt, show V (0, 9).1 = _ from lit_small 0 (by decide)]
      clear hd hm hl hlt
      go_enter Tryd.func13, Tryd.ntmps13
      go_wp2_with fail
      refine (HN.out _ (((Off.refl (fun _ => False) w).alloc _).alloc _)).mono ?_
      rintro e u1 ⟨rfl, hO⟩
      have HFc := Lib.hid (show u1.heap[w.heap.size]? = some (.cells #[.int .i64 id, .int .u64 (wd p 0 : Int), .int .u64 (wd p 1 : Int), .int .u64 (wd p 2 : Int), .int .u64 (wd p 3 : Int), .int .u64 (i : Int), .int .u64 (wd r 0 : Int), .int .u64 (wd r 1 : Int), .int .u64 (wd r 2 : Int), .int .u64 (wd r 3 : Int), .int .u64 (wd s 0 : Int), .int .u64 (wd s 1 : Int), .int .u64 (wd s 2 : Int), .int .u64 (wd s 3 : Int)] 26) from hO.heap (heap_old' (heap_new' rfl _) _) (fun c => c))
      have HRc := Lib.hid (show u1.heap[w.heap.size + 1]? = some (.cells #[.int .u64 0, .int .u64 0, .int .u64 0, .int .u64 0] 24) from hO.heap (heap_new' (by simp) _) (fun c => c))
      have HO1 := Lib.hid ((((Off.refl (fun _ => False) w).alloc _).alloc _).trans hO (fun _ _ c => c))
      clear hO
      obtain ⟨W1, hW1⟩ : ∃ W1, W1 = u1.alloc (.cells #[.int .u64 (wd x 0 : Int), .int .u64 (wd x 1 : Int), .int .u64 (wd x 2 : Int), .int .u64 (wd x 3 : Int)] 23) := ⟨_, rfl⟩
      have hXc : W1.heap[u1.heap.size]? = some (.cells #[.int .u64 (wd x 0 : Int), .int .u64 (wd x 1 : Int), .int .u64 (wd x 2 : Int), .int .u64 (wd x 3 : Int)] 23) := by rw [hW1]; exact heap_new' rfl _
      have hFc : W1.heap[w.heap.size]? = some (.cells #[.int .i64 id, .int .u64 (wd p 0 : Int), .int .u64 (wd p 1 : Int), .int .u64 (wd p 2 : Int), .int .u64 (wd p 3 : Int), .int .u64 (i : Int), .int .u64 (wd r 0 : Int), .int .u64 (wd r 1 : Int), .int .u64 (wd r 2 : Int), .int .u64 (wd r 3 : Int), .int .u64 (wd s 0 : Int), .int .u64 (wd s 1 : Int), .int .u64 (wd s 2 : Int), .int .u64 (wd s 3 : Int)] 26) := by rw [hW1]; exact heap_old' HFc.out _
      have hRc : W1.heap[w.heap.size + 1]? = some (.cells #[.int .u64 0, .int .u64 0, .int .u64 0, .int .u64 0] 24) := by rw [hW1]; exact heap_old' HRc.out _
      have hO1 : Off (fun _ => False) w W1 := by rw [hW1]; exact HO1.out.alloc _
      obtain ⟨f0, f1, f2, f3, f4, f5, f6, f7, f8, f9, f10, f11, f12, f13⟩ := fv_cells hFc
      obtain ⟨x0, x1, x2, x3⟩ := cells4 hXc
      have lf := heap_lt hFc
      have HX1 := Lib.hid hXc
      have HF1 := Lib.hid hFc
      have HR1 := Lib.hid hRc
      have HO2 := Lib.hid hO1
      have HW1 := Lib.hid hW1
      clear hXc hFc hRc hO1 hW1 HFc HRc HO1
      go_upto_region 4 with fail
      rw [← HW1.out]
      go_wp2_with fail
      refine (HC.out _).mono ?_
      rintro e u2 ⟨rfl, hO⟩
      have hRc := hO.heap HR1.out (fun c => c)
      clear f0 f1 f2 f3 f4 f5 f6 f7 f8 f9 f10 f11 f12 f13 x0 x1 x2 x3 HC HN
      obtain ⟨⟨r0, r1, r2, r3⟩, fz, lt⟩ := zero_cells hRc
      have HO3 := Lib.hid (HO2.out.trans hO (fun _ _ c => c))
      clear hO hRc HX1 HF1 HR1 HO2 HW1 HT
      go_wp2
      refine bodyPost_ret (v := .tuple #[.agg #[.int .u64 ((0 : Nat) : Int), .int .u64 0, .int .u64 0, .int .u64 0], .int .i64 9]) (by simp [results, Tryd.results13, go_sem, r0, r1, r2, r3]) rfl ⟨rfl, ?_⟩
      exact off4 HO3.out (by omega) _ _ _ _
  · have hd : decV p bs = (0, 8) := by unfold decV; rw [if_neg (by omega)]
    have h1 : ¬ ((n : Int) = 32) := by omega
    rw [hd, show V (0, 8).1 = _ from lit_small 0 (by decide)]
    clear hb hn hs hF hd
    go_enter Tryd.func13, Tryd.ntmps13
    go_wp2
    refine bodyPost_ret (v := .tuple #[.agg #[.int .u64 ((0 : Nat) : Int), .int .u64 0, .int .u64 0, .int .u64 0], .int .i64 8]) (by simp [results, Tryd.results13, go_sem]) rfl ⟨rfl, ?_⟩
    exact ((Off.refl _ w).alloc _).alloc _
/-- What Pack returns. -/
def packV (p : Nat) (bs : List Nat) : Nat × Nat := if bs.length ≤ 31 then (fm p (numB bs), 0) else (0, 8)
set_option maxRecDepth 100000 in
set_option maxHeartbeats 4000000 in
theorem pack_any {id : Int} {p i r s : Nat} (hF : Fld id p i r s) (a : Option Addr) (n cap : Nat) (bs : List Nat) (S : Nat → Prop) (w : World) (hb : BsAt w a bs S) (hn : n = bs.length) (hs : Small bs) :
    Calls Tryd.prog 20 #[FV id p i r s, .slice a n cap] w fun e w' => e = .returned (.tuple #[V (packV p bs).1, .int .i64 ((packV p bs).2 : Int)]) ∧ Off (fun _ => False) w w' := by
  by_cases h31 : n ≤ 31
  · have hx := numB_r256 hs (by omega)
    have HN := Lib.hid (fun W (h : Off (fun k => w.heap.size ≤ k) w W) => numberof_any a n cap bs _ W (hb.later h) hn hs (by omega))
    have hT := fun W => mto_any hF (numB bs) hx W
    rw [fm_mod] at hT
    have hd : packV p bs = (fm p (numB bs), 0) := by unfold packV; rw [if_pos (by omega)]
    rw [hd]
    obtain ⟨x, hxx⟩ : ∃ x, x = numB bs := ⟨_, rfl⟩
    rw [← hxx] at HN hT ⊢
    obtain ⟨y, hy⟩ : ∃ y, y = fm p x := ⟨_, rfl⟩
    rw [← hy] at hT ⊢
    have HT := Lib.hid hT
    have i1 : (n : Int) ≤ 31 := by omega
    have i2 : decide ((31 : Int) < (n : Int)) = false := by simp; omega
    clear hT hb hn hs hx hxx hF hd hy
    go_enter Tryd.func20, Tryd.ntmps20
    obtain ⟨W0, hW0⟩ : ∃ W0, W0 = (w.alloc (.cells #[.int .i64 id, .int .u64 (wd p 0 : Int), .int .u64 (wd p 1 : Int), .int .u64 (wd p 2 : Int), .int .u64 (wd p 3 : Int), .int .u64 (i : Int), .int .u64 (wd r 0 : Int), .int .u64 (wd r 1 : Int), .int .u64 (wd r 2 : Int), .int .u64 (wd r 3 : Int), .int .u64 (wd s 0 : Int), .int .u64 (wd s 1 : Int), .int .u64 (wd s 2 : Int), .int .u64 (wd s 3 : Int)] 26)).alloc (.cells #[.int .u64 0, .int .u64 0, .int .u64 0, .int .u64 0] 24) := ⟨_, rfl⟩
    have hR : W0.heap[w.heap.size + 1]? = some (.cells #[.int .u64 0, .int .u64 0, .int .u64 0, .int .u64 0] 24) := by rw [hW0]; exact heap_new' (by simp) _
    have hFc : W0.heap[w.heap.size]? = some (.cells #[.int .i64 id, .int .u64 (wd p 0 : Int), .int .u64 (wd p 1 : Int), .int .u64 (wd p 2 : Int), .int .u64 (wd p 3 : Int), .int .u64 (i : Int), .int .u64 (wd r 0 : Int), .int .u64 (wd r 1 : Int), .int .u64 (wd r 2 : Int), .int .u64 (wd r 3 : Int), .int .u64 (wd s 0 : Int), .int .u64 (wd s 1 : Int), .int .u64 (wd s 2 : Int), .int .u64 (wd s 3 : Int)] 26) := by rw [hW0]; exact heap_old' (heap_new' rfl _) _
    have HR := Lib.hid hR
    have HK : Hid (∀ W, Off (fun k => k = (w.heap.size + 1)) W0 W → (W.cell? ⟨w.heap.size, 0, none⟩ = some (.int .i64 id) ∧ W.cell? ⟨w.heap.size, 1, none⟩ = some (.int .u64 (wd p 0 : Int)) ∧ W.cell? ⟨w.heap.size, 2, none⟩ = some (.int .u64 (wd p 1 : Int)) ∧ W.cell? ⟨w.heap.size, 3, none⟩ = some (.int .u64 (wd p 2 : Int)) ∧ W.cell? ⟨w.heap.size, 4, none⟩ = some (.int .u64 (wd p 3 : Int)) ∧ W.cell? ⟨w.heap.size, 5, none⟩ = some (.int .u64 (i : Int)) ∧ W.cell? ⟨w.heap.size, 6, none⟩ = some (.int .u64 (wd r 0 : Int)) ∧ W.cell? ⟨w.heap.size, 7, none⟩ = some (.int .u64 (wd r 1 : Int)) ∧ W.cell? ⟨w.heap.size, 8, none⟩ = some (.int .u64 (wd r 2 : Int)) ∧ W.cell? ⟨w.heap.size, 9, none⟩ = some (.int .u64 (wd r 3 : Int)) ∧ W.cell? ⟨w.heap.size, 10, none⟩ = some (.int .u64 (wd s 0 : Int)) ∧ W.cell? ⟨w.heap.size, 11, none⟩ = some (.int .u64 (wd s 1 : Int)) ∧ W.cell? ⟨w.heap.size, 12, none⟩ = some (.int .u64 (wd s 2 : Int)) ∧ W.cell? ⟨w.heap.size, 13, none⟩ = some (.int .u64 (wd s 3 : Int))) ∧ Off (fun k => k = (w.heap.size + 1)) W0 W) := Lib.hid (fun W h => ⟨fv_cells (h.heap hFc (by omega)), h⟩)
    have HOw := Lib.hid (show Off (fun _ => False) w W0 by rw [hW0]; exact (((Off.refl (fun _ => False) w).alloc _).alloc _))
    have HNW := Lib.hid (fun W (h : Off (fun k => k = (w.heap.size + 1)) W0 W) => HN.out W ((HOw.out.mono (S' := fun k => w.heap.size ≤ k) (fun _ _ c => c.elim)).trans h (fun k _ e => by subst e; omega)))
    have HW0 := Lib.hid hW0
    clear hR hFc HN hW0
    go_upto_region 3 with fail
    rw [← HW0.out]
    refine wp_region_inv (fun a0 l a' w' => ∃ (u10 : Value) (u11 : Value) (u12 : Value) (u13 : Value) (u5 : Value), a' = (Act.put (Act.put (Act.put (Act.put (Act.put a0 (some 10) u10) (some 11) u11) (some 12) u12) (some 13) u13) (some 5) u5) ∧ Slot l 0 u10 (FV id p i r s) ∧ Slot l 1 u11 (.slice a n cap) ∧ Slot l 2 u12 (V x) ∧ Slot l 3 u13 (V y) ∧ Slot l 5 u5 (.int .i64 0) ∧ Old l 4 (w.heap.size + 1) W0 w' (.cells #[.int .u64 0, .int .u64 0, .int .u64 0, .int .u64 0] 24) (.cells #[.int .u64 (wd y 0 : Int), .int .u64 (wd y 1 : Int), .int .u64 (wd y 2 : Int), .int .u64 (wd y 3 : Int)] 24) ∧ Off (fun k => k = (w.heap.size + 1)) W0 w') (by kernel_rfl) (by kernel_rfl) ?_ ⟨?_, ?_, ?_, ?_, ?_, ?_, trivial⟩ ?_
    · refine ⟨?z10, ?z11, ?z12, ?z13, ?z5, ?fr, Slot.start _ _ _, Slot.start _ _ _, Slot.start _ _ _, Slot.start _ _ _, Slot.start _ _ _, Old.start HR.out _ _, (Off.refl _ W0).drew⟩
      case fr => first | (simp only [Act.put, List.setIfInBounds_toArray, List.set_cons_zero, List.set_cons_succ]; rfl) | simp only [Act.put, List.setIfInBounds_toArray, List.set_cons_zero, List.set_cons_succ]
    · intro l a wr hI hl hd K' hK
      obtain ⟨u10, u11, u12, u13, u5, ha, s0, s1, s2, s3, s5, O0, hO⟩ := hI
      simp only [Act.put, List.setIfInBounds_toArray, List.set_cons_zero, List.set_cons_succ] at ha
      subst ha
      have hc := HK.out wr hO
      have p0 := hc.1.1
      have p1 := hc.1.2.1
      have p2 := hc.1.2.2.1
      have p3 := hc.1.2.2.2.1
      have p4 := hc.1.2.2.2.2.1
      have p5 := hc.1.2.2.2.2.2.1
      have p6 := hc.1.2.2.2.2.2.2.1
      have p7 := hc.1.2.2.2.2.2.2.2.1
      have p8 := hc.1.2.2.2.2.2.2.2.2.1
      have p9 := hc.1.2.2.2.2.2.2.2.2.2.1
      have p10 := hc.1.2.2.2.2.2.2.2.2.2.2.1
      have p11 := hc.1.2.2.2.2.2.2.2.2.2.2.2.1
      have p12 := hc.1.2.2.2.2.2.2.2.2.2.2.2.2.1
      have p13 := hc.1.2.2.2.2.2.2.2.2.2.2.2.2.2
      clear hc
      go_simp
      refine hK.out _ _ ⟨_, _, _, _, _, ?_, Slot.new _ _ _, s1.keep rfl, s2.keep rfl, s3.keep rfl, s5.keep rfl, O0.keep (Off.refl _ wr) rfl, hO⟩
      simp only [Act.put, List.setIfInBounds_toArray, List.set_cons_zero, List.set_cons_succ]
    · intro l a wr hI hl hd K' hK
      obtain ⟨u10, u11, u12, u13, u5, ha, s0, s1, s2, s3, s5, O0, hO⟩ := hI
      simp only [Act.put, List.setIfInBounds_toArray, List.set_cons_zero, List.set_cons_succ] at ha
      subst ha
      go_simp
      refine hK.out _ _ ⟨_, _, _, _, _, ?_, s0.keep rfl, Slot.new _ _ _, s2.keep rfl, s3.keep rfl, s5.keep rfl, O0.keep (Off.refl _ wr) rfl, hO⟩
      simp only [Act.put, List.setIfInBounds_toArray, List.set_cons_zero, List.set_cons_succ]
    · intro l a wr hI hl hd K' hK
      obtain ⟨u10, u11, u12, u13, u5, ha, s0, s1, s2, s3, s5, O0, hO⟩ := hI
      simp only [Act.put, List.setIfInBounds_toArray, List.set_cons_zero, List.set_cons_succ] at ha
      have q1 := s1 (hd 1 (by decide))
      subst ha q1
      go_simp
      refine (held_inv (HNW.out wr hO) hO).mono ?_
      rintro e w1 ⟨rfl, hO1, hOW⟩
      go_wp2_with fail
      refine hK.out _ _ ⟨_, _, _, _, _, ?_, s0.keep rfl, s1.keep rfl, Slot.new _ _ _, s3.keep rfl, s5.keep rfl, O0.keep hOW rfl, hO1⟩
      simp only [Act.put, List.setIfInBounds_toArray, List.set_cons_zero, List.set_cons_succ]
    · intro l a wr hI hl hd K' hK
      obtain ⟨u10, u11, u12, u13, u5, ha, s0, s1, s2, s3, s5, O0, hO⟩ := hI
      simp only [Act.put, List.setIfInBounds_toArray, List.set_cons_zero, List.set_cons_succ] at ha
      have q0 := s0 (hd 0 (by decide))
      have q2 := s2 (hd 2 (by decide))
      subst ha q0 q2
      go_simp
      refine (held_inv (HT.out wr) hO).mono ?_
      rintro e w1 ⟨rfl, hO1, hOW⟩
      go_wp2_with fail
      refine hK.out _ _ ⟨_, _, _, _, _, ?_, s0.keep rfl, s1.keep rfl, s2.keep rfl, Slot.new _ _ _, s5.keep rfl, O0.keep hOW rfl, hO1⟩
      simp only [Act.put, List.setIfInBounds_toArray, List.set_cons_zero, List.set_cons_succ]
    · intro l a wr hI hl hd K' hK
      obtain ⟨u10, u11, u12, u13, u5, ha, s0, s1, s2, s3, s5, O0, hO⟩ := hI
      simp only [Act.put, List.setIfInBounds_toArray, List.set_cons_zero, List.set_cons_succ] at ha
      have q3 := s3 (hd 3 (by decide))
      subst ha q3
      obtain ⟨⟨m0, m1, m2, m3⟩, fz, lt⟩ := zero_cells (O0.was hl)
      go_simp
      refine hK.out _ _ ⟨_, _, _, _, _, ?_, s0.keep rfl, s1.keep rfl, s2.keep rfl, s3.keep rfl, s5.keep rfl, O0.put hl rfl, setCells_in hO (fun _ => rfl) [.int .u64 (wd y 0 : Int), .int .u64 (wd y 1 : Int), .int .u64 (wd y 2 : Int), .int .u64 (wd y 3 : Int)]⟩
      simp only [Act.put, List.setIfInBounds_toArray, List.set_cons_zero, List.set_cons_succ]
    · intro l a wr hI hl hd K' hK
      obtain ⟨u10, u11, u12, u13, u5, ha, s0, s1, s2, s3, s5, O0, hO⟩ := hI
      simp only [Act.put, List.setIfInBounds_toArray, List.set_cons_zero, List.set_cons_succ] at ha
      subst ha
      go_simp
      refine hK.out _ _ ⟨_, _, _, _, _, ?_, s0.keep rfl, s1.keep rfl, s2.keep rfl, s3.keep rfl, Slot.new _ _ _, O0.keep (Off.refl _ wr) rfl, hO⟩
      simp only [Act.put, List.setIfInBounds_toArray, List.set_cons_zero, List.set_cons_succ]
    · intro l a wc hI hd
      obtain ⟨u10, u11, u12, u13, u5, ha, s0, s1, s2, s3, s5, O0, hO⟩ := hI
      simp only [Act.put, List.setIfInBounds_toArray, List.set_cons_zero, List.set_cons_succ] at ha
      have q0 := s0 (hd 0 (by decide))
      have q1 := s1 (hd 1 (by decide))
      have q2 := s2 (hd 2 (by decide))
      have q3 := s3 (hd 3 (by decide))
      have q5 := s5 (hd 5 (by decide))
      have r0 : wc.heap[(w.heap.size + 1)]? = some (.cells #[.int .u64 (wd y 0 : Int), .int .u64 (wd y 1 : Int), .int .u64 (wd y 2 : Int), .int .u64 (wd y 3 : Int)] 24) := O0.now (hd 4 (by decide))
      subst ha q0 q1 q2 q3 q5
      clear hd s0 s1 s2 s3 s5 O0
      have hOf : Off (fun _ => False) w wc := HOw.out.trans hO (fun k hk e => by omega)
      obtain ⟨p0, p1, p2, p3⟩ := cells4 r0
      have HOf := Lib.hid hOf
      clear hOf hO HOw HK HR HNW r0
      go_wp2
      refine bodyPost_ret (v := .tuple #[V y, .int .i64 0]) (by simp [results, Tryd.results20, go_sem, p0, p1, p2, p3]) rfl ⟨rfl, HOf.out⟩
  · have hd : packV p bs = (0, 8) := by unfold packV; rw [if_neg (by omega)]
    have h1 : ¬ ((n : Int) ≤ 31) := by omega
    have h2 : decide ((31 : Int) < (n : Int)) = true := by simp; omega
    rw [hd, show V (0, 8).1 = _ from lit_small 0 (by decide)]
    clear hb hn hs hF hd
    go_enter Tryd.func20, Tryd.ntmps20
    go_wp2
    refine bodyPost_ret (v := .tuple #[.agg #[.int .u64 ((0 : Nat) : Int), .int .u64 0, .int .u64 0, .int .u64 0], .int .i64 8]) (by simp [results, Tryd.results20, go_sem]) rfl ⟨rfl, ?_⟩
    exact ((Off.refl _ w).alloc _).alloc _
end Go.Proofs.YtclknpkjnkgejaaDoor
