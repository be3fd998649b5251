/-
  Contracts of the reference's Decode and Wide of layer 7 over this seat's translation. Conditions: the modulus is a number of four words above 1; the slice is told by its bytes.
-/
import Derived.Test.YtclknpkjnkgejaaDoorBytRef
import Derived.Test.YtclknpkjnkgejaaDoorBytDec
import Derived.Test.YtclknpkjnkgejaaDoorBytWide
namespace Go.Proofs.YtclknpkjnkgejaaDoor
open Go.RowKit
attribute [local go_sem ↓] Go.wp_at_zero Go.wp_at_succ
/-- What the reference's Decode returns: the value and the error. -/
def rdecV (p : Nat) (bs : List Nat) : Nat × Nat := if bs.length = 32 then (if numB bs < p then (numB bs, 0) else (0, 9)) else (0, 8)
theorem red_eq {p x : Nat} (h0 : 0 < p) (hx : x < R256) : eqN (redV p x 0 % R256) x = decide (x < p) ∧ redV p x 0 % R256 < R256 := by
  have hR : 0 < R256 := by decide
  refine ⟨?_, Nat.mod_lt _ hR⟩
  unfold redV eqN
  by_cases h : x < p
  · rw [if_pos ⟨by decide, h⟩, Nat.mod_eq_of_lt hx]; simp [h]
  · rw [if_neg (fun c => h c.2)]
    have hs : subV x p % R256 = x - p := by
      unfold subV
      rw [show x + R256 - p = (x - p) + R256 by omega, Nat.add_mod_right, Nat.mod_eq_of_lt (by omega)]
    rw [hs]
    simp [h]
    omega
set_option maxRecDepth 100000 in
set_option maxHeartbeats 4000000 in
theorem refdecode_any (p : Nat) (hp : p < R256) (h1 : 1 < p) (a : Option Addr) (n cap : Nat) (bs : List Nat) (S : Nat → Prop) (w : World) (hb : BsAt w a bs S) (hn : n = bs.length) (hs : Small bs) :
    Calls Tryd.prog 17 #[V p, .slice a n cap] w fun e w' => e = .returned (.tuple #[V (rdecV p bs).1, .int .i64 ((rdecV p bs).2 : Int)]) ∧ Off (fun _ => False) w w' := by
  by_cases h32 : n = 32
  · have hx := numB_r256 hs (by omega)
    have hN := fun W (h : Off (fun k => w.heap.size ≤ k) w W) => refnumber_any a n cap bs _ W (hb.later h) hn hs (by omega)
    have hC := fun W => by have h := mod_subtract p (numB bs) hp hx 0 ⟨by omega, by omega⟩ W; rw [← V_mod (redV p (numB bs) 0)] at h; exact h
    have hd : rdecV p bs = if numB bs < p then (numB bs, 0) else (0, 9) := by unfold rdecV; rw [if_pos (by omega)]
    obtain ⟨x, hxx⟩ : ∃ x, x = numB bs := ⟨_, rfl⟩
    rw [← hxx] at hN hC hd hx
    have hre := red_eq (show 0 < p by omega) hx
    obtain ⟨y, hy⟩ : ∃ y, y = redV p x 0 % R256 := ⟨_, rfl⟩
    rw [← hy] at hC hre
    have hq := fun W => equalIn_num hre.2 hx W
    rw [hre.1] at hq
    have HN := Lib.hid hN
    have HC := Lib.hid hC
    clear hN hC hb hn hs hx hxx hp h1 hre hy
    subst h32
    by_cases hlt : x < p
    · rw [decide_eq_true hlt] at hq
      rw [hd, if_pos hlt]
      clear hd hlt
      go_enter Tryd.func17, Tryd.ntmps17
      obtain ⟨W0, hW0⟩ : ∃ W0, W0 = (w.alloc (.cells #[.int .u64 (wd p 0 : Int), .int .u64 (wd p 1 : Int), .int .u64 (wd p 2 : Int), .int .u64 (wd p 3 : Int)] 23)).alloc (.cells #[.int .u64 0, .int .u64 0, .int .u64 0, .int .u64 0] 23) := ⟨_, rfl⟩
      have HF0 := Lib.hid (show W0.heap[w.heap.size]? = some (.cells #[.int .u64 (wd p 0 : Int), .int .u64 (wd p 1 : Int), .int .u64 (wd p 2 : Int), .int .u64 (wd p 3 : Int)] 23) by rw [hW0]; exact heap_old' (heap_new' rfl _) _)
      have HR0 := Lib.hid (show W0.heap[w.heap.size + 1]? = some (.cells #[.int .u64 0, .int .u64 0, .int .u64 0, .int .u64 0] 23) by rw [hW0]; exact heap_new' (by simp) _)
      have HO0 := Lib.hid (show Off (fun _ => False) w W0 by rw [hW0]; exact (((Off.refl (fun _ => False) w).alloc _).alloc _))
      clear hW0
      go_wp2_with fail
      refine (HN.out _ ((((Off.refl (fun _ => False) w).alloc _).alloc _).mono (fun _ _ c => c.elim))).mono ?_
      rintro e u1 ⟨rfl, hO⟩
      have HPc := Lib.hid (show u1.heap[w.heap.size]? = some (.cells #[.int .u64 (wd p 0 : Int), .int .u64 (wd p 1 : Int), .int .u64 (wd p 2 : Int), .int .u64 (wd p 3 : Int)] 23) from hO.heap (heap_old' (heap_new' rfl _) _) (fun c => c))
      have HRc := Lib.hid (show u1.heap[w.heap.size + 1]? = some (.cells #[.int .u64 0, .int .u64 0, .int .u64 0, .int .u64 0] 23) from hO.heap (heap_new' (by simp) _) (fun c => c))
      have HO1 := Lib.hid ((((Off.refl (fun _ => False) w).alloc _).alloc _).trans hO (fun _ _ c => c))
      clear hO HF0 HR0 HO0
      obtain ⟨W1, hW1⟩ : ∃ W1, W1 = u1.alloc (.cells #[.int .u64 (wd x 0 : Int), .int .u64 (wd x 1 : Int), .int .u64 (wd x 2 : Int), .int .u64 (wd x 3 : Int)] 23) := ⟨_, rfl⟩
      have HX1 := Lib.hid (show W1.heap[u1.heap.size]? = some (.cells #[.int .u64 (wd x 0 : Int), .int .u64 (wd x 1 : Int), .int .u64 (wd x 2 : Int), .int .u64 (wd x 3 : Int)] 23) by rw [hW1]; exact heap_new' rfl _)
      have HP1 := Lib.hid (show W1.heap[w.heap.size]? = some (.cells #[.int .u64 (wd p 0 : Int), .int .u64 (wd p 1 : Int), .int .u64 (wd p 2 : Int), .int .u64 (wd p 3 : Int)] 23) by rw [hW1]; exact heap_old' HPc.out _)
      have HR1 := Lib.hid (show W1.heap[w.heap.size + 1]? = some (.cells #[.int .u64 0, .int .u64 0, .int .u64 0, .int .u64 0] 23) by rw [hW1]; exact heap_old' HRc.out _)
      have HO2 := Lib.hid (show Off (fun _ => False) w W1 by rw [hW1]; exact HO1.out.alloc _)
      have HK : Hid (∀ W, Off (fun _ => False) W1 W → (W.cell? ⟨w.heap.size, 0, none⟩ = some (.int .u64 (wd p 0 : Int)) ∧ W.cell? ⟨w.heap.size, 1, none⟩ = some (.int .u64 (wd p 1 : Int)) ∧ W.cell? ⟨w.heap.size, 2, none⟩ = some (.int .u64 (wd p 2 : Int)) ∧ W.cell? ⟨w.heap.size, 3, none⟩ = some (.int .u64 (wd p 3 : Int))) ∧ (W.cell? ⟨u1.heap.size, 0, none⟩ = some (.int .u64 (wd x 0 : Int)) ∧ W.cell? ⟨u1.heap.size, 1, none⟩ = some (.int .u64 (wd x 1 : Int)) ∧ W.cell? ⟨u1.heap.size, 2, none⟩ = some (.int .u64 (wd x 2 : Int)) ∧ W.cell? ⟨u1.heap.size, 3, none⟩ = some (.int .u64 (wd x 3 : Int))) ∧ Off (fun _ => False) W1 W) := Lib.hid (fun W h => ⟨cells4 (h.heap HP1.out (fun c => c)), cells4 (h.heap HX1.out (fun c => c)), h⟩)
      have HW1 := Lib.hid hW1
      clear hW1 HPc HRc HO1
      go_upto_region 4 with fail
      rw [← HW1.out]
      refine wp_region_inv (fun a0 l a' w' => ∃ (u13 : Value) (u14 : Value) (u15 : Value) (u16 : Value) (u17 : Value), a' = (Act.put (Act.put (Act.put (Act.put (Act.put a0 (some 13) u13) (some 14) u14) (some 15) u15) (some 16) u16) (some 17) u17) ∧ Slot l 0 u13 (V p) ∧ Slot l 1 u14 (V x) ∧ Slot l 2 u15 (V y) ∧ Slot l 3 u16 (V x) ∧ Slot l 4 u17 (.bool false) ∧ Off (fun _ => False) W1 w') (by kernel_rfl) (by kernel_rfl) ?_ ⟨?_, ?_, ?_, ?_, ?_, trivial⟩ ?_
      · refine ⟨?z13, ?z14, ?z15, ?z16, ?z17, ?fr, Slot.start _ _ _, Slot.start _ _ _, Slot.start _ _ _, Slot.start _ _ _, Slot.start _ _ _, (Off.refl _ W1).drew⟩
        case fr => first | (simp only [Act.put, List.setIfInBounds_toArray, List.set_cons_zero, List.set_cons_succ]; rfl) | simp only [Act.put, List.setIfInBounds_toArray, List.set_cons_zero, List.set_cons_succ]
      · intro l a wr hI hl hd K' hK
        obtain ⟨u13, u14, u15, u16, u17, ha, s0, s1, s2, s3, s4, hO⟩ := hI
        simp only [Act.put, List.setIfInBounds_toArray, List.set_cons_zero, List.set_cons_succ] at ha
        subst ha
        have hc := HK.out wr hO
        have p0 := hc.1.1
        have p1 := hc.1.2.1
        have p2 := hc.1.2.2.1
        have p3 := hc.1.2.2.2
        clear hc
        go_simp
        refine hK.out _ _ ⟨_, _, _, _, _, ?_, Slot.new _ _ _, s1.keep rfl, s2.keep rfl, s3.keep rfl, s4.keep rfl, hO⟩
        simp only [Act.put, List.setIfInBounds_toArray, List.set_cons_zero, List.set_cons_succ]
      · intro l a wr hI hl hd K' hK
        obtain ⟨u13, u14, u15, u16, u17, ha, s0, s1, s2, s3, s4, hO⟩ := hI
        simp only [Act.put, List.setIfInBounds_toArray, List.set_cons_zero, List.set_cons_succ] at ha
        subst ha
        have hc := HK.out wr hO
        have p0 := hc.2.1.1
        have p1 := hc.2.1.2.1
        have p2 := hc.2.1.2.2.1
        have p3 := hc.2.1.2.2.2
        clear hc
        go_simp
        refine hK.out _ _ ⟨_, _, _, _, _, ?_, s0.keep rfl, Slot.new _ _ _, s2.keep rfl, s3.keep rfl, s4.keep rfl, hO⟩
        simp only [Act.put, List.setIfInBounds_toArray, List.set_cons_zero, List.set_cons_succ]
      · intro l a wr hI hl hd K' hK
        obtain ⟨u13, u14, u15, u16, u17, ha, s0, s1, s2, s3, s4, hO⟩ := hI
        simp only [Act.put, List.setIfInBounds_toArray, List.set_cons_zero, List.set_cons_succ] at ha
        have q0 := s0 (hd 0 (by decide))
        have q1 := s1 (hd 1 (by decide))
        subst ha q0 q1
        go_simp
        refine (held_inv (HC.out wr) hO).mono ?_
        rintro e w1 ⟨rfl, hO1, hOW⟩
        go_wp2_with fail
        refine hK.out _ _ ⟨_, _, _, _, _, ?_, s0.keep rfl, s1.keep rfl, Slot.new _ _ _, s3.keep rfl, s4.keep rfl, hO1⟩
        simp only [Act.put, List.setIfInBounds_toArray, List.set_cons_zero, List.set_cons_succ]
      · intro l a wr hI hl hd K' hK
        obtain ⟨u13, u14, u15, u16, u17, ha, s0, s1, s2, s3, s4, hO⟩ := hI
        simp only [Act.put, List.setIfInBounds_toArray, List.set_cons_zero, List.set_cons_succ] at ha
        subst ha
        have hc := HK.out wr hO
        have p0 := hc.2.1.1
        have p1 := hc.2.1.2.1
        have p2 := hc.2.1.2.2.1
        have p3 := hc.2.1.2.2.2
        clear hc
        go_simp
        refine hK.out _ _ ⟨_, _, _, _, _, ?_, s0.keep rfl, s1.keep rfl, s2.keep rfl, Slot.new _ _ _, s4.keep rfl, hO⟩
        simp only [Act.put, List.setIfInBounds_toArray, List.set_cons_zero, List.set_cons_succ]
      · intro l a wr hI hl hd K' hK
        obtain ⟨u13, u14, u15, u16, u17, ha, s0, s1, s2, s3, s4, hO⟩ := hI
        simp only [Act.put, List.setIfInBounds_toArray, List.set_cons_zero, List.set_cons_succ] at ha
        have q2 := s2 (hd 2 (by decide))
        have q3 := s3 (hd 3 (by decide))
        subst ha q2 q3
        go_simp
        refine hK.out _ _ ⟨_, _, _, _, _, ?_, s0.keep rfl, s1.keep rfl, s2.keep rfl, s3.keep rfl, Slot.new _ _ _, hO⟩
        simp only [Act.put, List.setIfInBounds_toArray, List.set_cons_zero, List.set_cons_succ]
      · intro l a wc hI hd
        obtain ⟨u13, u14, u15, u16, u17, ha, s0, s1, s2, s3, s4, hO⟩ := hI
        simp only [Act.put, List.setIfInBounds_toArray, List.set_cons_zero, List.set_cons_succ] at ha
        have q0 := s0 (hd 0 (by decide))
        have q1 := s1 (hd 1 (by decide))
        have q2 := s2 (hd 2 (by decide))
        have q3 := s3 (hd 3 (by decide))
        have q4 := s4 (hd 4 (by decide))
        subst ha q0 q1 q2 q3 q4
        clear hd s0 s1 s2 s3 s4
        obtain ⟨⟨r0, r1, r2, r3⟩, fz, lt⟩ := zero_cells (hO.heap HR1.out (fun c => c))
        obtain ⟨x0, x1, x2, x3⟩ := cells4 (hO.heap HX1.out (fun c => c))
        have HOf := Lib.hid (HO2.out.trans hO (fun _ _ c => c))
        clear hO HK HX1 HP1 HR1 HO2 HW1 HC HN
        go_wp2
        refine bodyPost_ret (v := .tuple #[V x, .int .i64 0]) (by simp [results, Tryd.results17, go_sem, r0, r1, r2, r3]) rfl ⟨rfl, ?_⟩
        exact off4 HOf.out (by omega) _ _ _ _
    · rw [decide_eq_false hlt] at hq
      rw [hd, if_neg hlt, show V (0, 9).1 = _ from lit_small 0 (by decide)]
      clear hd hlt
      go_enter Tryd.func17, Tryd.ntmps17
      obtain ⟨W0, hW0⟩ : ∃ W0, W0 = (w.alloc (.cells #[.int .u64 (wd p 0 : Int), .int .u64 (wd p 1 : Int), .int .u64 (wd p 2 : Int), .int .u64 (wd p 3 : Int)] 23)).alloc (.cells #[.int .u64 0, .int .u64 0, .int .u64 0, .int .u64 0] 23) := ⟨_, rfl⟩
      have HF0 := Lib.hid (show W0.heap[w.heap.size]? = some (.cells #[.int .u64 (wd p 0 : Int), .int .u64 (wd p 1 : Int), .int .u64 (wd p 2 : Int), .int .u64 (wd p 3 : Int)] 23) by rw [hW0]; exact heap_old' (heap_new' rfl _) _)
      have HR0 := Lib.hid (show W0.heap[w.heap.size + 1]? = some (.cells #[.int .u64 0, .int .u64 0, .int .u64 0, .int .u64 0] 23) by rw [hW0]; exact heap_new' (by simp) _)
      have HO0 := Lib.hid (show Off (fun _ => False) w W0 by rw [hW0]; exact (((Off.refl (fun _ => False) w).alloc _).alloc _))
      clear hW0
      go_wp2_with fail
      refine (HN.out _ ((((Off.refl (fun _ => False) w).alloc _).alloc _).mono (fun _ _ c => c.elim))).mono ?_
      rintro e u1 ⟨rfl, hO⟩
      have HPc := Lib.hid (show u1.heap[w.heap.size]? = some (.cells #[.int .u64 (wd p 0 : Int), .int .u64 (wd p 1 : Int), .int .u64 (wd p 2 : Int), .int .u64 (wd p 3 : Int)] 23) from hO.heap (heap_old' (heap_new' rfl _) _) (fun c => c))
      have HRc := Lib.hid (show u1.heap[w.heap.size + 1]? = some (.cells #[.int .u64 0, .int .u64 0, .int .u64 0, .int .u64 0] 23) from hO.heap (heap_new' (by simp) _) (fun c => c))
      have HO1 := Lib.hid ((((Off.refl (fun _ => False) w).alloc _).alloc _).trans hO (fun _ _ c => c))
      clear hO HF0 HR0 HO0
      obtain ⟨W1, hW1⟩ : ∃ W1, W1 = u1.alloc (.cells #[.int .u64 (wd x 0 : Int), .int .u64 (wd x 1 : Int), .int .u64 (wd x 2 : Int), .int .u64 (wd x 3 : Int)] 23) := ⟨_, rfl⟩
      have HX1 := Lib.hid (show W1.heap[u1.heap.size]? = some (.cells #[.int .u64 (wd x 0 : Int), .int .u64 (wd x 1 : Int), .int .u64 (wd x 2 : Int), .int .u64 (wd x 3 : Int)] 23) by rw [hW1]; exact heap_new' rfl _)
      have HP1 := Lib.hid (show W1.heap[w.heap.size]? = some (.cells #[.int .u64 (wd p 0 : Int), .int .u64 (wd p 1 : Int), .int .u64 (wd p 2 : Int), .int .u64 (wd p 3 : Int)] 23) by rw [hW1]; exact heap_old' HPc.out _)
      have HR1 := Lib.hid (show W1.heap[w.heap.size + 1]? = some (.cells #[.int .u64 0, .int .u64 0, .int .u64 0, .int .u64 0] 23) by rw [hW1]; exact heap_old' HRc.out _)
      have HO2 := Lib.hid (show Off (fun _ => False) w W1 by rw [hW1]; exact HO1.out.alloc _)
      have HK : Hid (∀ W, Off (fun _ => False) W1 W → (W.cell? ⟨w.heap.size, 0, none⟩ = some (.int .u64 (wd p 0 : Int)) ∧ W.cell? ⟨w.heap.size, 1, none⟩ = some (.int .u64 (wd p 1 : Int)) ∧ W.cell? ⟨w.heap.size, 2, none⟩ = some (.int .u64 (wd p 2 : Int)) ∧ W.cell? ⟨w.heap.size, 3, none⟩ = some (.int .u64 (wd p 3 : Int))) ∧ (W.cell? ⟨u1.heap.size, 0, none⟩ = some (.int .u64 (wd x 0 : Int)) ∧ W.cell? ⟨u1.heap.size, 1, none⟩ = some (.int .u64 (wd x 1 : Int)) ∧ W.cell? ⟨u1.heap.size, 2, none⟩ = some (.int .u64 (wd x 2 : Int)) ∧ W.cell? ⟨u1.heap.size, 3, none⟩ = some (.int .u64 (wd x 3 : Int))) ∧ Off (fun _ => False) W1 W) := Lib.hid (fun W h => ⟨cells4 (h.heap HP1.out (fun c => c)), cells4 (h.heap HX1.out (fun c => c)), h⟩)
      have HW1 := Lib.hid hW1
      clear hW1 HPc HRc HO1
      go_upto_region 4 with fail
      rw [← HW1.out]
      refine wp_region_inv (fun a0 l a' w' => ∃ (u13 : Value) (u14 : Value) (u15 : Value) (u16 : Value) (u17 : Value), a' = (Act.put (Act.put (Act.put (Act.put (Act.put a0 (some 13) u13) (some 14) u14) (some 15) u15) (some 16) u16) (some 17) u17) ∧ Slot l 0 u13 (V p) ∧ Slot l 1 u14 (V x) ∧ Slot l 2 u15 (V y) ∧ Slot l 3 u16 (V x) ∧ Slot l 4 u17 (.bool true) ∧ Off (fun _ => False) W1 w') (by kernel_rfl) (by kernel_rfl) ?_ ⟨?_, ?_, ?_, ?_, ?_, trivial⟩ ?_
      · refine ⟨?z13, ?z14, ?z15, ?z16, ?z17, ?fr, Slot.start _ _ _, Slot.start _ _ _, Slot.start _ _ _, Slot.start _ _ _, Slot.start _ _ _, (Off.refl _ W1).drew⟩
        case fr => first | (simp only [Act.put, List.setIfInBounds_toArray, List.set_cons_zero, List.set_cons_succ]; rfl) | simp only [Act.put, List.setIfInBounds_toArray, List.set_cons_zero, List.set_cons_succ]
      · intro l a wr hI hl hd K' hK
        obtain ⟨u13, u14, u15, u16, u17, ha, s0, s1, s2, s3, s4, hO⟩ := hI
        simp only [Act.put, List.setIfInBounds_toArray, List.set_cons_zero, List.set_cons_succ] at ha
        subst ha
        have hc := HK.out wr hO
        have p0 := hc.1.1
        have p1 := hc.1.2.1
        have p2 := hc.1.2.2.1
        have p3 := hc.1.2.2.2
        clear hc
        go_simp
        refine hK.out _ _ ⟨_, _, _, _, _, ?_, Slot.new _ _ _, s1.keep rfl, s2.keep rfl, s3.keep rfl, s4.keep rfl, hO⟩
        simp only [Act.put, List.setIfInBounds_toArray, List.set_cons_zero, List.set_cons_succ]
      · intro l a wr hI hl hd K' hK
        obtain ⟨u13, u14, u15, u16, u17, ha, s0, s1, s2, s3, s4, hO⟩ := hI
        simp only [Act.put, List.setIfInBounds_toArray, List.set_cons_zero, List.set_cons_succ] at ha
        subst ha
        have hc := HK.out wr hO
        have p0 := hc.2.1.1
        have p1 := hc.2.1.2.1
        have p2 := hc.2.1.2.2.1
        have p3 := hc.2.1.2.2.2
        clear hc
        go_simp
        refine hK.out _ _ ⟨_, _, _, _, _, ?_, s0.keep rfl, Slot.new _ _ _, s2.keep rfl, s3.keep rfl, s4.keep rfl, hO⟩
        simp only [Act.put, List.setIfInBounds_toArray, List.set_cons_zero, List.set_cons_succ]
      · intro l a wr hI hl hd K' hK
        obtain ⟨u13, u14, u15, u16, u17, ha, s0, s1, s2, s3, s4, hO⟩ := hI
        simp only [Act.put, List.setIfInBounds_toArray, List.set_cons_zero, List.set_cons_succ] at ha
        have q0 := s0 (hd 0 (by decide))
        have q1 := s1 (hd 1 (by decide))
        subst ha q0 q1
        go_simp
        refine (held_inv (HC.out wr) hO).mono ?_
        rintro e w1 ⟨rfl, hO1, hOW⟩
        go_wp2_with fail
        refine hK.out _ _ ⟨_, _, _, _, _, ?_, s0.keep rfl, s1.keep rfl, Slot.new _ _ _, s3.keep rfl, s4.keep rfl, hO1⟩
        simp only [Act.put, List.setIfInBounds_toArray, List.set_cons_zero, List.set_cons_succ]
      · intro l a wr hI hl hd K' hK
        obtain ⟨u13, u14, u15, u16, u17, ha, s0, s1, s2, s3, s4, hO⟩ := hI
        simp only [Act.put, List.setIfInBounds_toArray, List.set_cons_zero, List.set_cons_succ] at ha
        subst ha
        have hc := HK.out wr hO
        have p0 := hc.2.1.1
        have p1 := hc.2.1.2.1
        have p2 := hc.2.1.2.2.1
        have p3 := hc.2.1.2.2.2
        clear hc
        go_simp
        refine hK.out _ _ ⟨_, _, _, _, _, ?_, s0.keep rfl, s1.keep rfl, s2.keep rfl, Slot.new _ _ _, s4.keep rfl, hO⟩
        simp only [Act.put, List.setIfInBounds_toArray, List.set_cons_zero, List.set_cons_succ]
      · intro l a wr hI hl hd K' hK
        obtain ⟨u13, u14, u15, u16, u17, ha, s0, s1, s2, s3, s4, hO⟩ := hI
        simp only [Act.put, List.setIfInBounds_toArray, List.set_cons_zero, List.set_cons_succ] at ha
        have q2 := s2 (hd 2 (by decide))
        have q3 := s3 (hd 3 (by decide))
        subst ha q2 q3
        go_simp
        refine hK.out _ _ ⟨_, _, _, _, _, ?_, s0.keep rfl, s1.keep rfl, s2.keep rfl, s3.keep rfl, Slot.new _ _ _, hO⟩
        simp only [Act.put, List.setIfInBounds_toArray, List.set_cons_zero, List.set_cons_succ]
      · intro l a wc hI hd
        obtain ⟨u13, u14, u15, u16, u17, ha, s0, s1, s2, s3, s4, hO⟩ := hI
        simp only [Act.put, List.setIfInBounds_toArray, List.set_cons_zero, List.set_cons_succ] at ha
        have q0 := s0 (hd 0 (by decide))
        have q1 := s1 (hd 1 (by decide))
        have q2 := s2 (hd 2 (by decide))
        have q3 := s3 (hd 3 (by decide))
        have q4 := s4 (hd 4 (by decide))
        subst ha q0 q1 q2 q3 q4
        clear hd s0 s1 s2 s3 s4
        obtain ⟨⟨r0, r1, r2, r3⟩, fz, lt⟩ := zero_cells (hO.heap HR1.out (fun c => c))
        have HOf := Lib.hid (HO2.out.trans hO (fun _ _ c => c))
        clear hO HK HX1 HP1 HR1 HO2 HW1 HC HN
        go_wp2
        refine bodyPost_ret (v := .tuple #[.agg #[.int .u64 ((0 : Nat) : Int), .int .u64 0, .int .u64 0, .int .u64 0], .int .i64 9]) (by simp [results, Tryd.results17, go_sem, r0, r1, r2, r3]) rfl ⟨rfl, ?_⟩
        exact off4 HOf.out (by omega) _ _ _ _
  · have hd : rdecV p bs = (0, 8) := by unfold rdecV; rw [if_neg (by omega)]
    have h2 : ¬ ((n : Int) = 32) := by omega
    rw [hd, show V (0, 8).1 = _ from lit_small 0 (by decide)]
    clear hb hn hs hp h1 hd
    go_enter Tryd.func17, Tryd.ntmps17
    go_wp2
    refine bodyPost_ret (v := .tuple #[.agg #[.int .u64 ((0 : Nat) : Int), .int .u64 0, .int .u64 0, .int .u64 0], .int .i64 8]) (by simp [results, Tryd.results17, go_sem]) rfl ⟨rfl, ?_⟩
    exact ((Off.refl _ w).alloc _).alloc _
/-- What the reference's Wide returns. -/
def rwideV (p : Nat) (bs : List Nat) : Nat × Nat := if bs.length = 64 then (numB bs % p, 0) else (0, 8)
theorem rwide_val {p : Nat} {bs : List Nat} (hl : bs.length = 64) : (numB (bs.take 32) % p + radV p 256 * (numB (bs.drop 32) % p) % p) % p = numB bs % p := by
  have h1 := numB_split bs 32 (by omega)
  unfold radV
  rw [h1, ← r256_bytes, ← Nat.mul_mod, ← Nat.add_mod]
set_option maxRecDepth 100000 in
set_option maxHeartbeats 4000000 in
theorem refwide_any (p : Nat) (hp : p < R256) (h1 : 1 < p) (a : Option Addr) (n cap : Nat) (bs : List Nat) (S : Nat → Prop) (w : World) (hb : BsAt w a bs S) (hn : n = bs.length) (hs : Small bs) (hcap : n ≤ cap) :
    Calls Tryd.prog 19 #[V p, .slice a n cap] w fun e w' => e = .returned (.tuple #[V (rwideV p bs).1, .int .i64 ((rwideV p bs).2 : Int)]) ∧ Off (fun _ => False) w w' := by
  by_cases h64 : n = 64
  · obtain ⟨bb, off, rfl, hSb, hcell⟩ := hb (by omega)
    have hlo := numB_r256 (hs.take 32) (by simp; omega)
    have hhi := numB_r256 (hs.drop 32) (by simp; omega)
    have hb0 : BsAt w (some ⟨bb, off, none⟩) bs (fun _ => True) := fun _ => ⟨bb, off, rfl, trivial, hcell⟩
    have HN1 := Lib.hid (fun W (h : Off (fun k => w.heap.size ≤ k) w W) => refnumber_any (some ⟨bb, off, none⟩) 32 cap (bs.take 32) _ W ((hb0.later h).take 32) (by simp; omega) (hs.take 32) (by omega))
    have HN2 := Lib.hid (fun W (h : Off (fun k => w.heap.size ≤ k) w W) => refnumber_any (some ⟨bb, off + 32, none⟩) 32 (cap - 32) (bs.drop 32) _ W ((hb0.later h).drop 32) (by simp; omega) (hs.drop 32) (by omega))
    have hs1 : ∀ W, (Instr.slice 30 (.slice (some ⟨bb, off, none⟩) 64 cap) none (some (.int .i64 32)) none).run Tryd.prog W = .ok (.slice (some ⟨bb, off, none⟩) 32 cap) W := fun W => slice_hi bb off 64 cap 32 (by omega) W
    have hs2 : ∀ W, (Instr.slice 30 (.slice (some ⟨bb, off, none⟩) 64 cap) (some (.int .i64 32)) none none).run Tryd.prog W = .ok (.slice (some ⟨bb, off + 32, none⟩) 32 (cap - 32)) W := fun W => slice_lo bb off 64 cap 32 (by omega) (by omega) W
    have hs3 : (32 : Int) ≤ (cap : Int) := by omega
    have hs4 : cap ≠ 32 := by omega
    have hv := rwide_val (p := p) (show bs.length = 64 by omega)
    have hd : rwideV p bs = (numB bs % p, 0) := by unfold rwideV; rw [if_pos (by omega)]
    rw [hd, ← hv]
    obtain ⟨lo, hlo2⟩ : ∃ lo, lo = numB (bs.take 32) := ⟨_, rfl⟩
    obtain ⟨hi, hhi2⟩ : ∃ hi, hi = numB (bs.drop 32) := ⟨_, rfl⟩
    rw [← hlo2] at HN1 hlo ⊢
    rw [← hhi2] at HN2 hhi ⊢
    have hT1 := fun W => mod_mod p lo hp h1 hlo W
    have hT2 := fun W => mod_mod p hi hp h1 hhi W
    have hX := fun W => mod_radix p hp h1 W
    obtain ⟨y, hy⟩ : ∃ y, y = lo % p := ⟨_, rfl⟩
    obtain ⟨z, hz⟩ : ∃ z, z = hi % p := ⟨_, rfl⟩
    obtain ⟨d, hdd⟩ : ∃ d, d = radV p 256 := ⟨_, rfl⟩
    have hyp : y < p := by rw [hy]; exact Nat.mod_lt _ (by omega)
    have hzp : z < p := by rw [hz]; exact Nat.mod_lt _ (by omega)
    have hdp : d < p := by rw [hdd]; exact Nat.mod_lt _ (by omega)
    rw [← hy] at hT1 ⊢
    rw [← hz] at hT2 ⊢
    rw [← hdd] at hX ⊢
    have hM := fun W => mod_mul p d z hp h1 hdp (by omega) W
    have hmz : d * z % p < p := Nat.mod_lt _ (by omega)
    obtain ⟨m, hm⟩ : ∃ m, m = d * z % p := ⟨_, rfl⟩
    rw [← hm] at hM hmz ⊢
    have hA := fun W => mod_add p y m hp hyp hmz W
    obtain ⟨x, hx⟩ : ∃ x, x = (y + m) % p := ⟨_, rfl⟩
    rw [← hx] at hA ⊢
    have HT1 := Lib.hid hT1
    have HT2 := Lib.hid hT2
    have HX := Lib.hid hX
    have HM := Lib.hid hM
    have HA := Lib.hid hA
    clear hT1 hT2 hX hM hA hb0 hcell hSb hb hn hs hlo hhi hv hd hp h1 hlo2 hhi2 hy hz hdd hyp hzp hdp hmz hm hx hcap
    subst h64
    go_enter Tryd.func19, Tryd.ntmps19
    obtain ⟨W0, hW0⟩ : ∃ W0, W0 = (w.alloc (.cells #[.int .u64 (wd p 0 : Int), .int .u64 (wd p 1 : Int), .int .u64 (wd p 2 : Int), .int .u64 (wd p 3 : Int)] 23)).alloc (.cells #[.int .u64 0, .int .u64 0, .int .u64 0, .int .u64 0] 23) := ⟨_, rfl⟩
    have HF0 := Lib.hid (show W0.heap[w.heap.size]? = some (.cells #[.int .u64 (wd p 0 : Int), .int .u64 (wd p 1 : Int), .int .u64 (wd p 2 : Int), .int .u64 (wd p 3 : Int)] 23) by rw [hW0]; exact heap_old' (heap_new' rfl _) _)
    have HR0 := Lib.hid (show W0.heap[w.heap.size + 1]? = some (.cells #[.int .u64 0, .int .u64 0, .int .u64 0, .int .u64 0] 23) by rw [hW0]; exact heap_new' (by simp) _)
    have HO0 := Lib.hid (show Off (fun _ => False) w W0 by rw [hW0]; exact (((Off.refl (fun _ => False) w).alloc _).alloc _))
    have HK0 : Hid (∀ W, Off (fun _ => False) W0 W → (W.cell? ⟨w.heap.size, 0, none⟩ = some (.int .u64 (wd p 0 : Int)) ∧ W.cell? ⟨w.heap.size, 1, none⟩ = some (.int .u64 (wd p 1 : Int)) ∧ W.cell? ⟨w.heap.size, 2, none⟩ = some (.int .u64 (wd p 2 : Int)) ∧ W.cell? ⟨w.heap.size, 3, none⟩ = some (.int .u64 (wd p 3 : Int))) ∧ Off (fun _ => False) W0 W) := Lib.hid (fun W h => ⟨cells4 (h.heap HF0.out (fun c => c)), h⟩)
    have HW0 := Lib.hid hW0
    clear hW0
    go_upto_region 3 with fail
    rw [← HW0.out]
    refine wp_region_inv (fun a0 l a' w' => ∃ (u12 : Value) (u13 : Value) (u14 : Value) (u15 : Value) (u16 : Value) (u6 : Value) (b6 : Nat), a' = (Act.put (Act.put (Act.put (Act.put (Act.put (Act.put a0 (some 12) u12) (some 13) u13) (some 14) u14) (some 15) u15) (some 16) u16) (some 6) u6) ∧ Slot l 0 u12 (V p) ∧ Slot l 1 u13 (.slice (some ⟨bb, off, none⟩) 64 cap) ∧ Slot l 2 u14 (.slice (some ⟨bb, off, none⟩) 32 cap) ∧ Slot l 3 u15 (V lo) ∧ Slot l 4 u16 (V y) ∧ Blk l 5 6 u6 b6 W0 w' (.cells #[.int .u64 0, .int .u64 0, .int .u64 0, .int .u64 0] 23) (.cells #[.int .u64 (wd y 0 : Int), .int .u64 (wd y 1 : Int), .int .u64 (wd y 2 : Int), .int .u64 (wd y 3 : Int)] 23) ∧ Off (fun _ => False) W0 w') (by kernel_rfl) (by kernel_rfl) ?_ ⟨?_, ?_, ?_, ?_, ?_, ?_, ?_, trivial⟩ ?_
    · refine ⟨?z12, ?z13, ?z14, ?z15, ?z16, ?z6, 0, ?fr, Slot.start _ _ _, Slot.start _ _ _, Slot.start _ _ _, Slot.start _ _ _, Slot.start _ _ _, Blk.start _ _ _ _ _ _ _ _, (Off.refl _ W0).drew⟩
      case fr => first | (simp only [Act.put, List.setIfInBounds_toArray, List.set_cons_zero, List.set_cons_succ]; rfl) | simp only [Act.put, List.setIfInBounds_toArray, List.set_cons_zero, List.set_cons_succ]
    · intro l a wr hI hl hd K' hK
      obtain ⟨u12, u13, u14, u15, u16, u6, b6, ha, s0, s1, s2, s3, s4, B5, hO⟩ := hI
      simp only [Act.put, List.setIfInBounds_toArray, List.set_cons_zero, List.set_cons_succ] at ha
      subst ha
      have hc := HK0.out wr hO
      have p0 := hc.1.1
      have p1 := hc.1.2.1
      have p2 := hc.1.2.2.1
      have p3 := hc.1.2.2.2
      clear hc
      go_simp
      refine hK.out _ _ ⟨_, _, _, _, _, _, _, ?_, Slot.new _ _ _, s1.keep rfl, s2.keep rfl, s3.keep rfl, s4.keep rfl, B5.keep (Off.refl _ wr) rfl rfl, hO⟩
      simp only [Act.put, List.setIfInBounds_toArray, List.set_cons_zero, List.set_cons_succ]
    · intro l a wr hI hl hd K' hK
      obtain ⟨u12, u13, u14, u15, u16, u6, b6, ha, s0, s1, s2, s3, s4, B5, hO⟩ := hI
      simp only [Act.put, List.setIfInBounds_toArray, List.set_cons_zero, List.set_cons_succ] at ha
      subst ha
      go_simp
      refine hK.out _ _ ⟨_, _, _, _, _, _, _, ?_, s0.keep rfl, Slot.new _ _ _, s2.keep rfl, s3.keep rfl, s4.keep rfl, B5.keep (Off.refl _ wr) rfl rfl, hO⟩
      simp only [Act.put, List.setIfInBounds_toArray, List.set_cons_zero, List.set_cons_succ]
    · intro l a wr hI hl hd K' hK
      obtain ⟨u12, u13, u14, u15, u16, u6, b6, ha, s0, s1, s2, s3, s4, B5, hO⟩ := hI
      simp only [Act.put, List.setIfInBounds_toArray, List.set_cons_zero, List.set_cons_succ] at ha
      have q1 := s1 (hd 1 (by decide))
      subst ha q1
      go_simp
      refine hK.out _ _ ⟨_, _, _, _, _, _, _, ?_, s0.keep rfl, s1.keep rfl, Slot.new _ _ _, s3.keep rfl, s4.keep rfl, B5.keep (Off.refl _ wr) rfl rfl, hO⟩
      simp only [Act.put, List.setIfInBounds_toArray, List.set_cons_zero, List.set_cons_succ]
    · intro l a wr hI hl hd K' hK
      obtain ⟨u12, u13, u14, u15, u16, u6, b6, ha, s0, s1, s2, s3, s4, B5, hO⟩ := hI
      simp only [Act.put, List.setIfInBounds_toArray, List.set_cons_zero, List.set_cons_succ] at ha
      have q2 := s2 (hd 2 (by decide))
      subst ha q2
      go_simp
      refine (held_inv (HN1.out wr ((HO0.out.trans hO (fun _ _ c => c)).mono (S' := fun k => w.heap.size ≤ k) (fun _ _ c => c.elim))) hO).mono ?_
      rintro e w1 ⟨rfl, hO1, hOW⟩
      go_wp2_with fail
      refine hK.out _ _ ⟨_, _, _, _, _, _, _, ?_, s0.keep rfl, s1.keep rfl, s2.keep rfl, Slot.new _ _ _, s4.keep rfl, B5.keep hOW rfl rfl, hO1⟩
      simp only [Act.put, List.setIfInBounds_toArray, List.set_cons_zero, List.set_cons_succ]
    · intro l a wr hI hl hd K' hK
      obtain ⟨u12, u13, u14, u15, u16, u6, b6, ha, s0, s1, s2, s3, s4, B5, hO⟩ := hI
      simp only [Act.put, List.setIfInBounds_toArray, List.set_cons_zero, List.set_cons_succ] at ha
      have q0 := s0 (hd 0 (by decide))
      have q3 := s3 (hd 3 (by decide))
      subst ha q0 q3
      go_simp
      refine (held_inv (HT1.out wr) hO).mono ?_
      rintro e w1 ⟨rfl, hO1, hOW⟩
      go_wp2_with fail
      refine hK.out _ _ ⟨_, _, _, _, _, _, _, ?_, s0.keep rfl, s1.keep rfl, s2.keep rfl, s3.keep rfl, Slot.new _ _ _, B5.keep hOW rfl rfl, hO1⟩
      simp only [Act.put, List.setIfInBounds_toArray, List.set_cons_zero, List.set_cons_succ]
    · intro l a wr hI hl hd K' hK
      obtain ⟨u12, u13, u14, u15, u16, u6, b6, ha, s0, s1, s2, s3, s4, B5, hO⟩ := hI
      simp only [Act.put, List.setIfInBounds_toArray, List.set_cons_zero, List.set_cons_succ] at ha
      subst ha
      go_simp
      refine hK.out _ _ ⟨_, _, _, _, _, _, _, ?_, s0.keep rfl, s1.keep rfl, s2.keep rfl, s3.keep rfl, s4.keep rfl, B5.make hl rfl hO, hO.alloc _⟩
      simp only [Act.put, List.setIfInBounds_toArray, List.set_cons_zero, List.set_cons_succ]
    · intro l a wr hI hl hd K' hK
      obtain ⟨u12, u13, u14, u15, u16, u6, b6, ha, s0, s1, s2, s3, s4, B5, hO⟩ := hI
      simp only [Act.put, List.setIfInBounds_toArray, List.set_cons_zero, List.set_cons_succ] at ha
      have h5 := hd 5 (by decide)
      have q5 := B5.ptr h5
      have q4 := s4 (hd 4 (by decide))
      subst ha q5 q4
      obtain ⟨⟨m0, m1, m2, m3⟩, fz, lt⟩ := zero_cells (B5.was h5 hl)
      go_simp
      refine hK.out _ _ ⟨_, _, _, _, _, _, _, ?_, s0.keep rfl, s1.keep rfl, s2.keep rfl, s3.keep rfl, s4.keep rfl, B5.put hl h5 rfl rfl, setCells_in hO (fun c => absurd c (Nat.not_lt.2 (B5.new h5))) [.int .u64 (wd y 0 : Int), .int .u64 (wd y 1 : Int), .int .u64 (wd y 2 : Int), .int .u64 (wd y 3 : Int)]⟩
      simp only [Act.put, List.setIfInBounds_toArray, List.set_cons_zero, List.set_cons_succ]
    · intro l a wc hI hd
      obtain ⟨u12, u13, u14, u15, u16, u6, b6, ha, s0, s1, s2, s3, s4, B5, hO⟩ := hI
      simp only [Act.put, List.setIfInBounds_toArray, List.set_cons_zero, List.set_cons_succ] at ha
      have q0 := s0 (hd 0 (by decide))
      have q1 := s1 (hd 1 (by decide))
      have q2 := s2 (hd 2 (by decide))
      have q3 := s3 (hd 3 (by decide))
      have q4 := s4 (hd 4 (by decide))
      have q5 := B5.ptr (hd 5 (by decide))
      have n6 : wc.heap[b6]? = some (.cells #[.int .u64 (wd y 0 : Int), .int .u64 (wd y 1 : Int), .int .u64 (wd y 2 : Int), .int .u64 (wd y 3 : Int)] 23) := B5.now (hd 5 (by decide)) (hd 6 (by decide))
      have v6 := B5.new (hd 5 (by decide))
      subst ha q0 q1 q2 q3 q4 q5
      clear hd s0 s1 s2 s3 s4 B5
      obtain ⟨W1, hW1⟩ : ∃ W1, W1 = wc := ⟨_, rfl⟩
      subst hW1
      have HF1 := Lib.hid (hO.heap HF0.out (fun c => c))
      have HR1 := Lib.hid (hO.heap HR0.out (fun c => c))
      have HO1 := Lib.hid (HO0.out.trans hO (fun _ _ c => c))
      have HY1 := Lib.hid n6
      have HYN := Lib.hid (show w.heap.size + 1 < b6 from Nat.lt_of_lt_of_le (heap_lt HR0.out) v6)
      have HK1 : Hid (∀ W, Off (fun _ => False) W1 W → (W.cell? ⟨w.heap.size, 0, none⟩ = some (.int .u64 (wd p 0 : Int)) ∧ W.cell? ⟨w.heap.size, 1, none⟩ = some (.int .u64 (wd p 1 : Int)) ∧ W.cell? ⟨w.heap.size, 2, none⟩ = some (.int .u64 (wd p 2 : Int)) ∧ W.cell? ⟨w.heap.size, 3, none⟩ = some (.int .u64 (wd p 3 : Int))) ∧ Off (fun _ => False) W1 W) := Lib.hid (fun W h => ⟨cells4 (h.heap HF1.out (fun c => c)), h⟩)
      clear hO n6 v6 HW0 HK0 HF0 HR0 HO0 HN1 HT1 l
      go_upto_region 4 with fail
      refine wp_region_inv (fun a0 l a' w' => ∃ (u17 : Value) (u18 : Value) (u19 : Value) (u20 : Value) (u21 : Value) (u7 : Value) (b7 : Nat), a' = (Act.put (Act.put (Act.put (Act.put (Act.put (Act.put a0 (some 17) u17) (some 18) u18) (some 19) u19) (some 20) u20) (some 21) u21) (some 7) u7) ∧ Slot l 0 u17 (V p) ∧ Slot l 1 u18 (.slice (some ⟨bb, off, none⟩) 64 cap) ∧ Slot l 2 u19 (.slice (some ⟨bb, off + 32, none⟩) 32 (cap - 32)) ∧ Slot l 3 u20 (V hi) ∧ Slot l 4 u21 (V z) ∧ Blk l 5 6 u7 b7 W1 w' (.cells #[.int .u64 0, .int .u64 0, .int .u64 0, .int .u64 0] 23) (.cells #[.int .u64 (wd z 0 : Int), .int .u64 (wd z 1 : Int), .int .u64 (wd z 2 : Int), .int .u64 (wd z 3 : Int)] 23) ∧ Off (fun _ => False) W1 w') (by kernel_rfl) (by kernel_rfl) ?_ ⟨?_, ?_, ?_, ?_, ?_, ?_, ?_, trivial⟩ ?_
      · refine ⟨?z17, ?z18, ?z19, ?z20, ?z21, ?z7, 0, ?fr, Slot.start _ _ _, Slot.start _ _ _, Slot.start _ _ _, Slot.start _ _ _, Slot.start _ _ _, Blk.start _ _ _ _ _ _ _ _, (Off.refl _ W1).drew⟩
        case fr => first | (simp only [Act.put, List.setIfInBounds_toArray, List.set_cons_zero, List.set_cons_succ]; rfl) | simp only [Act.put, List.setIfInBounds_toArray, List.set_cons_zero, List.set_cons_succ]
      · intro l a wr hI hl hd K' hK
        obtain ⟨u17, u18, u19, u20, u21, u7, b7, ha, s0, s1, s2, s3, s4, B5, hO⟩ := hI
        simp only [Act.put, List.setIfInBounds_toArray, List.set_cons_zero, List.set_cons_succ] at ha
        subst ha
        have hc := HK1.out wr hO
        have p0 := hc.1.1
        have p1 := hc.1.2.1
        have p2 := hc.1.2.2.1
        have p3 := hc.1.2.2.2
        clear hc
        go_simp
        refine hK.out _ _ ⟨_, _, _, _, _, _, _, ?_, Slot.new _ _ _, s1.keep rfl, s2.keep rfl, s3.keep rfl, s4.keep rfl, B5.keep (Off.refl _ wr) rfl rfl, hO⟩
        simp only [Act.put, List.setIfInBounds_toArray, List.set_cons_zero, List.set_cons_succ]
      · intro l a wr hI hl hd K' hK
        obtain ⟨u17, u18, u19, u20, u21, u7, b7, ha, s0, s1, s2, s3, s4, B5, hO⟩ := hI
        simp only [Act.put, List.setIfInBounds_toArray, List.set_cons_zero, List.set_cons_succ] at ha
        subst ha
        go_simp
        refine hK.out _ _ ⟨_, _, _, _, _, _, _, ?_, s0.keep rfl, Slot.new _ _ _, s2.keep rfl, s3.keep rfl, s4.keep rfl, B5.keep (Off.refl _ wr) rfl rfl, hO⟩
        simp only [Act.put, List.setIfInBounds_toArray, List.set_cons_zero, List.set_cons_succ]
      · intro l a wr hI hl hd K' hK
        obtain ⟨u17, u18, u19, u20, u21, u7, b7, ha, s0, s1, s2, s3, s4, B5, hO⟩ := hI
        simp only [Act.put, List.setIfInBounds_toArray, List.set_cons_zero, List.set_cons_succ] at ha
        have q1 := s1 (hd 1 (by decide))
        subst ha q1
        go_simp
        refine hK.out _ _ ⟨_, _, _, _, _, _, _, ?_, s0.keep rfl, s1.keep rfl, Slot.new _ _ _, s3.keep rfl, s4.keep rfl, B5.keep (Off.refl _ wr) rfl rfl, hO⟩
        simp only [Act.put, List.setIfInBounds_toArray, List.set_cons_zero, List.set_cons_succ]
      · intro l a wr hI hl hd K' hK
        obtain ⟨u17, u18, u19, u20, u21, u7, b7, ha, s0, s1, s2, s3, s4, B5, hO⟩ := hI
        simp only [Act.put, List.setIfInBounds_toArray, List.set_cons_zero, List.set_cons_succ] at ha
        have q2 := s2 (hd 2 (by decide))
        subst ha q2
        go_simp
        refine (held_inv (HN2.out wr ((HO1.out.trans hO (fun _ _ c => c)).mono (S' := fun k => w.heap.size ≤ k) (fun _ _ c => c.elim))) hO).mono ?_
        rintro e w1 ⟨rfl, hO1, hOW⟩
        go_wp2_with fail
        refine hK.out _ _ ⟨_, _, _, _, _, _, _, ?_, s0.keep rfl, s1.keep rfl, s2.keep rfl, Slot.new _ _ _, s4.keep rfl, B5.keep hOW rfl rfl, hO1⟩
        simp only [Act.put, List.setIfInBounds_toArray, List.set_cons_zero, List.set_cons_succ]
      · intro l a wr hI hl hd K' hK
        obtain ⟨u17, u18, u19, u20, u21, u7, b7, ha, s0, s1, s2, s3, s4, B5, hO⟩ := hI
        simp only [Act.put, List.setIfInBounds_toArray, List.set_cons_zero, List.set_cons_succ] at ha
        have q0 := s0 (hd 0 (by decide))
        have q3 := s3 (hd 3 (by decide))
        subst ha q0 q3
        go_simp
        refine (held_inv (HT2.out wr) hO).mono ?_
        rintro e w1 ⟨rfl, hO1, hOW⟩
        go_wp2_with fail
        refine hK.out _ _ ⟨_, _, _, _, _, _, _, ?_, s0.keep rfl, s1.keep rfl, s2.keep rfl, s3.keep rfl, Slot.new _ _ _, B5.keep hOW rfl rfl, hO1⟩
        simp only [Act.put, List.setIfInBounds_toArray, List.set_cons_zero, List.set_cons_succ]
      · intro l a wr hI hl hd K' hK
        obtain ⟨u17, u18, u19, u20, u21, u7, b7, ha, s0, s1, s2, s3, s4, B5, hO⟩ := hI
        simp only [Act.put, List.setIfInBounds_toArray, List.set_cons_zero, List.set_cons_succ] at ha
        subst ha
        go_simp
        refine hK.out _ _ ⟨_, _, _, _, _, _, _, ?_, s0.keep rfl, s1.keep rfl, s2.keep rfl, s3.keep rfl, s4.keep rfl, B5.make hl rfl hO, hO.alloc _⟩
        simp only [Act.put, List.setIfInBounds_toArray, List.set_cons_zero, List.set_cons_succ]
      · intro l a wr hI hl hd K' hK
        obtain ⟨u17, u18, u19, u20, u21, u7, b7, ha, s0, s1, s2, s3, s4, B5, hO⟩ := hI
        simp only [Act.put, List.setIfInBounds_toArray, List.set_cons_zero, List.set_cons_succ] at ha
        have h5 := hd 5 (by decide)
        have q5 := B5.ptr h5
        have q4 := s4 (hd 4 (by decide))
        subst ha q5 q4
        obtain ⟨⟨m0, m1, m2, m3⟩, fz, lt⟩ := zero_cells (B5.was h5 hl)
        go_simp
        refine hK.out _ _ ⟨_, _, _, _, _, _, _, ?_, s0.keep rfl, s1.keep rfl, s2.keep rfl, s3.keep rfl, s4.keep rfl, B5.put hl h5 rfl rfl, setCells_in hO (fun c => absurd c (Nat.not_lt.2 (B5.new h5))) [.int .u64 (wd z 0 : Int), .int .u64 (wd z 1 : Int), .int .u64 (wd z 2 : Int), .int .u64 (wd z 3 : Int)]⟩
        simp only [Act.put, List.setIfInBounds_toArray, List.set_cons_zero, List.set_cons_succ]
      · intro l a wc hI hd
        obtain ⟨u17, u18, u19, u20, u21, u7, b7, ha, s0, s1, s2, s3, s4, B5, hO⟩ := hI
        simp only [Act.put, List.setIfInBounds_toArray, List.set_cons_zero, List.set_cons_succ] at ha
        have q0 := s0 (hd 0 (by decide))
        have q1 := s1 (hd 1 (by decide))
        have q2 := s2 (hd 2 (by decide))
        have q3 := s3 (hd 3 (by decide))
        have q4 := s4 (hd 4 (by decide))
        have q5 := B5.ptr (hd 5 (by decide))
        have n7 : wc.heap[b7]? = some (.cells #[.int .u64 (wd z 0 : Int), .int .u64 (wd z 1 : Int), .int .u64 (wd z 2 : Int), .int .u64 (wd z 3 : Int)] 23) := B5.now (hd 5 (by decide)) (hd 6 (by decide))
        have v7 := B5.new (hd 5 (by decide))
        subst ha q0 q1 q2 q3 q4 q5
        clear hd s0 s1 s2 s3 s4 B5
        obtain ⟨W3, hW2⟩ : ∃ W3, W3 = wc := ⟨_, rfl⟩
        subst hW2
        have HR3 := Lib.hid (hO.heap HR1.out (fun c => c))
        have HF3 := Lib.hid (hO.heap HF1.out (fun c => c))
        have HY3 := Lib.hid (hO.heap HY1.out (fun c => c))
        have HZ3 := Lib.hid n7
        have HO3 := Lib.hid (HO1.out.trans hO (fun _ _ c => c))
        have l6 : b6 ≠ w.heap.size + 1 := by have h2 := HYN.out; omega
        have l7 : b7 ≠ w.heap.size + 1 := by have h1 := heap_lt HR1.out; omega
        have HK3 : Hid (∀ W, Off (fun k => k = (w.heap.size + 1)) W3 W → (W.cell? ⟨w.heap.size, 0, none⟩ = some (.int .u64 (wd p 0 : Int)) ∧ W.cell? ⟨w.heap.size, 1, none⟩ = some (.int .u64 (wd p 1 : Int)) ∧ W.cell? ⟨w.heap.size, 2, none⟩ = some (.int .u64 (wd p 2 : Int)) ∧ W.cell? ⟨w.heap.size, 3, none⟩ = some (.int .u64 (wd p 3 : Int))) ∧ (W.cell? ⟨b6, 0, none⟩ = some (.int .u64 (wd y 0 : Int)) ∧ W.cell? ⟨b6, 1, none⟩ = some (.int .u64 (wd y 1 : Int)) ∧ W.cell? ⟨b6, 2, none⟩ = some (.int .u64 (wd y 2 : Int)) ∧ W.cell? ⟨b6, 3, none⟩ = some (.int .u64 (wd y 3 : Int))) ∧ (W.cell? ⟨b7, 0, none⟩ = some (.int .u64 (wd z 0 : Int)) ∧ W.cell? ⟨b7, 1, none⟩ = some (.int .u64 (wd z 1 : Int)) ∧ W.cell? ⟨b7, 2, none⟩ = some (.int .u64 (wd z 2 : Int)) ∧ W.cell? ⟨b7, 3, none⟩ = some (.int .u64 (wd z 3 : Int))) ∧ Off (fun k => k = (w.heap.size + 1)) W3 W) := Lib.hid (fun W h => ⟨cells4 (h.heap HF3.out (by omega)), cells4 (h.heap HY3.out l6), cells4 (h.heap HZ3.out l7), h⟩)
        clear hO n7 v7 HN2 HT2 HK1 HF1 HR1 HO1 HY1
        go_upto_region 5 with fail
        refine wp_region_inv (fun a0 l a' w' => ∃ (u22 : Value) (u23 : Value) (u24 : Value) (u25 : Value) (u26 : Value) (u27 : Value) (u28 : Value) (u29 : Value) (u5 : Value), a' = (Act.put (Act.put (Act.put (Act.put (Act.put (Act.put (Act.put (Act.put (Act.put a0 (some 22) u22) (some 23) u23) (some 24) u24) (some 25) u25) (some 26) u26) (some 27) u27) (some 28) u28) (some 29) u29) (some 5) u5) ∧ Slot l 0 u22 (V p) ∧ Slot l 1 u23 (V y) ∧ Slot l 2 u24 (V p) ∧ Slot l 3 u25 (V p) ∧ Slot l 4 u26 (V d) ∧ Slot l 5 u27 (V z) ∧ Slot l 6 u28 (V m) ∧ Slot l 7 u29 (V x) ∧ Slot l 9 u5 (.int .i64 0) ∧ Old l 8 (w.heap.size + 1) W3 w' (.cells #[.int .u64 0, .int .u64 0, .int .u64 0, .int .u64 0] 23) (.cells #[.int .u64 (wd x 0 : Int), .int .u64 (wd x 1 : Int), .int .u64 (wd x 2 : Int), .int .u64 (wd x 3 : Int)] 23) ∧ Off (fun k => k = (w.heap.size + 1)) W3 w') (by kernel_rfl) (by kernel_rfl) ?_ ⟨?_, ?_, ?_, ?_, ?_, ?_, ?_, ?_, ?_, ?_, trivial⟩ ?_
        · refine ⟨?z22, ?z23, ?z24, ?z25, ?z26, ?z27, ?z28, ?z29, ?z5, ?fr, Slot.start _ _ _, Slot.start _ _ _, Slot.start _ _ _, Slot.start _ _ _, Slot.start _ _ _, Slot.start _ _ _, Slot.start _ _ _, Slot.start _ _ _, Slot.start _ _ _, Old.start HR3.out _ _, (Off.refl _ W3).drew⟩
          case fr => first | (simp only [Act.put, List.setIfInBounds_toArray, List.set_cons_zero, List.set_cons_succ]; rfl) | simp only [Act.put, List.setIfInBounds_toArray, List.set_cons_zero, List.set_cons_succ]
        · intro l a wr hI hl hd K' hK
          obtain ⟨u22, u23, u24, u25, u26, u27, u28, u29, u5, ha, s0, s1, s2, s3, s4, s5, s6, s7, s9, O0, hO⟩ := hI
          simp only [Act.put, List.setIfInBounds_toArray, List.set_cons_zero, List.set_cons_succ] at ha
          subst ha
          have hc := HK3.out wr hO
          have p0 := hc.1.1
          have p1 := hc.1.2.1
          have p2 := hc.1.2.2.1
          have p3 := hc.1.2.2.2
          clear hc
          go_simp
          refine hK.out _ _ ⟨_, _, _, _, _, _, _, _, _, ?_, Slot.new _ _ _, s1.keep rfl, s2.keep rfl, s3.keep rfl, s4.keep rfl, s5.keep rfl, s6.keep rfl, s7.keep rfl, s9.keep rfl, O0.keep (Off.refl _ wr) rfl, hO⟩
          simp only [Act.put, List.setIfInBounds_toArray, List.set_cons_zero, List.set_cons_succ]
        · intro l a wr hI hl hd K' hK
          obtain ⟨u22, u23, u24, u25, u26, u27, u28, u29, u5, ha, s0, s1, s2, s3, s4, s5, s6, s7, s9, O0, hO⟩ := hI
          simp only [Act.put, List.setIfInBounds_toArray, List.set_cons_zero, List.set_cons_succ] at ha
          subst ha
          have hc := HK3.out wr hO
          have p0 := hc.2.1.1
          have p1 := hc.2.1.2.1
          have p2 := hc.2.1.2.2.1
          have p3 := hc.2.1.2.2.2
          clear hc
          go_simp
          refine hK.out _ _ ⟨_, _, _, _, _, _, _, _, _, ?_, s0.keep rfl, Slot.new _ _ _, s2.keep rfl, s3.keep rfl, s4.keep rfl, s5.keep rfl, s6.keep rfl, s7.keep rfl, s9.keep rfl, O0.keep (Off.refl _ wr) rfl, hO⟩
          simp only [Act.put, List.setIfInBounds_toArray, List.set_cons_zero, List.set_cons_succ]
        · intro l a wr hI hl hd K' hK
          obtain ⟨u22, u23, u24, u25, u26, u27, u28, u29, u5, ha, s0, s1, s2, s3, s4, s5, s6, s7, s9, O0, hO⟩ := hI
          simp only [Act.put, List.setIfInBounds_toArray, List.set_cons_zero, List.set_cons_succ] at ha
          subst ha
          have hc := HK3.out wr hO
          have p0 := hc.1.1
          have p1 := hc.1.2.1
          have p2 := hc.1.2.2.1
          have p3 := hc.1.2.2.2
          clear hc
          go_simp
          refine hK.out _ _ ⟨_, _, _, _, _, _, _, _, _, ?_, s0.keep rfl, s1.keep rfl, Slot.new _ _ _, s3.keep rfl, s4.keep rfl, s5.keep rfl, s6.keep rfl, s7.keep rfl, s9.keep rfl, O0.keep (Off.refl _ wr) rfl, hO⟩
          simp only [Act.put, List.setIfInBounds_toArray, List.set_cons_zero, List.set_cons_succ]
        · intro l a wr hI hl hd K' hK
          obtain ⟨u22, u23, u24, u25, u26, u27, u28, u29, u5, ha, s0, s1, s2, s3, s4, s5, s6, s7, s9, O0, hO⟩ := hI
          simp only [Act.put, List.setIfInBounds_toArray, List.set_cons_zero, List.set_cons_succ] at ha
          subst ha
          have hc := HK3.out wr hO
          have p0 := hc.1.1
          have p1 := hc.1.2.1
          have p2 := hc.1.2.2.1
          have p3 := hc.1.2.2.2
          clear hc
          go_simp
          refine hK.out _ _ ⟨_, _, _, _, _, _, _, _, _, ?_, s0.keep rfl, s1.keep rfl, s2.keep rfl, Slot.new _ _ _, s4.keep rfl, s5.keep rfl, s6.keep rfl, s7.keep rfl, s9.keep rfl, O0.keep (Off.refl _ wr) rfl, hO⟩
          simp only [Act.put, List.setIfInBounds_toArray, List.set_cons_zero, List.set_cons_succ]
        · intro l a wr hI hl hd K' hK
          obtain ⟨u22, u23, u24, u25, u26, u27, u28, u29, u5, ha, s0, s1, s2, s3, s4, s5, s6, s7, s9, O0, hO⟩ := hI
          simp only [Act.put, List.setIfInBounds_toArray, List.set_cons_zero, List.set_cons_succ] at ha
          have q3 := s3 (hd 3 (by decide))
          subst ha q3
          go_simp
          refine (held_inv (HX.out wr) hO).mono ?_
          rintro e w1 ⟨rfl, hO1, hOW⟩
          go_wp2_with fail
          refine hK.out _ _ ⟨_, _, _, _, _, _, _, _, _, ?_, s0.keep rfl, s1.keep rfl, s2.keep rfl, s3.keep rfl, Slot.new _ _ _, s5.keep rfl, s6.keep rfl, s7.keep rfl, s9.keep rfl, O0.keep hOW rfl, hO1⟩
          simp only [Act.put, List.setIfInBounds_toArray, List.set_cons_zero, List.set_cons_succ]
        · intro l a wr hI hl hd K' hK
          obtain ⟨u22, u23, u24, u25, u26, u27, u28, u29, u5, ha, s0, s1, s2, s3, s4, s5, s6, s7, s9, O0, hO⟩ := hI
          simp only [Act.put, List.setIfInBounds_toArray, List.set_cons_zero, List.set_cons_succ] at ha
          subst ha
          have hc := HK3.out wr hO
          have p0 := hc.2.2.1.1
          have p1 := hc.2.2.1.2.1
          have p2 := hc.2.2.1.2.2.1
          have p3 := hc.2.2.1.2.2.2
          clear hc
          go_simp
          refine hK.out _ _ ⟨_, _, _, _, _, _, _, _, _, ?_, s0.keep rfl, s1.keep rfl, s2.keep rfl, s3.keep rfl, s4.keep rfl, Slot.new _ _ _, s6.keep rfl, s7.keep rfl, s9.keep rfl, O0.keep (Off.refl _ wr) rfl, hO⟩
          simp only [Act.put, List.setIfInBounds_toArray, List.set_cons_zero, List.set_cons_succ]
        · intro l a wr hI hl hd K' hK
          obtain ⟨u22, u23, u24, u25, u26, u27, u28, u29, u5, ha, s0, s1, s2, s3, s4, s5, s6, s7, s9, O0, hO⟩ := hI
          simp only [Act.put, List.setIfInBounds_toArray, List.set_cons_zero, List.set_cons_succ] at ha
          have q2 := s2 (hd 2 (by decide))
          have q4 := s4 (hd 4 (by decide))
          have q5 := s5 (hd 5 (by decide))
          subst ha q2 q4 q5
          go_simp
          refine (held_inv (HM.out wr) hO).mono ?_
          rintro e w1 ⟨rfl, hO1, hOW⟩
          go_wp2_with fail
          refine hK.out _ _ ⟨_, _, _, _, _, _, _, _, _, ?_, s0.keep rfl, s1.keep rfl, s2.keep rfl, s3.keep rfl, s4.keep rfl, s5.keep rfl, Slot.new _ _ _, s7.keep rfl, s9.keep rfl, O0.keep hOW rfl, hO1⟩
          simp only [Act.put, List.setIfInBounds_toArray, List.set_cons_zero, List.set_cons_succ]
        · intro l a wr hI hl hd K' hK
          obtain ⟨u22, u23, u24, u25, u26, u27, u28, u29, u5, ha, s0, s1, s2, s3, s4, s5, s6, s7, s9, O0, hO⟩ := hI
          simp only [Act.put, List.setIfInBounds_toArray, List.set_cons_zero, List.set_cons_succ] at ha
          have q0 := s0 (hd 0 (by decide))
          have q1 := s1 (hd 1 (by decide))
          have q6 := s6 (hd 6 (by decide))
          subst ha q0 q1 q6
          go_simp
          refine (held_inv (HA.out wr) hO).mono ?_
          rintro e w1 ⟨rfl, hO1, hOW⟩
          go_wp2_with fail
          refine hK.out _ _ ⟨_, _, _, _, _, _, _, _, _, ?_, s0.keep rfl, s1.keep rfl, s2.keep rfl, s3.keep rfl, s4.keep rfl, s5.keep rfl, s6.keep rfl, Slot.new _ _ _, s9.keep rfl, O0.keep hOW rfl, hO1⟩
          simp only [Act.put, List.setIfInBounds_toArray, List.set_cons_zero, List.set_cons_succ]
        · intro l a wr hI hl hd K' hK
          obtain ⟨u22, u23, u24, u25, u26, u27, u28, u29, u5, ha, s0, s1, s2, s3, s4, s5, s6, s7, s9, O0, hO⟩ := hI
          simp only [Act.put, List.setIfInBounds_toArray, List.set_cons_zero, List.set_cons_succ] at ha
          have q7 := s7 (hd 7 (by decide))
          subst ha q7
          obtain ⟨⟨m0, m1, m2, m3⟩, fz, lt⟩ := zero_cells (O0.was hl)
          go_simp
          refine hK.out _ _ ⟨_, _, _, _, _, _, _, _, _, ?_, s0.keep rfl, s1.keep rfl, s2.keep rfl, s3.keep rfl, s4.keep rfl, s5.keep rfl, s6.keep rfl, s7.keep rfl, s9.keep rfl, O0.put hl rfl, setCells_in hO (fun _ => rfl) [.int .u64 (wd x 0 : Int), .int .u64 (wd x 1 : Int), .int .u64 (wd x 2 : Int), .int .u64 (wd x 3 : Int)]⟩
          simp only [Act.put, List.setIfInBounds_toArray, List.set_cons_zero, List.set_cons_succ]
        · intro l a wr hI hl hd K' hK
          obtain ⟨u22, u23, u24, u25, u26, u27, u28, u29, u5, ha, s0, s1, s2, s3, s4, s5, s6, s7, s9, O0, hO⟩ := hI
          simp only [Act.put, List.setIfInBounds_toArray, List.set_cons_zero, List.set_cons_succ] at ha
          subst ha
          go_simp
          refine hK.out _ _ ⟨_, _, _, _, _, _, _, _, _, ?_, s0.keep rfl, s1.keep rfl, s2.keep rfl, s3.keep rfl, s4.keep rfl, s5.keep rfl, s6.keep rfl, s7.keep rfl, Slot.new _ _ _, O0.keep (Off.refl _ wr) rfl, hO⟩
          simp only [Act.put, List.setIfInBounds_toArray, List.set_cons_zero, List.set_cons_succ]
        · intro l a wc hI hd
          obtain ⟨u22, u23, u24, u25, u26, u27, u28, u29, u5, ha, s0, s1, s2, s3, s4, s5, s6, s7, s9, O0, hO⟩ := hI
          simp only [Act.put, List.setIfInBounds_toArray, List.set_cons_zero, List.set_cons_succ] at ha
          have q0 := s0 (hd 0 (by decide))
          have q1 := s1 (hd 1 (by decide))
          have q2 := s2 (hd 2 (by decide))
          have q3 := s3 (hd 3 (by decide))
          have q4 := s4 (hd 4 (by decide))
          have q5 := s5 (hd 5 (by decide))
          have q6 := s6 (hd 6 (by decide))
          have q7 := s7 (hd 7 (by decide))
          have q9 := s9 (hd 9 (by decide))
          have r0 : wc.heap[(w.heap.size + 1)]? = some (.cells #[.int .u64 (wd x 0 : Int), .int .u64 (wd x 1 : Int), .int .u64 (wd x 2 : Int), .int .u64 (wd x 3 : Int)] 23) := O0.now (hd 8 (by decide))
          subst ha q0 q1 q2 q3 q4 q5 q6 q7 q9
          clear hd s0 s1 s2 s3 s4 s5 s6 s7 s9 O0
          have hOf : Off (fun _ => False) w wc := HO3.out.trans hO (fun k hk e => by omega)
          obtain ⟨p0, p1, p2, p3⟩ := cells4 r0
          have HOf := Lib.hid hOf
          clear hOf hO HK3 HR3 HF3 HY3 HZ3 HO3 r0
          go_wp2
          refine bodyPost_ret (v := .tuple #[V x, .int .i64 0]) (by simp [results, Tryd.results19, go_sem, p0, p1, p2, p3]) rfl ⟨rfl, HOf.out⟩
  · have hd : rwideV p bs = (0, 8) := by unfold rwideV; rw [if_neg (by omega)]
    have h2 : ¬ ((n : Int) = 64) := by omega
    rw [hd, show V (0, 8).1 = _ from lit_small 0 (by decide)]
    clear hb hn hs hp h1 hd
    go_enter Tryd.func19, Tryd.ntmps19
    go_wp2
    refine bodyPost_ret (v := .tuple #[.agg #[.int .u64 ((0 : Nat) : Int), .int .u64 0, .int .u64 0, .int .u64 0], .int .i64 8]) (by simp [results, Tryd.results19, go_sem]) rfl ⟨rfl, ?_⟩
    exact ((Off.refl _ w).alloc _).alloc _
end Go.Proofs.YtclknpkjnkgejaaDoor
