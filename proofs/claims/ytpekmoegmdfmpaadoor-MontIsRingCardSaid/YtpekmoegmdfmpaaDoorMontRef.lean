/-
  Contracts of the reference of layer 5 (Form) and of the reference's Sub of layer 4 over this seat's translation. Conditions: the arguments are numbers of four words; the modulus is above 1; the numbers lie below it where said.
-/
import Derived.Test.YtpekmoegmdfmpaaDoorMontPlain
import Derived.Test.YtpekmoegmdfmpaaDoorInvMem
import Derived.Test.YtpekmoegmdfmpaaDoorFieldGet
namespace Go.Proofs.YtpekmoegmdfmpaaDoor
open Go.RowKit

attribute [local go_sem ↓] Go.wp_at_zero Go.wp_at_succ
set_option maxRecDepth 100000 in
set_option maxHeartbeats 2000000 in
theorem form_any (p v : Nat) (hp : p < R256) (h1 : 1 < p) (hv : v < R256) (w : World) :
    Calls Tryd.prog 30 #[V p, V v] w fun e w' => e = .returned (V (fm p v)) ∧ Off (fun _ => False) w w' := by
  have hr : radV p 256 < p := Nat.mod_lt _ (by omega)
  have qR := fun W => mod_radix p hp h1 W
  have qM := fun W => mod_mul p (radV p 256) v hp h1 hr hv W
  obtain ⟨m, hm⟩ : ∃ m, m = fm p v := ⟨_, rfl⟩
  rw [show radV p 256 * v % p = fm p v from rfl, ← hm] at qM
  obtain ⟨r, hr2⟩ : ∃ r, r = radV p 256 := ⟨_, rfl⟩
  rw [← hr2] at qR qM
  rw [← hm]
  have FR := Lib.hid qR
  have FM := Lib.hid qM
  clear qR qM hm hr hr2 hp h1 hv
  obtain ⟨W0, hW0⟩ : ∃ W0, W0 = ((w.alloc (.cells #[.int .u64 (wd p 0 : Int), .int .u64 (wd p 1 : Int), .int .u64 (wd p 2 : Int), .int .u64 (wd p 3 : Int)] 23)).alloc (.cells #[.int .u64 (wd v 0 : Int), .int .u64 (wd v 1 : Int), .int .u64 (wd v 2 : Int), .int .u64 (wd v 3 : Int)] 23)).alloc (.cells #[.int .u64 0, .int .u64 0, .int .u64 0, .int .u64 0] 23) := ⟨_, rfl⟩
  have hP : NumAt W0 w.heap.size p := by rw [hW0]; exact heap_old' (heap_old' (heap_new' rfl _) _) _
  have hV : NumAt W0 (w.heap.size + 1) v := by rw [hW0]; exact heap_old' (heap_new' (by simp) _) _
  have HR := Lib.hid (show W0.heap[w.heap.size + 1 + 1]? = some (.cells #[.int .u64 0, .int .u64 0, .int .u64 0, .int .u64 0] 23) by rw [hW0]; exact heap_new' (by simp) _)
  have HO := Lib.hid (show Off (fun _ => False) w W0 by rw [hW0]; exact (((Off.refl _ w).alloc _).alloc _).alloc _)
  have HK : Hid (∀ W, Off (fun k => k = (w.heap.size + 1 + 1)) W0 W → (W.cell? ⟨w.heap.size, 0, none⟩ = some (.int .u64 (wd p 0 : Int)) ∧ W.cell? ⟨w.heap.size, 1, none⟩ = some (.int .u64 (wd p 1 : Int)) ∧ W.cell? ⟨w.heap.size, 2, none⟩ = some (.int .u64 (wd p 2 : Int)) ∧ W.cell? ⟨w.heap.size, 3, none⟩ = some (.int .u64 (wd p 3 : Int))) ∧ (W.cell? ⟨w.heap.size + 1, 0, none⟩ = some (.int .u64 (wd v 0 : Int)) ∧ W.cell? ⟨w.heap.size + 1, 1, none⟩ = some (.int .u64 (wd v 1 : Int)) ∧ W.cell? ⟨w.heap.size + 1, 2, none⟩ = some (.int .u64 (wd v 2 : Int)) ∧ W.cell? ⟨w.heap.size + 1, 3, none⟩ = some (.int .u64 (wd v 3 : Int))) ∧ Off (fun k => k = (w.heap.size + 1 + 1)) W0 W) := Lib.hid (fun W h => ⟨NumAt.four (w := W) (h.heap hP (show ¬ w.heap.size = w.heap.size + 1 + 1 by omega)), NumAt.four (w := W) (h.heap hV (show ¬ w.heap.size + 1 = w.heap.size + 1 + 1 by omega)), h⟩)
  have HW0 := Lib.hid hW0
  clear hP hV hW0
  go_enter Tryd.func30, Tryd.ntmps30
  go_upto_region 1 with fail
  rw [← HW0.out]
  refine wp_region_inv (fun a0 l a' w' => ∃ (u5 : Value) (u6 : Value) (u7 : Value) (u8 : Value) (u9 : Value), a' = (Act.put (Act.put (Act.put (Act.put (Act.put a0 (some 5) u5) (some 6) u6) (some 7) u7) (some 8) u8) (some 9) u9) ∧ Slot l 0 u5 (V p) ∧ Slot l 1 u6 (V p) ∧ Slot l 2 u7 (V r) ∧ Slot l 3 u8 (V v) ∧ Slot l 4 u9 (V m) ∧ Old l 5 (w.heap.size + 1 + 1) W0 w' (.cells #[.int .u64 0, .int .u64 0, .int .u64 0, .int .u64 0] 23) (.cells #[.int .u64 (wd m 0 : Int), .int .u64 (wd m 1 : Int), .int .u64 (wd m 2 : Int), .int .u64 (wd m 3 : Int)] 23) ∧ Off (fun k => k = (w.heap.size + 1 + 1)) W0 w') (by kernel_rfl) (by kernel_rfl) ?_ ⟨?_, ?_, ?_, ?_, ?_, ?_, trivial⟩ ?_
  · refine ⟨undef, undef, undef, undef, undef, ?_, Slot.start _ _ _, Slot.start _ _ _, Slot.start _ _ _, Slot.start _ _ _, Slot.start _ _ _, Old.start HR.out _ _, (Off.refl _ W0).drew⟩
    simp only [Act.put, List.setIfInBounds_toArray, List.set_cons_zero, List.set_cons_succ]
  · intro l a wr hI hl hd K' hK
    obtain ⟨u5, u6, u7, u8, u9, ha, s0, s1, s2, s3, s4, O0, hO⟩ := hI
    simp only [Act.put, List.setIfInBounds_toArray, List.set_cons_zero, List.set_cons_succ] at ha
    subst ha
    have hc := HK.out wr hO
    have p0 := hc.1.1
    have p1 := hc.1.2.1
    have p2 := hc.1.2.2.1
    have p3 := hc.1.2.2.2
    clear hc
    go_simp
    refine hK.out _ _ ⟨_, _, _, _, _, ?_, Slot.new _ _ _, s1.keep rfl, s2.keep rfl, s3.keep rfl, s4.keep rfl, O0.keep (Off.refl _ wr) rfl, hO⟩
    simp only [Act.put, List.setIfInBounds_toArray, List.set_cons_zero, List.set_cons_succ]
  · intro l a wr hI hl hd K' hK
    obtain ⟨u5, u6, u7, u8, u9, ha, s0, s1, s2, s3, s4, O0, hO⟩ := hI
    simp only [Act.put, List.setIfInBounds_toArray, List.set_cons_zero, List.set_cons_succ] at ha
    subst ha
    have hc := HK.out wr hO
    have p0 := hc.1.1
    have p1 := hc.1.2.1
    have p2 := hc.1.2.2.1
    have p3 := hc.1.2.2.2
    clear hc
    go_simp
    refine hK.out _ _ ⟨_, _, _, _, _, ?_, s0.keep rfl, Slot.new _ _ _, s2.keep rfl, s3.keep rfl, s4.keep rfl, O0.keep (Off.refl _ wr) rfl, hO⟩
    simp only [Act.put, List.setIfInBounds_toArray, List.set_cons_zero, List.set_cons_succ]
  · intro l a wr hI hl hd K' hK
    obtain ⟨u5, u6, u7, u8, u9, ha, s0, s1, s2, s3, s4, O0, hO⟩ := hI
    simp only [Act.put, List.setIfInBounds_toArray, List.set_cons_zero, List.set_cons_succ] at ha
    have q1 := s1 (hd 1 (by decide))
    subst ha q1
    go_simp
    refine (held_inv (FR.out wr) hO).mono ?_
    rintro e w1 ⟨rfl, hO1, hOW⟩
    go_wp2_with fail
    refine hK.out _ _ ⟨_, _, _, _, _, ?_, s0.keep rfl, s1.keep rfl, Slot.new _ _ _, s3.keep rfl, s4.keep rfl, O0.keep hOW rfl, hO1⟩
    simp only [Act.put, List.setIfInBounds_toArray, List.set_cons_zero, List.set_cons_succ]
  · intro l a wr hI hl hd K' hK
    obtain ⟨u5, u6, u7, u8, u9, ha, s0, s1, s2, s3, s4, O0, hO⟩ := hI
    simp only [Act.put, List.setIfInBounds_toArray, List.set_cons_zero, List.set_cons_succ] at ha
    subst ha
    have hc := HK.out wr hO
    have p0 := hc.2.1.1
    have p1 := hc.2.1.2.1
    have p2 := hc.2.1.2.2.1
    have p3 := hc.2.1.2.2.2
    clear hc
    go_simp
    refine hK.out _ _ ⟨_, _, _, _, _, ?_, s0.keep rfl, s1.keep rfl, s2.keep rfl, Slot.new _ _ _, s4.keep rfl, O0.keep (Off.refl _ wr) rfl, hO⟩
    simp only [Act.put, List.setIfInBounds_toArray, List.set_cons_zero, List.set_cons_succ]
  · intro l a wr hI hl hd K' hK
    obtain ⟨u5, u6, u7, u8, u9, ha, s0, s1, s2, s3, s4, O0, hO⟩ := hI
    simp only [Act.put, List.setIfInBounds_toArray, List.set_cons_zero, List.set_cons_succ] at ha
    have q0 := s0 (hd 0 (by decide))
    have q2 := s2 (hd 2 (by decide))
    have q3 := s3 (hd 3 (by decide))
    subst ha q0 q2 q3
    go_simp
    refine (held_inv (FM.out wr) hO).mono ?_
    rintro e w1 ⟨rfl, hO1, hOW⟩
    go_wp2_with fail
    refine hK.out _ _ ⟨_, _, _, _, _, ?_, s0.keep rfl, s1.keep rfl, s2.keep rfl, s3.keep rfl, Slot.new _ _ _, O0.keep hOW rfl, hO1⟩
    simp only [Act.put, List.setIfInBounds_toArray, List.set_cons_zero, List.set_cons_succ]
  · intro l a wr hI hl hd K' hK
    obtain ⟨u5, u6, u7, u8, u9, ha, s0, s1, s2, s3, s4, O0, hO⟩ := hI
    simp only [Act.put, List.setIfInBounds_toArray, List.set_cons_zero, List.set_cons_succ] at ha
    have q4 := s4 (hd 4 (by decide))
    subst ha q4
    obtain ⟨⟨m0, m1, m2, m3⟩, fz, lt⟩ := zero_cells (O0.was hl)
    go_simp
    refine hK.out _ _ ⟨_, _, _, _, _, ?_, s0.keep rfl, s1.keep rfl, s2.keep rfl, s3.keep rfl, s4.keep rfl, O0.put hl rfl, setCells_in hO (fun _ => rfl) [.int .u64 (wd m 0 : Int), .int .u64 (wd m 1 : Int), .int .u64 (wd m 2 : Int), .int .u64 (wd m 3 : Int)]⟩
    simp only [Act.put, List.setIfInBounds_toArray, List.set_cons_zero, List.set_cons_succ]
  · intro l a wc hI hd
    obtain ⟨u5, u6, u7, u8, u9, ha, s0, s1, s2, s3, s4, O0, hO⟩ := hI
    simp only [Act.put, List.setIfInBounds_toArray, List.set_cons_zero, List.set_cons_succ] at ha
    have q0 := s0 (hd 0 (by decide))
    have q1 := s1 (hd 1 (by decide))
    have q2 := s2 (hd 2 (by decide))
    have q3 := s3 (hd 3 (by decide))
    have q4 := s4 (hd 4 (by decide))
    have r0 : wc.heap[(w.heap.size + 1 + 1)]? = some (.cells #[.int .u64 (wd m 0 : Int), .int .u64 (wd m 1 : Int), .int .u64 (wd m 2 : Int), .int .u64 (wd m 3 : Int)] 23) := O0.now (hd 5 (by decide))
    subst ha q0 q1 q2 q3 q4
    clear hd s0 s1 s2 s3 s4 O0
    have hm := NumAt.four (show NumAt wc (w.heap.size + 1 + 1) m from r0)
    obtain ⟨m0, m1, m2, m3⟩ := hm
    have HOc := Lib.hid hO
    clear r0 hO
    go_wp2
    refine bodyPost_ret (v := V m) (by simp [results, Tryd.results30, go_sem, m0, m1, m2, m3]) rfl ⟨rfl, ?_⟩
    exact HO.out.trans HOc.out (fun k hk e => by omega)
/-- A field's constants. -/
structure Fld (id : Int) (p i r s : Nat) : Prop where
  mp : Mp p
  mod : modN id = p
  ii : i = negInv (wd p 0)
  inv : (i * wd p 0 + 1) % 18446744073709551616 = 0
  rr : r = radV p 256
  ss : s = radV p 256 * radV p 256 % p
theorem fld1 : Fld 1 P1 (negInv (wd P1 0)) (radV P1 256) (radV P1 256 * radV P1 256 % P1) := ⟨mp1, rfl, rfl, by decide +kernel, rfl, rfl⟩
theorem fld2 : Fld 2 P2 (negInv (wd P2 0)) (radV P2 256) (radV P2 256 * radV P2 256 % P2) := ⟨mp2, rfl, rfl, by decide +kernel, rfl, rfl⟩
/-- The number of a field. -/
def idB (t : Bool) : Int := if t then 2 else 1
theorem fld_of (t : Bool) : ∃ id p i r s, Fld id p i r s ∧ id = idB t := by
  cases t
  · exact ⟨1, _, _, _, _, fld1, rfl⟩
  · exact ⟨2, _, _, _, _, fld2, rfl⟩
set_option maxHeartbeats 1000000 in
theorem id_any (t : Bool) (w : World) : Calls Tryd.prog 28 #[.bool t] w fun e w' => e = .returned (.int .i64 (idB t)) ∧ Off (fun _ => False) w w' := by
  cases t
  · go_enter Tryd.func28, Tryd.ntmps28
    go_wp2
    go_ret
    exact ⟨rfl, Off.refl _ _⟩
  · go_enter Tryd.func28, Tryd.ntmps28
    go_wp2
    go_ret
    exact ⟨rfl, Off.refl _ _⟩
set_option maxHeartbeats 1000000 in
theorem lform_any (p v : Nat) (hp : p < R256) (h1 : 1 < p) (hv : v < R256) (w : World) :
    Calls Tryd.prog 10 #[V p, V v] w fun e w' => e = .returned (V (fm p v)) ∧ Off (fun _ => False) w w' := by
  have FF := Lib.hid (fun W => form_any p v hp h1 hv W)
  obtain ⟨m, hm⟩ : ∃ m, m = fm p v := ⟨_, rfl⟩
  rw [← hm] at FF ⊢
  clear hp h1 hv hm
  go_enter Tryd.func10, Tryd.ntmps10
  go_wp2_with fail
  refine (FF.out _).mono ?_
  rintro e u ⟨rfl, hO⟩
  have hR : u.heap[w.heap.size + 1 + 1]? = some (.cells #[.int .u64 0, .int .u64 0, .int .u64 0, .int .u64 0] 24) := hO.heap (heap_new' (by simp) _) (fun c => c)
  obtain ⟨⟨r0, r1, r2, r3⟩, fz, lt⟩ := zero_cells hR
  have HO := Lib.hid ((((Off.refl _ w).alloc _).alloc _).alloc _ |>.trans hO (fun _ _ c => c))
  clear hR hO
  go_wp2
  refine bodyPost_ret (v := V m) (by simp [results, Tryd.results10, go_sem, r0, r1, r2, r3]) rfl ⟨rfl, ?_⟩
  exact off4 HO.out (by omega) _ _ _ _
set_option maxRecDepth 100000 in
set_option maxHeartbeats 4000000 in
theorem pair_any (t : Bool) {id : Int} {p i r s : Nat} (hF : Fld id p i r s) (hid : id = idB t) (a b : Nat) (ha : a < R256) (hb : b < R256) (w : World) (hT : TabAt w) :
    Calls Tryd.prog 9 #[.bool t, V a, V b] w fun e w' => e = .returned (.tuple #[FV id p i r s, V p, V (a % p), V (b % p)]) ∧ Off (fun _ => False) w w' := by
  have qI := fun W => id_any t W
  rw [← hid] at qI
  have qG := fun W hT => fget_in id p hF.mp.lt hF.mp.one hF.mod W hT
  rw [← hF.ss, ← hF.ii, ← hF.rr] at qG
  have qM := fun W => mod_modulus id W
  rw [hF.mod] at qM
  have qA := fun W => mod_mod p a hF.mp.lt hF.mp.one ha W
  have qB := fun W => mod_mod p b hF.mp.lt hF.mp.one hb W
  obtain ⟨x, hx⟩ : ∃ x, x = a % p := ⟨_, rfl⟩
  obtain ⟨y, hy⟩ : ∃ y, y = b % p := ⟨_, rfl⟩
  rw [← hx] at qA ⊢
  rw [← hy] at qB ⊢
  have FI := Lib.hid qI
  have FG := Lib.hid qG
  have FM := Lib.hid qM
  have FA := Lib.hid qA
  have FB := Lib.hid qB
  have HT := Lib.hid hT
  clear qI qG qM qA qB hx hy hF hid ha hb hT
  go_enter Tryd.func9, Tryd.ntmps9
  go_wp2_with fail
  refine (FI.out _).mono ?_
  rintro e u0 ⟨rfl, hO0⟩
  have hA0 : Off (fun _ => False) w u0 := ((((((Off.refl _ w).alloc _).alloc _).alloc _).alloc _).alloc _).alloc _ |>.trans hO0 (fun _ _ c => c)
  have HA := Lib.hid (show NumAt u0 w.heap.size a from hO0.heap (heap_old' (heap_old' (heap_old' (heap_old' (heap_old' (heap_new' rfl _) _) _) _) _) _) (fun c => c))
  have HB := Lib.hid (show NumAt u0 (w.heap.size + 1) b from hO0.heap (heap_old' (heap_old' (heap_old' (heap_old' (heap_new' (by simp) _) _) _) _) _) (fun c => c))
  have H0 := Lib.hid (show u0.heap[w.heap.size + 1 + 1]? = some (.cells #[.int .i64 0, .int .u64 0, .int .u64 0, .int .u64 0, .int .u64 0, .int .u64 0, .int .u64 0, .int .u64 0, .int .u64 0, .int .u64 0, .int .u64 0, .int .u64 0, .int .u64 0, .int .u64 0] 26) from hO0.heap (heap_old' (heap_old' (heap_old' (heap_new' (by simp) _) _) _) _) (fun c => c))
  have H1 := Lib.hid (show u0.heap[w.heap.size + 1 + 1 + 1]? = some (.cells #[.int .u64 0, .int .u64 0, .int .u64 0, .int .u64 0] 23) from hO0.heap (heap_old' (heap_old' (heap_new' (by simp) _) _) _) (fun c => c))
  have H2 := Lib.hid (show u0.heap[w.heap.size + 1 + 1 + 1 + 1]? = some (.cells #[.int .u64 0, .int .u64 0, .int .u64 0, .int .u64 0] 23) from hO0.heap (heap_old' (heap_new' (by simp) _) _) (fun c => c))
  have H3 := Lib.hid (show u0.heap[w.heap.size + 1 + 1 + 1 + 1 + 1]? = some (.cells #[.int .u64 0, .int .u64 0, .int .u64 0, .int .u64 0] 23) from hO0.heap (heap_new' (by simp) _) (fun c => c))
  have l0 := heap_lt H3.out
  obtain ⟨e0, hr0⟩ : ∃ e0, e0 = w.heap.size + 1 + 1 := ⟨_, rfl⟩
  obtain ⟨e1, hr1⟩ : ∃ e1, e1 = w.heap.size + 1 + 1 + 1 := ⟨_, rfl⟩
  obtain ⟨e2, hr2⟩ : ∃ e2, e2 = w.heap.size + 1 + 1 + 1 + 1 := ⟨_, rfl⟩
  obtain ⟨e3, hr3⟩ : ∃ e3, e3 = w.heap.size + 1 + 1 + 1 + 1 + 1 := ⟨_, rfl⟩
  rw [← hr3] at H3
  rw [← hr2] at H2
  rw [← hr1] at H1
  rw [← hr0] at H0
  have HR := Lib.hid (And.intro hr0 (And.intro hr1 (And.intro hr2 hr3)))
  have HT0 := Lib.hid (HT.out.off hA0)
  have HO0 := Lib.hid hA0
  clear hA0 hO0 hr0 hr1 hr2 hr3 HT
  go_wp2_with fail
  refine (FG.out _ HT0.out).mono ?_
  rintro e u1 ⟨rfl, hO1⟩
  have HO1 := Lib.hid hO1
  clear hO1 HT0
  go_wp2_with fail
  refine (FI.out _).mono ?_
  rintro e u2 ⟨rfl, hO2⟩
  have HF := Lib.hid (show u2.heap[u1.heap.size]? = some (.cells #[.int .i64 id, .int .u64 (wd p 0 : Int), .int .u64 (wd p 1 : Int), .int .u64 (wd p 2 : Int), .int .u64 (wd p 3 : Int), .int .u64 (i : Int), .int .u64 (wd r 0 : Int), .int .u64 (wd r 1 : Int), .int .u64 (wd r 2 : Int), .int .u64 (wd r 3 : Int), .int .u64 (wd s 0 : Int), .int .u64 (wd s 1 : Int), .int .u64 (wd s 2 : Int), .int .u64 (wd s 3 : Int)] 26) from hO2.heap (heap_new' rfl _) (fun c => c))
  have HO2 := Lib.hid (((Off.refl _ u1).alloc _).trans hO2 (fun _ _ c => c))
  clear hO2
  go_wp2_with fail
  refine (FM.out _).mono ?_
  rintro e u3 ⟨rfl, hO3⟩
  obtain ⟨W0, hW0⟩ : ∃ W0, W0 = u3.alloc (.cells #[.int .u64 (wd p 0 : Int), .int .u64 (wd p 1 : Int), .int .u64 (wd p 2 : Int), .int .u64 (wd p 3 : Int)] 23) := ⟨_, rfl⟩
  have h34 : Off (fun _ => False) u3 W0 := by rw [hW0]; exact (Off.refl _ u3).alloc _
  have h24 : Off (fun _ => False) u2 W0 := hO3.trans h34 (fun _ _ c => c)
  have h04 : Off (fun _ => False) u0 W0 := (HO1.out.trans HO2.out (fun _ _ c => c)).trans h24 (fun _ _ c => c)
  have hP : NumAt W0 u3.heap.size p := by rw [hW0]; exact heap_new' rfl _
  have hF : W0.heap[u1.heap.size]? = some (.cells #[.int .i64 id, .int .u64 (wd p 0 : Int), .int .u64 (wd p 1 : Int), .int .u64 (wd p 2 : Int), .int .u64 (wd p 3 : Int), .int .u64 (i : Int), .int .u64 (wd r 0 : Int), .int .u64 (wd r 1 : Int), .int .u64 (wd r 2 : Int), .int .u64 (wd r 3 : Int), .int .u64 (wd s 0 : Int), .int .u64 (wd s 1 : Int), .int .u64 (wd s 2 : Int), .int .u64 (wd s 3 : Int)] 26) := h24.heap HF.out (fun c => c)
  have hA : NumAt W0 w.heap.size a := h04.heap HA.out (fun c => c)
  have hB : NumAt W0 (w.heap.size + 1) b := h04.heap HB.out (fun c => c)
  have H0 := Lib.hid (h04.heap H0.out (fun c => c))
  have H1 := Lib.hid (h04.heap H1.out (fun c => c))
  have H2 := Lib.hid (h04.heap H2.out (fun c => c))
  have H3 := Lib.hid (h04.heap H3.out (fun c => c))
  have l3 : u0.heap.size ≤ u1.heap.size := HO1.out.size
  have l4 : u1.heap.size < u3.heap.size := Nat.lt_of_lt_of_le (heap_lt HF.out) hO3.size
  have hr := HR.out
  have n01 : e0 ≠ e1 := by omega
  have n02 : e0 ≠ e2 := by omega
  have n03 : e0 ≠ e3 := by omega
  have n12 : e1 ≠ e2 := by omega
  have n13 : e1 ≠ e3 := by omega
  have n23 : e2 ≠ e3 := by omega
  have HK : Hid (∀ W, Off (fun k => k = e0 ∨ k = e1 ∨ k = e2 ∨ k = e3) W0 W → (W.cell? ⟨u1.heap.size, 0, none⟩ = some (.int .i64 id) ∧ W.cell? ⟨u1.heap.size, 1, none⟩ = some (.int .u64 (wd p 0 : Int)) ∧ W.cell? ⟨u1.heap.size, 2, none⟩ = some (.int .u64 (wd p 1 : Int)) ∧ W.cell? ⟨u1.heap.size, 3, none⟩ = some (.int .u64 (wd p 2 : Int)) ∧ W.cell? ⟨u1.heap.size, 4, none⟩ = some (.int .u64 (wd p 3 : Int)) ∧ W.cell? ⟨u1.heap.size, 5, none⟩ = some (.int .u64 (i : Int)) ∧ W.cell? ⟨u1.heap.size, 6, none⟩ = some (.int .u64 (wd r 0 : Int)) ∧ W.cell? ⟨u1.heap.size, 7, none⟩ = some (.int .u64 (wd r 1 : Int)) ∧ W.cell? ⟨u1.heap.size, 8, none⟩ = some (.int .u64 (wd r 2 : Int)) ∧ W.cell? ⟨u1.heap.size, 9, none⟩ = some (.int .u64 (wd r 3 : Int)) ∧ W.cell? ⟨u1.heap.size, 10, none⟩ = some (.int .u64 (wd s 0 : Int)) ∧ W.cell? ⟨u1.heap.size, 11, none⟩ = some (.int .u64 (wd s 1 : Int)) ∧ W.cell? ⟨u1.heap.size, 12, none⟩ = some (.int .u64 (wd s 2 : Int)) ∧ W.cell? ⟨u1.heap.size, 13, none⟩ = some (.int .u64 (wd s 3 : Int))) ∧ (W.cell? ⟨u3.heap.size, 0, none⟩ = some (.int .u64 (wd p 0 : Int)) ∧ W.cell? ⟨u3.heap.size, 1, none⟩ = some (.int .u64 (wd p 1 : Int)) ∧ W.cell? ⟨u3.heap.size, 2, none⟩ = some (.int .u64 (wd p 2 : Int)) ∧ W.cell? ⟨u3.heap.size, 3, none⟩ = some (.int .u64 (wd p 3 : Int))) ∧ (W.cell? ⟨w.heap.size, 0, none⟩ = some (.int .u64 (wd a 0 : Int)) ∧ W.cell? ⟨w.heap.size, 1, none⟩ = some (.int .u64 (wd a 1 : Int)) ∧ W.cell? ⟨w.heap.size, 2, none⟩ = some (.int .u64 (wd a 2 : Int)) ∧ W.cell? ⟨w.heap.size, 3, none⟩ = some (.int .u64 (wd a 3 : Int))) ∧ (W.cell? ⟨w.heap.size + 1, 0, none⟩ = some (.int .u64 (wd b 0 : Int)) ∧ W.cell? ⟨w.heap.size + 1, 1, none⟩ = some (.int .u64 (wd b 1 : Int)) ∧ W.cell? ⟨w.heap.size + 1, 2, none⟩ = some (.int .u64 (wd b 2 : Int)) ∧ W.cell? ⟨w.heap.size + 1, 3, none⟩ = some (.int .u64 (wd b 3 : Int))) ∧ Off (fun k => k = e0 ∨ k = e1 ∨ k = e2 ∨ k = e3) W0 W) := Lib.hid (fun W h => ⟨fv_cells (h.heap hF (show ¬ (u1.heap.size = e0 ∨ u1.heap.size = e1 ∨ u1.heap.size = e2 ∨ u1.heap.size = e3) by omega)), NumAt.four (w := W) (h.heap hP (show ¬ (u3.heap.size = e0 ∨ u3.heap.size = e1 ∨ u3.heap.size = e2 ∨ u3.heap.size = e3) by omega)), NumAt.four (w := W) (h.heap hA (show ¬ (w.heap.size = e0 ∨ w.heap.size = e1 ∨ w.heap.size = e2 ∨ w.heap.size = e3) by omega)), NumAt.four (w := W) (h.heap hB (show ¬ (w.heap.size + 1 = e0 ∨ w.heap.size + 1 = e1 ∨ w.heap.size + 1 = e2 ∨ w.heap.size + 1 = e3) by omega)), h⟩)
  have HOw := Lib.hid (HO0.out.trans h04 (fun _ _ c => c))
  have HW0 := Lib.hid hW0
  clear hr hO3 h34 h24 h04 hP hF hA hB HF HA HB hW0 HO0 HO1 HO2 FI FG FM
  go_upto_region 3 with fail
  rw [← HW0.out]
  rw [← HR.out.2.2.2, ← HR.out.2.2.1, ← HR.out.2.1, ← HR.out.1]
  refine wp_region_inv (fun a0 l a' w' => ∃ (u22 : Value) (u23 : Value) (u24 : Value) (u25 : Value) (u26 : Value) (u27 : Value) (u28 : Value) (u29 : Value), a' = (Act.put (Act.put (Act.put (Act.put (Act.put (Act.put (Act.put (Act.put a0 (some 22) u22) (some 23) u23) (some 24) u24) (some 25) u25) (some 26) u26) (some 27) u27) (some 28) u28) (some 29) u29) ∧ Slot l 0 u22 (FV id p i r s) ∧ Slot l 1 u23 (V p) ∧ Slot l 2 u24 (V p) ∧ Slot l 3 u25 (V a) ∧ Slot l 4 u26 (V x) ∧ Slot l 5 u27 (V p) ∧ Slot l 6 u28 (V b) ∧ Slot l 7 u29 (V y) ∧ Old l 8 e0 W0 w' (.cells #[.int .i64 0, .int .u64 0, .int .u64 0, .int .u64 0, .int .u64 0, .int .u64 0, .int .u64 0, .int .u64 0, .int .u64 0, .int .u64 0, .int .u64 0, .int .u64 0, .int .u64 0, .int .u64 0] 26) (.cells #[.int .i64 id, .int .u64 (wd p 0 : Int), .int .u64 (wd p 1 : Int), .int .u64 (wd p 2 : Int), .int .u64 (wd p 3 : Int), .int .u64 (i : Int), .int .u64 (wd r 0 : Int), .int .u64 (wd r 1 : Int), .int .u64 (wd r 2 : Int), .int .u64 (wd r 3 : Int), .int .u64 (wd s 0 : Int), .int .u64 (wd s 1 : Int), .int .u64 (wd s 2 : Int), .int .u64 (wd s 3 : Int)] 26) ∧ Old l 9 e1 W0 w' (.cells #[.int .u64 0, .int .u64 0, .int .u64 0, .int .u64 0] 23) (.cells #[.int .u64 (wd p 0 : Int), .int .u64 (wd p 1 : Int), .int .u64 (wd p 2 : Int), .int .u64 (wd p 3 : Int)] 23) ∧ Old l 10 e2 W0 w' (.cells #[.int .u64 0, .int .u64 0, .int .u64 0, .int .u64 0] 23) (.cells #[.int .u64 (wd x 0 : Int), .int .u64 (wd x 1 : Int), .int .u64 (wd x 2 : Int), .int .u64 (wd x 3 : Int)] 23) ∧ Old l 11 e3 W0 w' (.cells #[.int .u64 0, .int .u64 0, .int .u64 0, .int .u64 0] 23) (.cells #[.int .u64 (wd y 0 : Int), .int .u64 (wd y 1 : Int), .int .u64 (wd y 2 : Int), .int .u64 (wd y 3 : Int)] 23) ∧ Off (fun k => k = e0 ∨ k = e1 ∨ k = e2 ∨ k = e3) W0 w') (by kernel_rfl) (by kernel_rfl) ?_ ⟨?_, ?_, ?_, ?_, ?_, ?_, ?_, ?_, ?_, ?_, ?_, ?_, trivial⟩ ?_
  · refine ⟨undef, undef, undef, undef, undef, undef, undef, undef, ?_, Slot.start _ _ _, Slot.start _ _ _, Slot.start _ _ _, Slot.start _ _ _, Slot.start _ _ _, Slot.start _ _ _, Slot.start _ _ _, Slot.start _ _ _, Old.start H0.out _ _, Old.start H1.out _ _, Old.start H2.out _ _, Old.start H3.out _ _, (Off.refl _ W0).drew⟩
    simp only [Act.put, List.setIfInBounds_toArray, List.set_cons_zero, List.set_cons_succ]
  · intro l a wr hI hl hd K' hK
    obtain ⟨u22, u23, u24, u25, u26, u27, u28, u29, ha, s0, s1, s2, s3, s4, s5, s6, s7, O0, O1, O2, O3, hO⟩ := hI
    simp only [Act.put, List.setIfInBounds_toArray, List.set_cons_zero, List.set_cons_succ] at ha
    subst ha
    have hc := HK.out wr hO
    have p0 := hc.1.1
    have p1 := hc.1.2.1
    have p2 := hc.1.2.2.1
    have p3 := hc.1.2.2.2.1
    have p4 := hc.1.2.2.2.2.1
    have p5 := hc.1.2.2.2.2.2.1
    have p6 := hc.1.2.2.2.2.2.2.1
    have p7 := hc.1.2.2.2.2.2.2.2.1
    have p8 := hc.1.2.2.2.2.2.2.2.2.1
    have p9 := hc.1.2.2.2.2.2.2.2.2.2.1
    have p10 := hc.1.2.2.2.2.2.2.2.2.2.2.1
    have p11 := hc.1.2.2.2.2.2.2.2.2.2.2.2.1
    have p12 := hc.1.2.2.2.2.2.2.2.2.2.2.2.2.1
    have p13 := hc.1.2.2.2.2.2.2.2.2.2.2.2.2.2
    clear hc
    go_simp
    refine hK.out _ _ ⟨_, _, _, _, _, _, _, _, ?_, Slot.new _ _ _, s1.keep rfl, s2.keep rfl, s3.keep rfl, s4.keep rfl, s5.keep rfl, s6.keep rfl, s7.keep rfl, O0.keep (Off.refl _ wr) rfl, O1.keep (Off.refl _ wr) rfl, O2.keep (Off.refl _ wr) rfl, O3.keep (Off.refl _ wr) rfl, hO⟩
    simp only [Act.put, List.setIfInBounds_toArray, List.set_cons_zero, List.set_cons_succ]
  · intro l a wr hI hl hd K' hK
    obtain ⟨u22, u23, u24, u25, u26, u27, u28, u29, ha, s0, s1, s2, s3, s4, s5, s6, s7, O0, O1, O2, O3, hO⟩ := hI
    simp only [Act.put, List.setIfInBounds_toArray, List.set_cons_zero, List.set_cons_succ] at ha
    subst ha
    have hc := HK.out wr hO
    have p0 := hc.2.1.1
    have p1 := hc.2.1.2.1
    have p2 := hc.2.1.2.2.1
    have p3 := hc.2.1.2.2.2
    clear hc
    go_simp
    refine hK.out _ _ ⟨_, _, _, _, _, _, _, _, ?_, s0.keep rfl, Slot.new _ _ _, s2.keep rfl, s3.keep rfl, s4.keep rfl, s5.keep rfl, s6.keep rfl, s7.keep rfl, O0.keep (Off.refl _ wr) rfl, O1.keep (Off.refl _ wr) rfl, O2.keep (Off.refl _ wr) rfl, O3.keep (Off.refl _ wr) rfl, hO⟩
    simp only [Act.put, List.setIfInBounds_toArray, List.set_cons_zero, List.set_cons_succ]
  · intro l a wr hI hl hd K' hK
    obtain ⟨u22, u23, u24, u25, u26, u27, u28, u29, ha, s0, s1, s2, s3, s4, s5, s6, s7, O0, O1, O2, O3, hO⟩ := hI
    simp only [Act.put, List.setIfInBounds_toArray, List.set_cons_zero, List.set_cons_succ] at ha
    subst ha
    have hc := HK.out wr hO
    have p0 := hc.2.1.1
    have p1 := hc.2.1.2.1
    have p2 := hc.2.1.2.2.1
    have p3 := hc.2.1.2.2.2
    clear hc
    go_simp
    refine hK.out _ _ ⟨_, _, _, _, _, _, _, _, ?_, s0.keep rfl, s1.keep rfl, Slot.new _ _ _, s3.keep rfl, s4.keep rfl, s5.keep rfl, s6.keep rfl, s7.keep rfl, O0.keep (Off.refl _ wr) rfl, O1.keep (Off.refl _ wr) rfl, O2.keep (Off.refl _ wr) rfl, O3.keep (Off.refl _ wr) rfl, hO⟩
    simp only [Act.put, List.setIfInBounds_toArray, List.set_cons_zero, List.set_cons_succ]
  · intro l a wr hI hl hd K' hK
    obtain ⟨u22, u23, u24, u25, u26, u27, u28, u29, ha, s0, s1, s2, s3, s4, s5, s6, s7, O0, O1, O2, O3, hO⟩ := hI
    simp only [Act.put, List.setIfInBounds_toArray, List.set_cons_zero, List.set_cons_succ] at ha
    subst ha
    have hc := HK.out wr hO
    have p0 := hc.2.2.1.1
    have p1 := hc.2.2.1.2.1
    have p2 := hc.2.2.1.2.2.1
    have p3 := hc.2.2.1.2.2.2
    clear hc
    go_simp
    refine hK.out _ _ ⟨_, _, _, _, _, _, _, _, ?_, s0.keep rfl, s1.keep rfl, s2.keep rfl, Slot.new _ _ _, s4.keep rfl, s5.keep rfl, s6.keep rfl, s7.keep rfl, O0.keep (Off.refl _ wr) rfl, O1.keep (Off.refl _ wr) rfl, O2.keep (Off.refl _ wr) rfl, O3.keep (Off.refl _ wr) rfl, hO⟩
    simp only [Act.put, List.setIfInBounds_toArray, List.set_cons_zero, List.set_cons_succ]
  · intro l a wr hI hl hd K' hK
    obtain ⟨u22, u23, u24, u25, u26, u27, u28, u29, ha, s0, s1, s2, s3, s4, s5, s6, s7, O0, O1, O2, O3, hO⟩ := hI
    simp only [Act.put, List.setIfInBounds_toArray, List.set_cons_zero, List.set_cons_succ] at ha
    have q2 := s2 (hd 2 (by decide))
    have q3 := s3 (hd 3 (by decide))
    subst ha q2 q3
    go_simp
    refine (held_inv (FA.out wr) hO).mono ?_
    rintro e w1 ⟨rfl, hO1, hOW⟩
    go_wp2_with fail
    refine hK.out _ _ ⟨_, _, _, _, _, _, _, _, ?_, s0.keep rfl, s1.keep rfl, s2.keep rfl, s3.keep rfl, Slot.new _ _ _, s5.keep rfl, s6.keep rfl, s7.keep rfl, O0.keep hOW rfl, O1.keep hOW rfl, O2.keep hOW rfl, O3.keep hOW rfl, hO1⟩
    simp only [Act.put, List.setIfInBounds_toArray, List.set_cons_zero, List.set_cons_succ]
  · intro l a wr hI hl hd K' hK
    obtain ⟨u22, u23, u24, u25, u26, u27, u28, u29, ha, s0, s1, s2, s3, s4, s5, s6, s7, O0, O1, O2, O3, hO⟩ := hI
    simp only [Act.put, List.setIfInBounds_toArray, List.set_cons_zero, List.set_cons_succ] at ha
    subst ha
    have hc := HK.out wr hO
    have p0 := hc.2.1.1
    have p1 := hc.2.1.2.1
    have p2 := hc.2.1.2.2.1
    have p3 := hc.2.1.2.2.2
    clear hc
    go_simp
    refine hK.out _ _ ⟨_, _, _, _, _, _, _, _, ?_, s0.keep rfl, s1.keep rfl, s2.keep rfl, s3.keep rfl, s4.keep rfl, Slot.new _ _ _, s6.keep rfl, s7.keep rfl, O0.keep (Off.refl _ wr) rfl, O1.keep (Off.refl _ wr) rfl, O2.keep (Off.refl _ wr) rfl, O3.keep (Off.refl _ wr) rfl, hO⟩
    simp only [Act.put, List.setIfInBounds_toArray, List.set_cons_zero, List.set_cons_succ]
  · intro l a wr hI hl hd K' hK
    obtain ⟨u22, u23, u24, u25, u26, u27, u28, u29, ha, s0, s1, s2, s3, s4, s5, s6, s7, O0, O1, O2, O3, hO⟩ := hI
    simp only [Act.put, List.setIfInBounds_toArray, List.set_cons_zero, List.set_cons_succ] at ha
    subst ha
    have hc := HK.out wr hO
    have p0 := hc.2.2.2.1.1
    have p1 := hc.2.2.2.1.2.1
    have p2 := hc.2.2.2.1.2.2.1
    have p3 := hc.2.2.2.1.2.2.2
    clear hc
    go_simp
    refine hK.out _ _ ⟨_, _, _, _, _, _, _, _, ?_, s0.keep rfl, s1.keep rfl, s2.keep rfl, s3.keep rfl, s4.keep rfl, s5.keep rfl, Slot.new _ _ _, s7.keep rfl, O0.keep (Off.refl _ wr) rfl, O1.keep (Off.refl _ wr) rfl, O2.keep (Off.refl _ wr) rfl, O3.keep (Off.refl _ wr) rfl, hO⟩
    simp only [Act.put, List.setIfInBounds_toArray, List.set_cons_zero, List.set_cons_succ]
  · intro l a wr hI hl hd K' hK
    obtain ⟨u22, u23, u24, u25, u26, u27, u28, u29, ha, s0, s1, s2, s3, s4, s5, s6, s7, O0, O1, O2, O3, hO⟩ := hI
    simp only [Act.put, List.setIfInBounds_toArray, List.set_cons_zero, List.set_cons_succ] at ha
    have q5 := s5 (hd 5 (by decide))
    have q6 := s6 (hd 6 (by decide))
    subst ha q5 q6
    go_simp
    refine (held_inv (FB.out wr) hO).mono ?_
    rintro e w1 ⟨rfl, hO1, hOW⟩
    go_wp2_with fail
    refine hK.out _ _ ⟨_, _, _, _, _, _, _, _, ?_, s0.keep rfl, s1.keep rfl, s2.keep rfl, s3.keep rfl, s4.keep rfl, s5.keep rfl, s6.keep rfl, Slot.new _ _ _, O0.keep hOW rfl, O1.keep hOW rfl, O2.keep hOW rfl, O3.keep hOW rfl, hO1⟩
    simp only [Act.put, List.setIfInBounds_toArray, List.set_cons_zero, List.set_cons_succ]
  · intro l a wr hI hl hd K' hK
    obtain ⟨u22, u23, u24, u25, u26, u27, u28, u29, ha, s0, s1, s2, s3, s4, s5, s6, s7, O0, O1, O2, O3, hO⟩ := hI
    simp only [Act.put, List.setIfInBounds_toArray, List.set_cons_zero, List.set_cons_succ] at ha
    have q0 := s0 (hd 0 (by decide))
    subst ha q0
    have fz := fun j => frozen_of_heap (O0.was hl) j
    have lt := heap_lt (O0.was hl)
    have hc := fv_cells (O0.was hl)
    have m0 := hc.1
    have m1 := hc.2.1
    have m2 := hc.2.2.1
    have m3 := hc.2.2.2.1
    have m4 := hc.2.2.2.2.1
    have m5 := hc.2.2.2.2.2.1
    have m6 := hc.2.2.2.2.2.2.1
    have m7 := hc.2.2.2.2.2.2.2.1
    have m8 := hc.2.2.2.2.2.2.2.2.1
    have m9 := hc.2.2.2.2.2.2.2.2.2.1
    have m10 := hc.2.2.2.2.2.2.2.2.2.2.1
    have m11 := hc.2.2.2.2.2.2.2.2.2.2.2.1
    have m12 := hc.2.2.2.2.2.2.2.2.2.2.2.2.1
    have m13 := hc.2.2.2.2.2.2.2.2.2.2.2.2.2
    clear hc
    go_simp
    refine hK.out _ _ ⟨_, _, _, _, _, _, _, _, ?_, s0.keep rfl, s1.keep rfl, s2.keep rfl, s3.keep rfl, s4.keep rfl, s5.keep rfl, s6.keep rfl, s7.keep rfl, O0.put hl rfl, O1.far (vs := [.int .i64 id, .int .u64 (wd p 0 : Int), .int .u64 (wd p 1 : Int), .int .u64 (wd p 2 : Int), .int .u64 (wd p 3 : Int), .int .u64 (i : Int), .int .u64 (wd r 0 : Int), .int .u64 (wd r 1 : Int), .int .u64 (wd r 2 : Int), .int .u64 (wd r 3 : Int), .int .u64 (wd s 0 : Int), .int .u64 (wd s 1 : Int), .int .u64 (wd s 2 : Int), .int .u64 (wd s 3 : Int)]) rfl (Ne.symm n01), O2.far (vs := [.int .i64 id, .int .u64 (wd p 0 : Int), .int .u64 (wd p 1 : Int), .int .u64 (wd p 2 : Int), .int .u64 (wd p 3 : Int), .int .u64 (i : Int), .int .u64 (wd r 0 : Int), .int .u64 (wd r 1 : Int), .int .u64 (wd r 2 : Int), .int .u64 (wd r 3 : Int), .int .u64 (wd s 0 : Int), .int .u64 (wd s 1 : Int), .int .u64 (wd s 2 : Int), .int .u64 (wd s 3 : Int)]) rfl (Ne.symm n02), O3.far (vs := [.int .i64 id, .int .u64 (wd p 0 : Int), .int .u64 (wd p 1 : Int), .int .u64 (wd p 2 : Int), .int .u64 (wd p 3 : Int), .int .u64 (i : Int), .int .u64 (wd r 0 : Int), .int .u64 (wd r 1 : Int), .int .u64 (wd r 2 : Int), .int .u64 (wd r 3 : Int), .int .u64 (wd s 0 : Int), .int .u64 (wd s 1 : Int), .int .u64 (wd s 2 : Int), .int .u64 (wd s 3 : Int)]) rfl (Ne.symm n03), setCells_in hO (fun _ => .inl rfl) [.int .i64 id, .int .u64 (wd p 0 : Int), .int .u64 (wd p 1 : Int), .int .u64 (wd p 2 : Int), .int .u64 (wd p 3 : Int), .int .u64 (i : Int), .int .u64 (wd r 0 : Int), .int .u64 (wd r 1 : Int), .int .u64 (wd r 2 : Int), .int .u64 (wd r 3 : Int), .int .u64 (wd s 0 : Int), .int .u64 (wd s 1 : Int), .int .u64 (wd s 2 : Int), .int .u64 (wd s 3 : Int)]⟩
    simp only [Act.put, List.setIfInBounds_toArray, List.set_cons_zero, List.set_cons_succ]
  · intro l a wr hI hl hd K' hK
    obtain ⟨u22, u23, u24, u25, u26, u27, u28, u29, ha, s0, s1, s2, s3, s4, s5, s6, s7, O0, O1, O2, O3, hO⟩ := hI
    simp only [Act.put, List.setIfInBounds_toArray, List.set_cons_zero, List.set_cons_succ] at ha
    have q1 := s1 (hd 1 (by decide))
    subst ha q1
    obtain ⟨⟨m0, m1, m2, m3⟩, fz, lt⟩ := zero_cells (O1.was hl)
    go_simp
    refine hK.out _ _ ⟨_, _, _, _, _, _, _, _, ?_, s0.keep rfl, s1.keep rfl, s2.keep rfl, s3.keep rfl, s4.keep rfl, s5.keep rfl, s6.keep rfl, s7.keep rfl, O0.far (vs := [.int .u64 (wd p 0 : Int), .int .u64 (wd p 1 : Int), .int .u64 (wd p 2 : Int), .int .u64 (wd p 3 : Int)]) rfl n01, O1.put hl rfl, O2.far (vs := [.int .u64 (wd p 0 : Int), .int .u64 (wd p 1 : Int), .int .u64 (wd p 2 : Int), .int .u64 (wd p 3 : Int)]) rfl (Ne.symm n12), O3.far (vs := [.int .u64 (wd p 0 : Int), .int .u64 (wd p 1 : Int), .int .u64 (wd p 2 : Int), .int .u64 (wd p 3 : Int)]) rfl (Ne.symm n13), setCells_in hO (fun _ => .inr (.inl rfl)) [.int .u64 (wd p 0 : Int), .int .u64 (wd p 1 : Int), .int .u64 (wd p 2 : Int), .int .u64 (wd p 3 : Int)]⟩
    simp only [Act.put, List.setIfInBounds_toArray, List.set_cons_zero, List.set_cons_succ]
  · intro l a wr hI hl hd K' hK
    obtain ⟨u22, u23, u24, u25, u26, u27, u28, u29, ha, s0, s1, s2, s3, s4, s5, s6, s7, O0, O1, O2, O3, hO⟩ := hI
    simp only [Act.put, List.setIfInBounds_toArray, List.set_cons_zero, List.set_cons_succ] at ha
    have q4 := s4 (hd 4 (by decide))
    subst ha q4
    obtain ⟨⟨m0, m1, m2, m3⟩, fz, lt⟩ := zero_cells (O2.was hl)
    go_simp
    refine hK.out _ _ ⟨_, _, _, _, _, _, _, _, ?_, s0.keep rfl, s1.keep rfl, s2.keep rfl, s3.keep rfl, s4.keep rfl, s5.keep rfl, s6.keep rfl, s7.keep rfl, O0.far (vs := [.int .u64 (wd x 0 : Int), .int .u64 (wd x 1 : Int), .int .u64 (wd x 2 : Int), .int .u64 (wd x 3 : Int)]) rfl n02, O1.far (vs := [.int .u64 (wd x 0 : Int), .int .u64 (wd x 1 : Int), .int .u64 (wd x 2 : Int), .int .u64 (wd x 3 : Int)]) rfl n12, O2.put hl rfl, O3.far (vs := [.int .u64 (wd x 0 : Int), .int .u64 (wd x 1 : Int), .int .u64 (wd x 2 : Int), .int .u64 (wd x 3 : Int)]) rfl (Ne.symm n23), setCells_in hO (fun _ => .inr (.inr (.inl rfl))) [.int .u64 (wd x 0 : Int), .int .u64 (wd x 1 : Int), .int .u64 (wd x 2 : Int), .int .u64 (wd x 3 : Int)]⟩
    simp only [Act.put, List.setIfInBounds_toArray, List.set_cons_zero, List.set_cons_succ]
  · intro l a wr hI hl hd K' hK
    obtain ⟨u22, u23, u24, u25, u26, u27, u28, u29, ha, s0, s1, s2, s3, s4, s5, s6, s7, O0, O1, O2, O3, hO⟩ := hI
    simp only [Act.put, List.setIfInBounds_toArray, List.set_cons_zero, List.set_cons_succ] at ha
    have q7 := s7 (hd 7 (by decide))
    subst ha q7
    obtain ⟨⟨m0, m1, m2, m3⟩, fz, lt⟩ := zero_cells (O3.was hl)
    go_simp
    refine hK.out _ _ ⟨_, _, _, _, _, _, _, _, ?_, s0.keep rfl, s1.keep rfl, s2.keep rfl, s3.keep rfl, s4.keep rfl, s5.keep rfl, s6.keep rfl, s7.keep rfl, O0.far (vs := [.int .u64 (wd y 0 : Int), .int .u64 (wd y 1 : Int), .int .u64 (wd y 2 : Int), .int .u64 (wd y 3 : Int)]) rfl n03, O1.far (vs := [.int .u64 (wd y 0 : Int), .int .u64 (wd y 1 : Int), .int .u64 (wd y 2 : Int), .int .u64 (wd y 3 : Int)]) rfl n13, O2.far (vs := [.int .u64 (wd y 0 : Int), .int .u64 (wd y 1 : Int), .int .u64 (wd y 2 : Int), .int .u64 (wd y 3 : Int)]) rfl n23, O3.put hl rfl, setCells_in hO (fun _ => .inr (.inr (.inr (rfl)))) [.int .u64 (wd y 0 : Int), .int .u64 (wd y 1 : Int), .int .u64 (wd y 2 : Int), .int .u64 (wd y 3 : Int)]⟩
    simp only [Act.put, List.setIfInBounds_toArray, List.set_cons_zero, List.set_cons_succ]
  · intro l a wc hI hd
    obtain ⟨u22, u23, u24, u25, u26, u27, u28, u29, ha, s0, s1, s2, s3, s4, s5, s6, s7, O0, O1, O2, O3, hO⟩ := hI
    simp only [Act.put, List.setIfInBounds_toArray, List.set_cons_zero, List.set_cons_succ] at ha
    have q0 := s0 (hd 0 (by decide))
    have q1 := s1 (hd 1 (by decide))
    have q2 := s2 (hd 2 (by decide))
    have q3 := s3 (hd 3 (by decide))
    have q4 := s4 (hd 4 (by decide))
    have q5 := s5 (hd 5 (by decide))
    have q6 := s6 (hd 6 (by decide))
    have q7 := s7 (hd 7 (by decide))
    have r0 : wc.heap[e0]? = some (.cells #[.int .i64 id, .int .u64 (wd p 0 : Int), .int .u64 (wd p 1 : Int), .int .u64 (wd p 2 : Int), .int .u64 (wd p 3 : Int), .int .u64 (i : Int), .int .u64 (wd r 0 : Int), .int .u64 (wd r 1 : Int), .int .u64 (wd r 2 : Int), .int .u64 (wd r 3 : Int), .int .u64 (wd s 0 : Int), .int .u64 (wd s 1 : Int), .int .u64 (wd s 2 : Int), .int .u64 (wd s 3 : Int)] 26) := O0.now (hd 8 (by decide))
    have r1 : wc.heap[e1]? = some (.cells #[.int .u64 (wd p 0 : Int), .int .u64 (wd p 1 : Int), .int .u64 (wd p 2 : Int), .int .u64 (wd p 3 : Int)] 23) := O1.now (hd 9 (by decide))
    have r2 : wc.heap[e2]? = some (.cells #[.int .u64 (wd x 0 : Int), .int .u64 (wd x 1 : Int), .int .u64 (wd x 2 : Int), .int .u64 (wd x 3 : Int)] 23) := O2.now (hd 10 (by decide))
    have r3 : wc.heap[e3]? = some (.cells #[.int .u64 (wd y 0 : Int), .int .u64 (wd y 1 : Int), .int .u64 (wd y 2 : Int), .int .u64 (wd y 3 : Int)] 23) := O3.now (hd 11 (by decide))
    subst ha q0 q1 q2 q3 q4 q5 q6 q7
    clear hd s0 s1 s2 s3 s4 s5 s6 s7 O0 O1 O2 O3
    have HOc := Lib.hid hO
    have k := fv_cells r0
    have m := NumAt.four (show NumAt wc e1 p from r1)
    have mx := NumAt.four (show NumAt wc e2 x from r2)
    have my := NumAt.four (show NumAt wc e3 y from r3)
    clear r0 r1 r2 r3 hO
    obtain ⟨k0, k1, k2, k3, k4, k5, k6, k7, k8, k9, k10, k11, k12, k13⟩ := k
    obtain ⟨m0, m1, m2, m3⟩ := m
    obtain ⟨x0, x1, x2, x3⟩ := mx
    obtain ⟨y0, y1, y2, y3⟩ := my
    go_wp2
    refine bodyPost_ret (v := .tuple #[FV id p i r s, V p, V x, V y]) (by simp [results, Tryd.results9, go_sem, k0, k1, k2, k3, k4, k5, k6, k7, k8, k9, k10, k11, k12, k13, m0, m1, m2, m3, x0, x1, x2, x3, y0, y1, y2, y3]) rfl ⟨rfl, ?_⟩
    have hr := HR.out
    exact HOw.out.trans HOc.out (fun k hk e => by omega)

end Go.Proofs.YtpekmoegmdfmpaaDoor
