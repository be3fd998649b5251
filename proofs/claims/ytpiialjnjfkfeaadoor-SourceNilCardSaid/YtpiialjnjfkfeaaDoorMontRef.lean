/-
  Contracts of the reference of layer 5 (Form) and of the reference's Sub of layer 4 over this seat's translation. Conditions: the arguments are numbers of four words; the modulus is above 1; the numbers lie below it where said.
-/
import Derived.Test.YtpiialjnjfkfeaaDoorMontPlain
import Derived.Test.YtpiialjnjfkfeaaDoorInvMem
import Derived.Test.YtpiialjnjfkfeaaDoorFieldGet
namespace Go.Proofs.YtpiialjnjfkfeaaDoor
open Go.RowKit

attribute [local go_sem ↓] Go.wp_at_zero Go.wp_at_succ
set_option maxRecDepth 100000 in
set_option maxHeartbeats 2000000 in
theorem form_any (p v : Nat) (hp : p < R256) (h1 : 1 < p) (hv : v < R256) (w : World) :
    Calls Tryd.prog 18 #[V p, V v] w fun e w' => e = .returned (V (fm p v)) ∧ Off (fun _ => False) w w' := by
  have hr : radV p 256 < p := Nat.mod_lt _ (by omega)
  have qR := fun W => mod_radix p hp h1 W
  have qM := fun W => mod_mul p (radV p 256) v hp h1 hr hv W
  obtain ⟨m, hm⟩ : ∃ m, m = fm p v := ⟨_, rfl⟩
  rw [show radV p 256 * v % p = fm p v from rfl, ← hm] at qM
  obtain ⟨r, hr2⟩ : ∃ r, r = radV p 256 := ⟨_, rfl⟩
  rw [← hr2] at qR qM
  rw [← hm]
  have FR := Lib.hid qR
  have FM := Lib.hid qM
  clear qR qM hm hr hr2 hp h1 hv
  obtain ⟨W0, hW0⟩ : ∃ W0, W0 = ((w.alloc (.cells #[.int .u64 (wd p 0 : Int), .int .u64 (wd p 1 : Int), .int .u64 (wd p 2 : Int), .int .u64 (wd p 3 : Int)] 39)).alloc (.cells #[.int .u64 (wd v 0 : Int), .int .u64 (wd v 1 : Int), .int .u64 (wd v 2 : Int), .int .u64 (wd v 3 : Int)] 39)).alloc (.cells #[.int .u64 0, .int .u64 0, .int .u64 0, .int .u64 0] 39) := ⟨_, rfl⟩
  have hP : NumAt W0 w.heap.size p := by rw [hW0]; exact heap_old' (heap_old' (heap_new' rfl _) _) _
  have hV : NumAt W0 (w.heap.size + 1) v := by rw [hW0]; exact heap_old' (heap_new' (by simp) _) _
  have HR := Lib.hid (show W0.heap[w.heap.size + 1 + 1]? = some (.cells #[.int .u64 0, .int .u64 0, .int .u64 0, .int .u64 0] 39) by rw [hW0]; exact heap_new' (by simp) _)
  have HO := Lib.hid (show Off (fun _ => False) w W0 by rw [hW0]; exact (((Off.refl _ w).alloc _).alloc _).alloc _)
  have HK : Hid (∀ W, Off (fun k => k = (w.heap.size + 1 + 1)) W0 W → (W.cell? ⟨w.heap.size, 0, none⟩ = some (.int .u64 (wd p 0 : Int)) ∧ W.cell? ⟨w.heap.size, 1, none⟩ = some (.int .u64 (wd p 1 : Int)) ∧ W.cell? ⟨w.heap.size, 2, none⟩ = some (.int .u64 (wd p 2 : Int)) ∧ W.cell? ⟨w.heap.size, 3, none⟩ = some (.int .u64 (wd p 3 : Int))) ∧ (W.cell? ⟨w.heap.size + 1, 0, none⟩ = some (.int .u64 (wd v 0 : Int)) ∧ W.cell? ⟨w.heap.size + 1, 1, none⟩ = some (.int .u64 (wd v 1 : Int)) ∧ W.cell? ⟨w.heap.size + 1, 2, none⟩ = some (.int .u64 (wd v 2 : Int)) ∧ W.cell? ⟨w.heap.size + 1, 3, none⟩ = some (.int .u64 (wd v 3 : Int))) ∧ Off (fun k => k = (w.heap.size + 1 + 1)) W0 W) := Lib.hid (fun W h => ⟨NumAt.four (w := W) (h.heap hP (show ¬ w.heap.size = w.heap.size + 1 + 1 by omega)), NumAt.four (w := W) (h.heap hV (show ¬ w.heap.size + 1 = w.heap.size + 1 + 1 by omega)), h⟩)
  have HW0 := Lib.hid hW0
  clear hP hV hW0
  go_enter Tryd.func18, Tryd.ntmps18
  go_upto_region 1 with fail
  rw [← HW0.out]
  refine wp_region_inv (fun a0 l a' w' => ∃ (u5 : Value) (u6 : Value) (u7 : Value) (u8 : Value) (u9 : Value), a' = (Act.put (Act.put (Act.put (Act.put (Act.put a0 (some 5) u5) (some 6) u6) (some 7) u7) (some 8) u8) (some 9) u9) ∧ Slot l 0 u5 (V p) ∧ Slot l 1 u6 (V p) ∧ Slot l 2 u7 (V r) ∧ Slot l 3 u8 (V v) ∧ Slot l 4 u9 (V m) ∧ Old l 5 (w.heap.size + 1 + 1) W0 w' (.cells #[.int .u64 0, .int .u64 0, .int .u64 0, .int .u64 0] 39) (.cells #[.int .u64 (wd m 0 : Int), .int .u64 (wd m 1 : Int), .int .u64 (wd m 2 : Int), .int .u64 (wd m 3 : Int)] 39) ∧ Off (fun k => k = (w.heap.size + 1 + 1)) W0 w') (by kernel_rfl) (by kernel_rfl) ?_ ⟨?_, ?_, ?_, ?_, ?_, ?_, trivial⟩ ?_
  · refine ⟨undef, undef, undef, undef, undef, ?_, Slot.start _ _ _, Slot.start _ _ _, Slot.start _ _ _, Slot.start _ _ _, Slot.start _ _ _, Old.start HR.out _ _, (Off.refl _ W0).drew⟩
    simp only [Act.put, List.setIfInBounds_toArray, List.set_cons_zero, List.set_cons_succ]
  · intro l a wr hI hl hd K' hK
    obtain ⟨u5, u6, u7, u8, u9, ha, s0, s1, s2, s3, s4, O0, hO⟩ := hI
    simp only [Act.put, List.setIfInBounds_toArray, List.set_cons_zero, List.set_cons_succ] at ha
    subst ha
    have hc := HK.out wr hO
    have p0 := hc.1.1
    have p1 := hc.1.2.1
    have p2 := hc.1.2.2.1
    have p3 := hc.1.2.2.2
    clear hc
    go_simp
    refine hK.out _ _ ⟨_, _, _, _, _, ?_, Slot.new _ _ _, s1.keep rfl, s2.keep rfl, s3.keep rfl, s4.keep rfl, O0.keep (Off.refl _ wr) rfl, hO⟩
    simp only [Act.put, List.setIfInBounds_toArray, List.set_cons_zero, List.set_cons_succ]
  · intro l a wr hI hl hd K' hK
    obtain ⟨u5, u6, u7, u8, u9, ha, s0, s1, s2, s3, s4, O0, hO⟩ := hI
    simp only [Act.put, List.setIfInBounds_toArray, List.set_cons_zero, List.set_cons_succ] at ha
    subst ha
    have hc := HK.out wr hO
    have p0 := hc.1.1
    have p1 := hc.1.2.1
    have p2 := hc.1.2.2.1
    have p3 := hc.1.2.2.2
    clear hc
    go_simp
    refine hK.out _ _ ⟨_, _, _, _, _, ?_, s0.keep rfl, Slot.new _ _ _, s2.keep rfl, s3.keep rfl, s4.keep rfl, O0.keep (Off.refl _ wr) rfl, hO⟩
    simp only [Act.put, List.setIfInBounds_toArray, List.set_cons_zero, List.set_cons_succ]
  · intro l a wr hI hl hd K' hK
    obtain ⟨u5, u6, u7, u8, u9, ha, s0, s1, s2, s3, s4, O0, hO⟩ := hI
    simp only [Act.put, List.setIfInBounds_toArray, List.set_cons_zero, List.set_cons_succ] at ha
    have q1 := s1 (hd 1 (by decide))
    subst ha q1
    go_simp
    refine (held_inv (FR.out wr) hO).mono ?_
    rintro e w1 ⟨rfl, hO1, hOW⟩
    go_wp2_with fail
    refine hK.out _ _ ⟨_, _, _, _, _, ?_, s0.keep rfl, s1.keep rfl, Slot.new _ _ _, s3.keep rfl, s4.keep rfl, O0.keep hOW rfl, hO1⟩
    simp only [Act.put, List.setIfInBounds_toArray, List.set_cons_zero, List.set_cons_succ]
  · intro l a wr hI hl hd K' hK
    obtain ⟨u5, u6, u7, u8, u9, ha, s0, s1, s2, s3, s4, O0, hO⟩ := hI
    simp only [Act.put, List.setIfInBounds_toArray, List.set_cons_zero, List.set_cons_succ] at ha
    subst ha
    have hc := HK.out wr hO
    have p0 := hc.2.1.1
    have p1 := hc.2.1.2.1
    have p2 := hc.2.1.2.2.1
    have p3 := hc.2.1.2.2.2
    clear hc
    go_simp
    refine hK.out _ _ ⟨_, _, _, _, _, ?_, s0.keep rfl, s1.keep rfl, s2.keep rfl, Slot.new _ _ _, s4.keep rfl, O0.keep (Off.refl _ wr) rfl, hO⟩
    simp only [Act.put, List.setIfInBounds_toArray, List.set_cons_zero, List.set_cons_succ]
  · intro l a wr hI hl hd K' hK
    obtain ⟨u5, u6, u7, u8, u9, ha, s0, s1, s2, s3, s4, O0, hO⟩ := hI
    simp only [Act.put, List.setIfInBounds_toArray, List.set_cons_zero, List.set_cons_succ] at ha
    have q0 := s0 (hd 0 (by decide))
    have q2 := s2 (hd 2 (by decide))
    have q3 := s3 (hd 3 (by decide))
    subst ha q0 q2 q3
    go_simp
    refine (held_inv (FM.out wr) hO).mono ?_
    rintro e w1 ⟨rfl, hO1, hOW⟩
    go_wp2_with fail
    refine hK.out _ _ ⟨_, _, _, _, _, ?_, s0.keep rfl, s1.keep rfl, s2.keep rfl, s3.keep rfl, Slot.new _ _ _, O0.keep hOW rfl, hO1⟩
    simp only [Act.put, List.setIfInBounds_toArray, List.set_cons_zero, List.set_cons_succ]
  · intro l a wr hI hl hd K' hK
    obtain ⟨u5, u6, u7, u8, u9, ha, s0, s1, s2, s3, s4, O0, hO⟩ := hI
    simp only [Act.put, List.setIfInBounds_toArray, List.set_cons_zero, List.set_cons_succ] at ha
    have q4 := s4 (hd 4 (by decide))
    subst ha q4
    obtain ⟨⟨m0, m1, m2, m3⟩, fz, lt⟩ := zero_cells (O0.was hl)
    go_simp
    refine hK.out _ _ ⟨_, _, _, _, _, ?_, s0.keep rfl, s1.keep rfl, s2.keep rfl, s3.keep rfl, s4.keep rfl, O0.put hl rfl, setCells_in hO (fun _ => rfl) [.int .u64 (wd m 0 : Int), .int .u64 (wd m 1 : Int), .int .u64 (wd m 2 : Int), .int .u64 (wd m 3 : Int)]⟩
    simp only [Act.put, List.setIfInBounds_toArray, List.set_cons_zero, List.set_cons_succ]
  · intro l a wc hI hd
    obtain ⟨u5, u6, u7, u8, u9, ha, s0, s1, s2, s3, s4, O0, hO⟩ := hI
    simp only [Act.put, List.setIfInBounds_toArray, List.set_cons_zero, List.set_cons_succ] at ha
    have q0 := s0 (hd 0 (by decide))
    have q1 := s1 (hd 1 (by decide))
    have q2 := s2 (hd 2 (by decide))
    have q3 := s3 (hd 3 (by decide))
    have q4 := s4 (hd 4 (by decide))
    have r0 : wc.heap[(w.heap.size + 1 + 1)]? = some (.cells #[.int .u64 (wd m 0 : Int), .int .u64 (wd m 1 : Int), .int .u64 (wd m 2 : Int), .int .u64 (wd m 3 : Int)] 39) := O0.now (hd 5 (by decide))
    subst ha q0 q1 q2 q3 q4
    clear hd s0 s1 s2 s3 s4 O0
    have hm := NumAt.four (show NumAt wc (w.heap.size + 1 + 1) m from r0)
    obtain ⟨m0, m1, m2, m3⟩ := hm
    have HOc := Lib.hid hO
    clear r0 hO
    go_wp2
    refine bodyPost_ret (v := V m) (by simp [results, Tryd.results18, go_sem, m0, m1, m2, m3]) rfl ⟨rfl, ?_⟩
    exact HO.out.trans HOc.out (fun k hk e => by omega)
/-- A field's constants. -/
structure Fld (id : Int) (p i r s : Nat) : Prop where
  mp : Mp p
  mod : modN id = p
  ii : i = negInv (wd p 0)
  inv : (i * wd p 0 + 1) % 18446744073709551616 = 0
  rr : r = radV p 256
  ss : s = radV p 256 * radV p 256 % p
theorem fld1 : Fld 1 P1 (negInv (wd P1 0)) (radV P1 256) (radV P1 256 * radV P1 256 % P1) := ⟨mp1, rfl, rfl, by decide +kernel, rfl, rfl⟩
theorem fld2 : Fld 2 P2 (negInv (wd P2 0)) (radV P2 256) (radV P2 256 * radV P2 256 % P2) := ⟨mp2, rfl, rfl, by decide +kernel, rfl, rfl⟩
/-- The number of a field. -/
def idB (t : Bool) : Int := if t then 2 else 1
theorem fld_of (t : Bool) : ∃ id p i r s, Fld id p i r s ∧ id = idB t := by
  cases t
  · exact ⟨1, _, _, _, _, fld1, rfl⟩
  · exact ⟨2, _, _, _, _, fld2, rfl⟩
set_option maxHeartbeats 1000000 in
theorem id_any (t : Bool) (w : World) : Calls Tryd.prog 26 #[.bool t] w fun e w' => e = .returned (.int .i64 (idB t)) ∧ Off (fun _ => False) w w' := by
  cases t
  · go_enter Tryd.func26, Tryd.ntmps26
    go_wp2
    go_ret
    exact ⟨rfl, Off.refl _ _⟩
  · go_enter Tryd.func26, Tryd.ntmps26
    go_wp2
    go_ret
    exact ⟨rfl, Off.refl _ _⟩

end Go.Proofs.YtpiialjnjfkfeaaDoor
