/-
  For every field and two numbers, the examples of the chapter hold, and the results of all operations on their forms are less than the modulus: the statement of P5.1 and P5.2. No condition.
-/
import Derived.Test.YtpekmoegmdfmpaaDoorRows
import Derived.Test.YtpekmoegmdfmpaaDoorTie
import Derived.Test.YtpekmoegmdfmpaaDoorCards
import Derived.LaidMore
import Derived.LaidHandle
import Derived.SevenTiedAt
import Derived.Stop.Joined
import Derived.JoinedOf
import Derived.Test.YtpekmoegmdfmpaaDoorLimbOpen
import Derived.Test.YtpekmoegmdfmpaaDoorMontOpen
import Derived.Test.YtpekmoegmdfmpaaDoorFieldTab
import Derived.Test.YtpekmoegmdfmpaaDoorFieldHeld
import Derived.Test.YtpekmoegmdfmpaaDoorMontOps
import Derived.Test.YtpekmoegmdfmpaaDoorMontAlive
import Derived.Test.YtpekmoegmdfmpaaDoorInvMem
import Derived.WalkKit
import Derived.ProofKit
import Derived.OpenShut
import Derived.ShutString
import Derived.ChangeOld
import Derived.Below
namespace Go.Proofs.YtpekmoegmdfmpaaDoor.montStaysBelow
open Go.ChangeShapes Go.WideShapes Go.ChangeAt Go.RowKit
set_option linter.unusedVariables false

theorem own : ownKnob Tryd.prog.godebug = none := by kernel_rfl
theorem laidOut : laidOutB Tryd.prog = true := by kernel_rfl

theorem below7 {k : Nat} (h : k < 7) : k = 0 ∨ k = 1 ∨ k = 2 ∨ k = 3 ∨ k = 4 ∨ k = 5 ∨ k = 6 := by omega
set_option maxHeartbeats 4000000 in
theorem walk (i0 : Bool) (n1 : Nat) (n2 : Nat) (w : World) (w0 : True) (w1 : n1 < R256) (w2 : n2 < R256) (hT : TabAt w) :
    Calls Tryd.prog 8 #[.bool i0, V n1, V n2] w fun e w' => e = .returned (.bool true) ∧ Off (fun _ => False) w w' := by
  obtain ⟨id, p, i, r, s, hF, hid⟩ := fld_of i0
  have hp := hF.mp.lt
  have h1 := hF.mp.one
  have qP := fun W hT => pair_any i0 hF hid n1 n2 w1 w2 W hT
  obtain ⟨x, hx⟩ : ∃ x, x = n1 % p := ⟨_, rfl⟩
  have hxp : x < p := by rw [hx]; exact Nat.mod_lt _ (by omega)
  obtain ⟨y, hy⟩ : ∃ y, y = n2 % p := ⟨_, rfl⟩
  have hyp : y < p := by rw [hy]; exact Nat.mod_lt _ (by omega)
  rw [← hx, ← hy] at qP
  have FP := Lib.hid qP
  obtain ⟨v, hv⟩ : ∃ v, v = fm p y := ⟨_, rfl⟩
  have hvp : v < p := by rw [hv]; exact fm_lt (by omega) _
  obtain ⟨u, hu⟩ : ∃ u, u = fm p x := ⟨_, rfl⟩
  have hup : u < p := by rw [hu]; exact fm_lt (by omega) _
  obtain ⟨c0, hc0⟩ : ∃ c0, c0 = mm p u v := ⟨_, rfl⟩
  obtain ⟨c1, hc1⟩ : ∃ c1, c1 = (u + v) % p := ⟨_, rfl⟩
  obtain ⟨c2, hc2⟩ : ∃ c2, c2 = (u + (p - v)) % p := ⟨_, rfl⟩
  obtain ⟨c3, hc3⟩ : ∃ c3, c3 = (p - u) % p := ⟨_, rfl⟩
  obtain ⟨c4, hc4⟩ : ∃ c4, c4 = mm p u u := ⟨_, rfl⟩
  obtain ⟨c5, hc5⟩ : ∃ c5, c5 = fm p (n1 % p) := ⟨_, rfl⟩
  obtain ⟨c6, hc6⟩ : ∃ c6, c6 = mm p u 1 := ⟨_, rfl⟩
  have B0 := Lib.hid (show c0 < p by rw [hc0]; exact mm_lt hF.mp _ _)
  have B1 := Lib.hid (show c1 < p by rw [hc1]; exact Nat.mod_lt _ (by omega))
  have B2 := Lib.hid (show c2 < p by rw [hc2]; exact Nat.mod_lt _ (by omega))
  have B3 := Lib.hid (show c3 < p by rw [hc3]; exact Nat.mod_lt _ (by omega))
  have B4 := Lib.hid (show c4 < p by rw [hc4]; exact mm_lt hF.mp _ _)
  have B5 := Lib.hid (show c5 < p by rw [hc5]; exact fm_lt (by omega) _)
  have B6 := Lib.hid (show c6 < p by rw [hc6]; exact mm_lt hF.mp _ _)
  have FCON := Lib.hid (fun c (hc : c < p) W => by
    have h := contains_any id p i r s c hp (Nat.lt_trans hc hp) W
    rw [show mk (lessN c p) = 18446744073709551615 by unfold lessN; rw [decide_eq_true hc]; rfl] at h
    exact h)
  have FU : Hid (∀ W, TabAt W → Calls Tryd.prog 10 #[V p, V x] W fun e w' => e = .returned (V u) ∧ Off (fun _ => False) W w') := Lib.hid (fun W hT => by have h := lform_any p x hp h1 (by have := hxp; omega) W; rw [← hu] at h; exact h)
  have FV1 : Hid (∀ W, TabAt W → Calls Tryd.prog 10 #[V p, V y] W fun e w' => e = .returned (V v) ∧ Off (fun _ => False) W w') := Lib.hid (fun W hT => by have h := lform_any p y hp h1 (by have := hyp; omega) W; rw [← hv] at h; exact h)
  have FMUL : Hid (∀ W, TabAt W → Calls Tryd.prog 12 #[FV id p i r s, V u, V v] W fun e w' => e = .returned (V c0) ∧ Off (fun _ => False) W w') := Lib.hid (fun W hT => by have h := mmul_any hF u v (by omega) hvp W; rw [← hc0] at h; exact h)
  have FADD : Hid (∀ W, TabAt W → Calls Tryd.prog 15 #[FV id p i r s, V u, V v] W fun e w' => e = .returned (V c1) ∧ Off (fun _ => False) W w') := Lib.hid (fun W hT => by have h := madd_any hF u v hup hvp W; rw [← hc1] at h; exact h)
  have FSUB : Hid (∀ W, TabAt W → Calls Tryd.prog 17 #[FV id p i r s, V u, V v] W fun e w' => e = .returned (V c2) ∧ Off (fun _ => False) W w') := Lib.hid (fun W hT => by have h := msub_any hF u v hup hvp W; rw [← hc2] at h; exact h)
  have FNEG : Hid (∀ W, TabAt W → Calls Tryd.prog 19 #[FV id p i r s, V u] W fun e w' => e = .returned (V c3) ∧ Off (fun _ => False) W w') := Lib.hid (fun W hT => by have h := mneg_any hF u hup W; rw [← hc3] at h; exact h)
  have FSQ : Hid (∀ W, TabAt W → Calls Tryd.prog 14 #[FV id p i r s, V u] W fun e w' => e = .returned (V c4) ∧ Off (fun _ => False) W w') := Lib.hid (fun W hT => by have h := msquare_any hF u hup W; rw [← hc4] at h; exact h)
  have FTO : Hid (∀ W, TabAt W → Calls Tryd.prog 20 #[FV id p i r s, V n1] W fun e w' => e = .returned (V c5) ∧ Off (fun _ => False) W w') := Lib.hid (fun W hT => by have h := mto_any hF n1 w1 W; rw [← hc5] at h; exact h)
  have FFR : Hid (∀ W, TabAt W → Calls Tryd.prog 21 #[FV id p i r s, V u] W fun e w' => e = .returned (V c6) ∧ Off (fun _ => False) W w') := Lib.hid (fun W hT => by have h := mfrom_any hF u hup W; rw [← hc6] at h; exact h)
  have FAL : Hid (∀ W, TabAt W → Calls Tryd.prog 11 #[] W fun e w' => e = .returned (.bool true) ∧ Off (fun _ => False) W w') := Lib.hid (fun W hT => by exact malive_any W hT)
  clear qP hp h1 hx hxp hu hup hF hid w0 w1 hy hyp hv hvp w2 hc0 hc1 hc2 hc3 hc4 hc5 hc6 
  have e1 := equalIn_elem_same
  have e2 := equalIn_same
  go_enter Tryd.func8, Tryd.ntmps8
  go_wp2_with fail
  refine (FP.out _ (hT.off (((Off.refl _ w).alloc _).alloc _))).mono ?_
  rintro e u0 ⟨rfl, hO1⟩
  obtain ⟨W0, hW0⟩ : ∃ W0, W0 = (((u0.alloc (.cells #[.int .i64 id, .int .u64 (wd p 0 : Int), .int .u64 (wd p 1 : Int), .int .u64 (wd p 2 : Int), .int .u64 (wd p 3 : Int), .int .u64 (i : Int), .int .u64 (wd r 0 : Int), .int .u64 (wd r 1 : Int), .int .u64 (wd r 2 : Int), .int .u64 (wd r 3 : Int), .int .u64 (wd s 0 : Int), .int .u64 (wd s 1 : Int), .int .u64 (wd s 2 : Int), .int .u64 (wd s 3 : Int)] 26)).alloc (.cells #[.int .u64 (wd p 0 : Int), .int .u64 (wd p 1 : Int), .int .u64 (wd p 2 : Int), .int .u64 (wd p 3 : Int)] 23)).alloc (.cells #[.int .u64 (wd x 0 : Int), .int .u64 (wd x 1 : Int), .int .u64 (wd x 2 : Int), .int .u64 (wd x 3 : Int)] 23)).alloc (.cells #[.int .u64 (wd y 0 : Int), .int .u64 (wd y 1 : Int), .int .u64 (wd y 2 : Int), .int .u64 (wd y 3 : Int)] 23) := ⟨_, rfl⟩
  have hO : Off (fun _ => False) w W0 := by rw [hW0]; exact (((((((Off.refl _ w).alloc _).alloc _).trans hO1 (fun _ _ c => c)).alloc _).alloc _).alloc _).alloc _
  have HF0 := Lib.hid (show W0.heap[u0.heap.size]? = some (.cells #[.int .i64 id, .int .u64 (wd p 0 : Int), .int .u64 (wd p 1 : Int), .int .u64 (wd p 2 : Int), .int .u64 (wd p 3 : Int), .int .u64 (i : Int), .int .u64 (wd r 0 : Int), .int .u64 (wd r 1 : Int), .int .u64 (wd r 2 : Int), .int .u64 (wd r 3 : Int), .int .u64 (wd s 0 : Int), .int .u64 (wd s 1 : Int), .int .u64 (wd s 2 : Int), .int .u64 (wd s 3 : Int)] 26) by rw [hW0]; exact heap_old' (heap_old' (heap_old' (heap_new' rfl _) _) _) _)
  have HP0 := Lib.hid (show NumAt W0 (u0.heap.size + 1) p by rw [hW0]; exact heap_old' (heap_old' (heap_new' (by simp) _) _) _)
  have HX0 := Lib.hid (show NumAt W0 (u0.heap.size + 1 + 1) x by rw [hW0]; exact heap_old' (heap_new' (by simp) _) _)
  have HY0 := Lib.hid (show NumAt W0 (u0.heap.size + 1 + 1 + 1) y by rw [hW0]; exact heap_new' (by simp) _)
  have HA0 := Lib.hid (show NumAt W0 w.heap.size n1 by rw [hW0]; exact heap_old' (heap_old' (heap_old' (heap_old' (hO1.heap (heap_old' (heap_new' rfl _) _) (fun c => c)) _) _) _) _)
  have HT0 := Lib.hid (hT.off hO)
  have HTW := Lib.hid (fun W (h : Off (fun _ => False) W0 W) => HT0.out.off h)
  have HO0 := Lib.hid hO
  have HW0 := Lib.hid hW0
  have HK : Hid (∀ W, Off (fun _ => False) W0 W → (W.cell? ⟨(u0.heap.size + 1), 0, none⟩ = some (.int .u64 (wd p 0 : Int)) ∧ W.cell? ⟨(u0.heap.size + 1), 1, none⟩ = some (.int .u64 (wd p 1 : Int)) ∧ W.cell? ⟨(u0.heap.size + 1), 2, none⟩ = some (.int .u64 (wd p 2 : Int)) ∧ W.cell? ⟨(u0.heap.size + 1), 3, none⟩ = some (.int .u64 (wd p 3 : Int))) ∧ (W.cell? ⟨(u0.heap.size + 1 + 1), 0, none⟩ = some (.int .u64 (wd x 0 : Int)) ∧ W.cell? ⟨(u0.heap.size + 1 + 1), 1, none⟩ = some (.int .u64 (wd x 1 : Int)) ∧ W.cell? ⟨(u0.heap.size + 1 + 1), 2, none⟩ = some (.int .u64 (wd x 2 : Int)) ∧ W.cell? ⟨(u0.heap.size + 1 + 1), 3, none⟩ = some (.int .u64 (wd x 3 : Int))) ∧ (W.cell? ⟨(u0.heap.size + 1 + 1 + 1), 0, none⟩ = some (.int .u64 (wd y 0 : Int)) ∧ W.cell? ⟨(u0.heap.size + 1 + 1 + 1), 1, none⟩ = some (.int .u64 (wd y 1 : Int)) ∧ W.cell? ⟨(u0.heap.size + 1 + 1 + 1), 2, none⟩ = some (.int .u64 (wd y 2 : Int)) ∧ W.cell? ⟨(u0.heap.size + 1 + 1 + 1), 3, none⟩ = some (.int .u64 (wd y 3 : Int))) ∧ Off (fun _ => False) W0 W) := Lib.hid (fun W h => ⟨Four.off HP0.out.four h, Four.off HX0.out.four h, Four.off HY0.out.four h, h⟩)
  clear hO hO1 hT hW0 FP
  go_upto_region 2 with fail
  rw [← HW0.out]
  refine wp_region_inv (fun a0 l a' w' => ∃ (u24 : Value) (u25 : Value) (u26 : Value) (u27 : Value) (u28 : Value) (u29 : Value) (u11 : Value) (u12 : Value) (b11 : Nat) (b12 : Nat), a' = (Act.put (Act.put (Act.put (Act.put (Act.put (Act.put (Act.put (Act.put a0 (some 24) u24) (some 25) u25) (some 26) u26) (some 27) u27) (some 28) u28) (some 29) u29) (some 11) u11) (some 12) u12) ∧ Slot l 0 u24 (V p) ∧ Slot l 1 u25 (V x) ∧ Slot l 2 u26 (V u) ∧ Slot l 3 u27 (V p) ∧ Slot l 4 u28 (V y) ∧ Slot l 5 u29 (V v) ∧ Blk l 6 8 u11 b11 W0 w' (.cells #[.int .u64 0, .int .u64 0, .int .u64 0, .int .u64 0] 24) (.cells #[.int .u64 (wd u 0 : Int), .int .u64 (wd u 1 : Int), .int .u64 (wd u 2 : Int), .int .u64 (wd u 3 : Int)] 24) ∧ Blk l 7 9 u12 b12 W0 w' (.cells #[.int .u64 0, .int .u64 0, .int .u64 0, .int .u64 0] 24) (.cells #[.int .u64 (wd v 0 : Int), .int .u64 (wd v 1 : Int), .int .u64 (wd v 2 : Int), .int .u64 (wd v 3 : Int)] 24) ∧ Dif l 6 7 b11 b12 ∧ Off (fun _ => False) W0 w') (by kernel_rfl) (by kernel_rfl) ?_ ⟨?_, ?_, ?_, ?_, ?_, ?_, ?_, ?_, ?_, ?_, trivial⟩ ?_
  · refine ⟨undef, undef, undef, undef, undef, undef, undef, undef, 0, 0, ?_, Slot.start _ _ _, Slot.start _ _ _, Slot.start _ _ _, Slot.start _ _ _, Slot.start _ _ _, Slot.start _ _ _, Blk.start _ _ _ _ _ _ _ _, Blk.start _ _ _ _ _ _ _ _, Dif.start _ _ _ _, (Off.refl _ W0).drew⟩
    simp only [Act.put, List.setIfInBounds_toArray, List.set_cons_zero, List.set_cons_succ]
  · intro l a wr hI hl hd K' hK
    obtain ⟨u24, u25, u26, u27, u28, u29, u11, u12, b11, b12, ha, s0, s1, s2, s3, s4, s5, B6, B7, D6_7, hO⟩ := hI
    simp only [Act.put, List.setIfInBounds_toArray, List.set_cons_zero, List.set_cons_succ] at ha
    subst ha
    have hc := HK.out wr hO
    have p0 := hc.1.1
    have p1 := hc.1.2.1
    have p2 := hc.1.2.2.1
    have p3 := hc.1.2.2.2
    clear hc
    go_simp
    refine hK.out _ _ ⟨_, _, _, _, _, _, _, _, _, _, ?_, Slot.new _ _ _, s1.keep rfl, s2.keep rfl, s3.keep rfl, s4.keep rfl, s5.keep rfl, B6.keep (Off.refl _ wr) rfl rfl, B7.keep (Off.refl _ wr) rfl rfl, D6_7.keep rfl rfl, hO⟩
    simp only [Act.put, List.setIfInBounds_toArray, List.set_cons_zero, List.set_cons_succ]
  · intro l a wr hI hl hd K' hK
    obtain ⟨u24, u25, u26, u27, u28, u29, u11, u12, b11, b12, ha, s0, s1, s2, s3, s4, s5, B6, B7, D6_7, hO⟩ := hI
    simp only [Act.put, List.setIfInBounds_toArray, List.set_cons_zero, List.set_cons_succ] at ha
    subst ha
    have hc := HK.out wr hO
    have p0 := hc.2.1.1
    have p1 := hc.2.1.2.1
    have p2 := hc.2.1.2.2.1
    have p3 := hc.2.1.2.2.2
    clear hc
    go_simp
    refine hK.out _ _ ⟨_, _, _, _, _, _, _, _, _, _, ?_, s0.keep rfl, Slot.new _ _ _, s2.keep rfl, s3.keep rfl, s4.keep rfl, s5.keep rfl, B6.keep (Off.refl _ wr) rfl rfl, B7.keep (Off.refl _ wr) rfl rfl, D6_7.keep rfl rfl, hO⟩
    simp only [Act.put, List.setIfInBounds_toArray, List.set_cons_zero, List.set_cons_succ]
  · intro l a wr hI hl hd K' hK
    obtain ⟨u24, u25, u26, u27, u28, u29, u11, u12, b11, b12, ha, s0, s1, s2, s3, s4, s5, B6, B7, D6_7, hO⟩ := hI
    simp only [Act.put, List.setIfInBounds_toArray, List.set_cons_zero, List.set_cons_succ] at ha
    have q0 := s0 (hd 0 (by decide))
    have q1 := s1 (hd 1 (by decide))
    subst ha q0 q1
    go_simp
    refine (held_inv (FU.out wr (HTW.out wr hO)) hO).mono ?_
    rintro e w1 ⟨rfl, hO1, hOW⟩
    go_wp2_with fail
    refine hK.out _ _ ⟨_, _, _, _, _, _, _, _, _, _, ?_, s0.keep rfl, s1.keep rfl, Slot.new _ _ _, s3.keep rfl, s4.keep rfl, s5.keep rfl, B6.keep hOW rfl rfl, B7.keep hOW rfl rfl, D6_7.keep rfl rfl, hO1⟩
    simp only [Act.put, List.setIfInBounds_toArray, List.set_cons_zero, List.set_cons_succ]
  · intro l a wr hI hl hd K' hK
    obtain ⟨u24, u25, u26, u27, u28, u29, u11, u12, b11, b12, ha, s0, s1, s2, s3, s4, s5, B6, B7, D6_7, hO⟩ := hI
    simp only [Act.put, List.setIfInBounds_toArray, List.set_cons_zero, List.set_cons_succ] at ha
    subst ha
    have hc := HK.out wr hO
    have p0 := hc.1.1
    have p1 := hc.1.2.1
    have p2 := hc.1.2.2.1
    have p3 := hc.1.2.2.2
    clear hc
    go_simp
    refine hK.out _ _ ⟨_, _, _, _, _, _, _, _, _, _, ?_, s0.keep rfl, s1.keep rfl, s2.keep rfl, Slot.new _ _ _, s4.keep rfl, s5.keep rfl, B6.keep (Off.refl _ wr) rfl rfl, B7.keep (Off.refl _ wr) rfl rfl, D6_7.keep rfl rfl, hO⟩
    simp only [Act.put, List.setIfInBounds_toArray, List.set_cons_zero, List.set_cons_succ]
  · intro l a wr hI hl hd K' hK
    obtain ⟨u24, u25, u26, u27, u28, u29, u11, u12, b11, b12, ha, s0, s1, s2, s3, s4, s5, B6, B7, D6_7, hO⟩ := hI
    simp only [Act.put, List.setIfInBounds_toArray, List.set_cons_zero, List.set_cons_succ] at ha
    subst ha
    have hc := HK.out wr hO
    have p0 := hc.2.2.1.1
    have p1 := hc.2.2.1.2.1
    have p2 := hc.2.2.1.2.2.1
    have p3 := hc.2.2.1.2.2.2
    clear hc
    go_simp
    refine hK.out _ _ ⟨_, _, _, _, _, _, _, _, _, _, ?_, s0.keep rfl, s1.keep rfl, s2.keep rfl, s3.keep rfl, Slot.new _ _ _, s5.keep rfl, B6.keep (Off.refl _ wr) rfl rfl, B7.keep (Off.refl _ wr) rfl rfl, D6_7.keep rfl rfl, hO⟩
    simp only [Act.put, List.setIfInBounds_toArray, List.set_cons_zero, List.set_cons_succ]
  · intro l a wr hI hl hd K' hK
    obtain ⟨u24, u25, u26, u27, u28, u29, u11, u12, b11, b12, ha, s0, s1, s2, s3, s4, s5, B6, B7, D6_7, hO⟩ := hI
    simp only [Act.put, List.setIfInBounds_toArray, List.set_cons_zero, List.set_cons_succ] at ha
    have q3 := s3 (hd 3 (by decide))
    have q4 := s4 (hd 4 (by decide))
    subst ha q3 q4
    go_simp
    refine (held_inv (FV1.out wr (HTW.out wr hO)) hO).mono ?_
    rintro e w1 ⟨rfl, hO1, hOW⟩
    go_wp2_with fail
    refine hK.out _ _ ⟨_, _, _, _, _, _, _, _, _, _, ?_, s0.keep rfl, s1.keep rfl, s2.keep rfl, s3.keep rfl, s4.keep rfl, Slot.new _ _ _, B6.keep hOW rfl rfl, B7.keep hOW rfl rfl, D6_7.keep rfl rfl, hO1⟩
    simp only [Act.put, List.setIfInBounds_toArray, List.set_cons_zero, List.set_cons_succ]
  · intro l a wr hI hl hd K' hK
    obtain ⟨u24, u25, u26, u27, u28, u29, u11, u12, b11, b12, ha, s0, s1, s2, s3, s4, s5, B6, B7, D6_7, hO⟩ := hI
    simp only [Act.put, List.setIfInBounds_toArray, List.set_cons_zero, List.set_cons_succ] at ha
    subst ha
    go_simp
    refine hK.out _ _ ⟨_, _, _, _, _, _, _, _, _, _, ?_, s0.keep rfl, s1.keep rfl, s2.keep rfl, s3.keep rfl, s4.keep rfl, s5.keep rfl, B6.make hl rfl hO, B7.keep ((Off.refl _ wr).alloc _) rfl rfl, Dif.left B7 rfl, hO.alloc _⟩
    simp only [Act.put, List.setIfInBounds_toArray, List.set_cons_zero, List.set_cons_succ]
  · intro l a wr hI hl hd K' hK
    obtain ⟨u24, u25, u26, u27, u28, u29, u11, u12, b11, b12, ha, s0, s1, s2, s3, s4, s5, B6, B7, D6_7, hO⟩ := hI
    simp only [Act.put, List.setIfInBounds_toArray, List.set_cons_zero, List.set_cons_succ] at ha
    subst ha
    go_simp
    refine hK.out _ _ ⟨_, _, _, _, _, _, _, _, _, _, ?_, s0.keep rfl, s1.keep rfl, s2.keep rfl, s3.keep rfl, s4.keep rfl, s5.keep rfl, B6.keep ((Off.refl _ wr).alloc _) rfl rfl, B7.make hl rfl hO, Dif.right B6 rfl, hO.alloc _⟩
    simp only [Act.put, List.setIfInBounds_toArray, List.set_cons_zero, List.set_cons_succ]
  · intro l a wr hI hl hd K' hK
    obtain ⟨u24, u25, u26, u27, u28, u29, u11, u12, b11, b12, ha, s0, s1, s2, s3, s4, s5, B6, B7, D6_7, hO⟩ := hI
    simp only [Act.put, List.setIfInBounds_toArray, List.set_cons_zero, List.set_cons_succ] at ha
    have h6 := hd 6 (by decide)
    have q6 := B6.ptr h6
    have q2 := s2 (hd 2 (by decide))
    subst ha q6 q2
    obtain ⟨⟨m0, m1, m2, m3⟩, fz, lt⟩ := zero_cells (B6.was h6 hl)
    go_simp
    refine hK.out _ _ ⟨_, _, _, _, _, _, _, _, _, _, ?_, s0.keep rfl, s1.keep rfl, s2.keep rfl, s3.keep rfl, s4.keep rfl, s5.keep rfl, B6.put hl h6 rfl rfl, B7.far (vs := [.int .u64 (wd u 0 : Int), .int .u64 (wd u 1 : Int), .int .u64 (wd u 2 : Int), .int .u64 (wd u 3 : Int)]) rfl rfl (fun g => fun e => D6_7 h6 g e.symm), D6_7.keep rfl rfl, setCells_in hO (fun c => absurd c (Nat.not_lt.2 (B6.new h6))) [.int .u64 (wd u 0 : Int), .int .u64 (wd u 1 : Int), .int .u64 (wd u 2 : Int), .int .u64 (wd u 3 : Int)]⟩
    simp only [Act.put, List.setIfInBounds_toArray, List.set_cons_zero, List.set_cons_succ]
  · intro l a wr hI hl hd K' hK
    obtain ⟨u24, u25, u26, u27, u28, u29, u11, u12, b11, b12, ha, s0, s1, s2, s3, s4, s5, B6, B7, D6_7, hO⟩ := hI
    simp only [Act.put, List.setIfInBounds_toArray, List.set_cons_zero, List.set_cons_succ] at ha
    have h7 := hd 7 (by decide)
    have q7 := B7.ptr h7
    have q5 := s5 (hd 5 (by decide))
    subst ha q7 q5
    obtain ⟨⟨m0, m1, m2, m3⟩, fz, lt⟩ := zero_cells (B7.was h7 hl)
    go_simp
    refine hK.out _ _ ⟨_, _, _, _, _, _, _, _, _, _, ?_, s0.keep rfl, s1.keep rfl, s2.keep rfl, s3.keep rfl, s4.keep rfl, s5.keep rfl, B6.far (vs := [.int .u64 (wd v 0 : Int), .int .u64 (wd v 1 : Int), .int .u64 (wd v 2 : Int), .int .u64 (wd v 3 : Int)]) rfl rfl (fun g => D6_7 g h7), B7.put hl h7 rfl rfl, D6_7.keep rfl rfl, setCells_in hO (fun c => absurd c (Nat.not_lt.2 (B7.new h7))) [.int .u64 (wd v 0 : Int), .int .u64 (wd v 1 : Int), .int .u64 (wd v 2 : Int), .int .u64 (wd v 3 : Int)]⟩
    simp only [Act.put, List.setIfInBounds_toArray, List.set_cons_zero, List.set_cons_succ]
  · intro l a wc hI hd
    obtain ⟨u24, u25, u26, u27, u28, u29, u11, u12, b11, b12, ha, s0, s1, s2, s3, s4, s5, B6, B7, D6_7, hO⟩ := hI
    simp only [Act.put, List.setIfInBounds_toArray, List.set_cons_zero, List.set_cons_succ] at ha
    have q0 := s0 (hd 0 (by decide))
    have q1 := s1 (hd 1 (by decide))
    have q2 := s2 (hd 2 (by decide))
    have q3 := s3 (hd 3 (by decide))
    have q4 := s4 (hd 4 (by decide))
    have q5 := s5 (hd 5 (by decide))
    have q6 := B6.ptr (hd 6 (by decide))
    have n11 : wc.heap[b11]? = some (.cells #[.int .u64 (wd u 0 : Int), .int .u64 (wd u 1 : Int), .int .u64 (wd u 2 : Int), .int .u64 (wd u 3 : Int)] 24) := B6.now (hd 6 (by decide)) (hd 8 (by decide))
    have q7 := B7.ptr (hd 7 (by decide))
    have n12 : wc.heap[b12]? = some (.cells #[.int .u64 (wd v 0 : Int), .int .u64 (wd v 1 : Int), .int .u64 (wd v 2 : Int), .int .u64 (wd v 3 : Int)] 24) := B7.now (hd 7 (by decide)) (hd 9 (by decide))
    subst ha q0 q1 q2 q3 q4 q5 q6 q7
    clear hd s0 s1 s2 s3 s4 s5 B6 B7 D6_7
    have HOc := Lib.hid hO
    have HT9 := Lib.hid (HTW.out wc hO)
    have HFc := Lib.hid (hO.heap HF0.out (fun c => c))
    have HAc := Lib.hid (show NumAt wc w.heap.size n1 from hO.heap HA0.out (fun c => c))
    have HUc := Lib.hid n11
    have HVc := Lib.hid n12
    have HK9 : Hid (∀ W, Off (fun _ => False) wc W → (W.cell? ⟨u0.heap.size, 0, none⟩ = some (.int .i64 id) ∧ W.cell? ⟨u0.heap.size, 1, none⟩ = some (.int .u64 (wd p 0 : Int)) ∧ W.cell? ⟨u0.heap.size, 2, none⟩ = some (.int .u64 (wd p 1 : Int)) ∧ W.cell? ⟨u0.heap.size, 3, none⟩ = some (.int .u64 (wd p 2 : Int)) ∧ W.cell? ⟨u0.heap.size, 4, none⟩ = some (.int .u64 (wd p 3 : Int)) ∧ W.cell? ⟨u0.heap.size, 5, none⟩ = some (.int .u64 (i : Int)) ∧ W.cell? ⟨u0.heap.size, 6, none⟩ = some (.int .u64 (wd r 0 : Int)) ∧ W.cell? ⟨u0.heap.size, 7, none⟩ = some (.int .u64 (wd r 1 : Int)) ∧ W.cell? ⟨u0.heap.size, 8, none⟩ = some (.int .u64 (wd r 2 : Int)) ∧ W.cell? ⟨u0.heap.size, 9, none⟩ = some (.int .u64 (wd r 3 : Int)) ∧ W.cell? ⟨u0.heap.size, 10, none⟩ = some (.int .u64 (wd s 0 : Int)) ∧ W.cell? ⟨u0.heap.size, 11, none⟩ = some (.int .u64 (wd s 1 : Int)) ∧ W.cell? ⟨u0.heap.size, 12, none⟩ = some (.int .u64 (wd s 2 : Int)) ∧ W.cell? ⟨u0.heap.size, 13, none⟩ = some (.int .u64 (wd s 3 : Int))) ∧ (W.cell? ⟨w.heap.size, 0, none⟩ = some (.int .u64 (wd n1 0 : Int)) ∧ W.cell? ⟨w.heap.size, 1, none⟩ = some (.int .u64 (wd n1 1 : Int)) ∧ W.cell? ⟨w.heap.size, 2, none⟩ = some (.int .u64 (wd n1 2 : Int)) ∧ W.cell? ⟨w.heap.size, 3, none⟩ = some (.int .u64 (wd n1 3 : Int))) ∧ (W.cell? ⟨b11, 0, none⟩ = some (.int .u64 (wd u 0 : Int)) ∧ W.cell? ⟨b11, 1, none⟩ = some (.int .u64 (wd u 1 : Int)) ∧ W.cell? ⟨b11, 2, none⟩ = some (.int .u64 (wd u 2 : Int)) ∧ W.cell? ⟨b11, 3, none⟩ = some (.int .u64 (wd u 3 : Int))) ∧ (W.cell? ⟨b12, 0, none⟩ = some (.int .u64 (wd v 0 : Int)) ∧ W.cell? ⟨b12, 1, none⟩ = some (.int .u64 (wd v 1 : Int)) ∧ W.cell? ⟨b12, 2, none⟩ = some (.int .u64 (wd v 2 : Int)) ∧ W.cell? ⟨b12, 3, none⟩ = some (.int .u64 (wd v 3 : Int))) ∧ Off (fun _ => False) wc W) := Lib.hid (fun W h => ⟨fv_cells (h.heap HFc.out (fun c => c)), Four.off HAc.out.four h, cells4 (h.heap HUc.out (fun c => c)), cells4 (h.heap HVc.out (fun c => c)), h⟩)
    clear hO n11 n12 FU FV1 HK HW0 HF0 HP0 HX0 HY0 HA0
    go_upto_region 3 with fail
    have hS := HK9.out wc.drew (Off.refl _ wc).drew
    have hO9 := hS.2.2.2.2
    have hO10 := Off.refl (fun _ => False) wc
    go_region_held3 (fun w' => (w'.cell? ⟨u0.heap.size, 0, none⟩ = some (.int .i64 id) ∧ w'.cell? ⟨u0.heap.size, 1, none⟩ = some (.int .u64 (wd p 0 : Int)) ∧ w'.cell? ⟨u0.heap.size, 2, none⟩ = some (.int .u64 (wd p 1 : Int)) ∧ w'.cell? ⟨u0.heap.size, 3, none⟩ = some (.int .u64 (wd p 2 : Int)) ∧ w'.cell? ⟨u0.heap.size, 4, none⟩ = some (.int .u64 (wd p 3 : Int)) ∧ w'.cell? ⟨u0.heap.size, 5, none⟩ = some (.int .u64 (i : Int)) ∧ w'.cell? ⟨u0.heap.size, 6, none⟩ = some (.int .u64 (wd r 0 : Int)) ∧ w'.cell? ⟨u0.heap.size, 7, none⟩ = some (.int .u64 (wd r 1 : Int)) ∧ w'.cell? ⟨u0.heap.size, 8, none⟩ = some (.int .u64 (wd r 2 : Int)) ∧ w'.cell? ⟨u0.heap.size, 9, none⟩ = some (.int .u64 (wd r 3 : Int)) ∧ w'.cell? ⟨u0.heap.size, 10, none⟩ = some (.int .u64 (wd s 0 : Int)) ∧ w'.cell? ⟨u0.heap.size, 11, none⟩ = some (.int .u64 (wd s 1 : Int)) ∧ w'.cell? ⟨u0.heap.size, 12, none⟩ = some (.int .u64 (wd s 2 : Int)) ∧ w'.cell? ⟨u0.heap.size, 13, none⟩ = some (.int .u64 (wd s 3 : Int))) ∧ (w'.cell? ⟨w.heap.size, 0, none⟩ = some (.int .u64 (wd n1 0 : Int)) ∧ w'.cell? ⟨w.heap.size, 1, none⟩ = some (.int .u64 (wd n1 1 : Int)) ∧ w'.cell? ⟨w.heap.size, 2, none⟩ = some (.int .u64 (wd n1 2 : Int)) ∧ w'.cell? ⟨w.heap.size, 3, none⟩ = some (.int .u64 (wd n1 3 : Int))) ∧ (w'.cell? ⟨b11, 0, none⟩ = some (.int .u64 (wd u 0 : Int)) ∧ w'.cell? ⟨b11, 1, none⟩ = some (.int .u64 (wd u 1 : Int)) ∧ w'.cell? ⟨b11, 2, none⟩ = some (.int .u64 (wd u 2 : Int)) ∧ w'.cell? ⟨b11, 3, none⟩ = some (.int .u64 (wd u 3 : Int))) ∧ (w'.cell? ⟨b12, 0, none⟩ = some (.int .u64 (wd v 0 : Int)) ∧ w'.cell? ⟨b12, 1, none⟩ = some (.int .u64 (wd v 1 : Int)) ∧ w'.cell? ⟨b12, 2, none⟩ = some (.int .u64 (wd v 2 : Int)) ∧ w'.cell? ⟨b12, 3, none⟩ = some (.int .u64 (wd v 3 : Int))) ∧ Off (fun _ => False) wc w')
      ((refine HK9.out _ ?_; repeat' (first | with_reducible assumption | with_reducible refine Off.drew ?_ | with_reducible refine Off.alloc ?_ _ | with_reducible refine Off.store ?_ (by omega) _ _)))
      (first
        | (go_at_call 12; refine (held_w HT9.out FMUL.out (by repeat' (first | with_reducible assumption | with_reducible refine Off.drew ?_ | with_reducible refine Off.alloc ?_ _ | with_reducible refine Off.store ?_ (by omega) _ _))).mono ?_; rintro e w7 ⟨rfl, hO9, hOW⟩; have hS := HK9.out _ hO9)
        | (go_at_call 15; refine (held_w HT9.out FADD.out (by repeat' (first | with_reducible assumption | with_reducible refine Off.drew ?_ | with_reducible refine Off.alloc ?_ _ | with_reducible refine Off.store ?_ (by omega) _ _))).mono ?_; rintro e w7 ⟨rfl, hO9, hOW⟩; have hS := HK9.out _ hO9)
        | (go_at_call 17; refine (held_w HT9.out FSUB.out (by repeat' (first | with_reducible assumption | with_reducible refine Off.drew ?_ | with_reducible refine Off.alloc ?_ _ | with_reducible refine Off.store ?_ (by omega) _ _))).mono ?_; rintro e w7 ⟨rfl, hO9, hOW⟩; have hS := HK9.out _ hO9)
        | (go_at_call 19; refine (held_w HT9.out FNEG.out (by repeat' (first | with_reducible assumption | with_reducible refine Off.drew ?_ | with_reducible refine Off.alloc ?_ _ | with_reducible refine Off.store ?_ (by omega) _ _))).mono ?_; rintro e w7 ⟨rfl, hO9, hOW⟩; have hS := HK9.out _ hO9)
        | (go_at_call 14; refine (held_w HT9.out FSQ.out (by repeat' (first | with_reducible assumption | with_reducible refine Off.drew ?_ | with_reducible refine Off.alloc ?_ _ | with_reducible refine Off.store ?_ (by omega) _ _))).mono ?_; rintro e w7 ⟨rfl, hO9, hOW⟩; have hS := HK9.out _ hO9)
        | (go_at_call 20; refine (held_w HT9.out FTO.out (by repeat' (first | with_reducible assumption | with_reducible refine Off.drew ?_ | with_reducible refine Off.alloc ?_ _ | with_reducible refine Off.store ?_ (by omega) _ _))).mono ?_; rintro e w7 ⟨rfl, hO9, hOW⟩; have hS := HK9.out _ hO9)
        | (go_at_call 21; refine (held_w HT9.out FFR.out (by repeat' (first | with_reducible assumption | with_reducible refine Off.drew ?_ | with_reducible refine Off.alloc ?_ _ | with_reducible refine Off.store ?_ (by omega) _ _))).mono ?_; rintro e w7 ⟨rfl, hO9, hOW⟩; have hS := HK9.out _ hO9))
    go_wp2
    obtain ⟨W9, hW9⟩ : ∃ W9, W9 = w7.alloc (.cells #[.int .u64 (wd c0 0 : Int), .int .u64 (wd c0 1 : Int), .int .u64 (wd c0 2 : Int), .int .u64 (wd c0 3 : Int), .int .u64 (wd c1 0 : Int), .int .u64 (wd c1 1 : Int), .int .u64 (wd c1 2 : Int), .int .u64 (wd c1 3 : Int), .int .u64 (wd c2 0 : Int), .int .u64 (wd c2 1 : Int), .int .u64 (wd c2 2 : Int), .int .u64 (wd c2 3 : Int), .int .u64 (wd c3 0 : Int), .int .u64 (wd c3 1 : Int), .int .u64 (wd c3 2 : Int), .int .u64 (wd c3 3 : Int), .int .u64 (wd c4 0 : Int), .int .u64 (wd c4 1 : Int), .int .u64 (wd c4 2 : Int), .int .u64 (wd c4 3 : Int), .int .u64 (wd c5 0 : Int), .int .u64 (wd c5 1 : Int), .int .u64 (wd c5 2 : Int), .int .u64 (wd c5 3 : Int), .int .u64 (wd c6 0 : Int), .int .u64 (wd c6 1 : Int), .int .u64 (wd c6 2 : Int), .int .u64 (wd c6 3 : Int)] 24) := ⟨_, rfl⟩
    obtain ⟨sb, hsb⟩ : ∃ sb, sb = w7.heap.size := ⟨_, rfl⟩
    have h9 : Off (fun _ => False) wc W9 := by rw [hW9]; exact hO9.alloc _
    have HSL := Lib.hid (show W9.heap[sb]? = some (.cells #[.int .u64 (wd c0 0 : Int), .int .u64 (wd c0 1 : Int), .int .u64 (wd c0 2 : Int), .int .u64 (wd c0 3 : Int), .int .u64 (wd c1 0 : Int), .int .u64 (wd c1 1 : Int), .int .u64 (wd c1 2 : Int), .int .u64 (wd c1 3 : Int), .int .u64 (wd c2 0 : Int), .int .u64 (wd c2 1 : Int), .int .u64 (wd c2 2 : Int), .int .u64 (wd c2 3 : Int), .int .u64 (wd c3 0 : Int), .int .u64 (wd c3 1 : Int), .int .u64 (wd c3 2 : Int), .int .u64 (wd c3 3 : Int), .int .u64 (wd c4 0 : Int), .int .u64 (wd c4 1 : Int), .int .u64 (wd c4 2 : Int), .int .u64 (wd c4 3 : Int), .int .u64 (wd c5 0 : Int), .int .u64 (wd c5 1 : Int), .int .u64 (wd c5 2 : Int), .int .u64 (wd c5 3 : Int), .int .u64 (wd c6 0 : Int), .int .u64 (wd c6 1 : Int), .int .u64 (wd c6 2 : Int), .int .u64 (wd c6 3 : Int)] 24) by rw [hW9, hsb]; exact heap_new' rfl _)
    have HF9 := Lib.hid (h9.heap HFc.out (fun c => c))
    have HT := Lib.hid (HT9.out.off h9)
    have HO9 := Lib.hid ((HO0.out.trans HOc.out (fun _ _ c => c)).trans h9 (fun _ _ c => c))
    rw [← hW9, ← hsb]
    clear hW9 hsb h9
    go_loopw [56] (fun i' wr => ∃ k : Nat, k ≤ 7 ∧ i' = .int .i64 k ∧ Off (fun _ => False) W9 wr) (fun i' _ => 7 - (intOf i').toNat)
    case atStart => exact ⟨0, by omega, rfl, Off.refl _ _⟩
    case round =>
      obtain ⟨k, hk, rfl, hR⟩ := hrel
      by_cases hlt : k < 7
      · have hf := hR.heap HF9.out (fun c => c)
        have hs := hR.heap HSL.out (fun c => c)
        have lf := heap_lt hf
        have ls := heap_lt hs
        obtain ⟨f0, f1, f2, f3, f4, f5, f6, f7, f8, f9, f10, f11, f12, f13⟩ := fv_cells hf
        have sc := fun j => cell_of_heap hs j
        have HR := Lib.hid hR
        clear hf hs hR hk
        rcases below7 hlt with rfl | rfl | rfl | rfl | rfl | rfl | rfl
        · have m0 := sc 0
          have m1 := sc 1
          have m2 := sc 2
          have m3 := sc 3
          simp at m0 m1 m2 m3
          clear sc
          go_wp2_with fail
          refine (FCON.out c0 B0.out _).mono ?_
          rintro e u9 ⟨rfl, hO9⟩
          have HO10 := Lib.hid (HR.out.trans (((Off.refl _ wr).alloc _).trans hO9 (fun _ _ c => c)) (fun _ _ c => c))
          clear hO9
          go_wp2
          go_roundw
          case rel => exact ⟨1, by omega, rfl, HO10.out⟩
          case measure => simp [intOf]
        · have m0 := sc 4
          have m1 := sc 5
          have m2 := sc 6
          have m3 := sc 7
          simp at m0 m1 m2 m3
          clear sc
          go_wp2_with fail
          refine (FCON.out c1 B1.out _).mono ?_
          rintro e u9 ⟨rfl, hO9⟩
          have HO10 := Lib.hid (HR.out.trans (((Off.refl _ wr).alloc _).trans hO9 (fun _ _ c => c)) (fun _ _ c => c))
          clear hO9
          go_wp2
          go_roundw
          case rel => exact ⟨2, by omega, rfl, HO10.out⟩
          case measure => simp [intOf]
        · have m0 := sc 8
          have m1 := sc 9
          have m2 := sc 10
          have m3 := sc 11
          simp at m0 m1 m2 m3
          clear sc
          go_wp2_with fail
          refine (FCON.out c2 B2.out _).mono ?_
          rintro e u9 ⟨rfl, hO9⟩
          have HO10 := Lib.hid (HR.out.trans (((Off.refl _ wr).alloc _).trans hO9 (fun _ _ c => c)) (fun _ _ c => c))
          clear hO9
          go_wp2
          go_roundw
          case rel => exact ⟨3, by omega, rfl, HO10.out⟩
          case measure => simp [intOf]
        · have m0 := sc 12
          have m1 := sc 13
          have m2 := sc 14
          have m3 := sc 15
          simp at m0 m1 m2 m3
          clear sc
          go_wp2_with fail
          refine (FCON.out c3 B3.out _).mono ?_
          rintro e u9 ⟨rfl, hO9⟩
          have HO10 := Lib.hid (HR.out.trans (((Off.refl _ wr).alloc _).trans hO9 (fun _ _ c => c)) (fun _ _ c => c))
          clear hO9
          go_wp2
          go_roundw
          case rel => exact ⟨4, by omega, rfl, HO10.out⟩
          case measure => simp [intOf]
        · have m0 := sc 16
          have m1 := sc 17
          have m2 := sc 18
          have m3 := sc 19
          simp at m0 m1 m2 m3
          clear sc
          go_wp2_with fail
          refine (FCON.out c4 B4.out _).mono ?_
          rintro e u9 ⟨rfl, hO9⟩
          have HO10 := Lib.hid (HR.out.trans (((Off.refl _ wr).alloc _).trans hO9 (fun _ _ c => c)) (fun _ _ c => c))
          clear hO9
          go_wp2
          go_roundw
          case rel => exact ⟨5, by omega, rfl, HO10.out⟩
          case measure => simp [intOf]
        · have m0 := sc 20
          have m1 := sc 21
          have m2 := sc 22
          have m3 := sc 23
          simp at m0 m1 m2 m3
          clear sc
          go_wp2_with fail
          refine (FCON.out c5 B5.out _).mono ?_
          rintro e u9 ⟨rfl, hO9⟩
          have HO10 := Lib.hid (HR.out.trans (((Off.refl _ wr).alloc _).trans hO9 (fun _ _ c => c)) (fun _ _ c => c))
          clear hO9
          go_wp2
          go_roundw
          case rel => exact ⟨6, by omega, rfl, HO10.out⟩
          case measure => simp [intOf]
        · have m0 := sc 24
          have m1 := sc 25
          have m2 := sc 26
          have m3 := sc 27
          simp at m0 m1 m2 m3
          clear sc
          go_wp2_with fail
          refine (FCON.out c6 B6.out _).mono ?_
          rintro e u9 ⟨rfl, hO9⟩
          have HO10 := Lib.hid (HR.out.trans (((Off.refl _ wr).alloc _).trans hO9 (fun _ _ c => c)) (fun _ _ c => c))
          clear hO9
          go_wp2
          go_roundw
          case rel => exact ⟨7, by omega, rfl, HO10.out⟩
          case measure => simp [intOf]
      · obtain rfl : k = 7 := by omega
        have HR := Lib.hid hR
        clear hR hk
        go_wp2_with fail
        refine (FAL.out _ (HT.out.off HR.out)).mono ?_
        rintro e u9 ⟨rfl, hO9⟩
        go_wp2
        go_ret
        exact ⟨rfl, (HO9.out.trans HR.out (fun _ _ c => c)).trans hO9 (fun _ _ c => c)⟩

theorem door_met (os : Os) (args : Array Value) : laidMetH Tryd.prog [("sharecore/field.fields", Rows.laid_sharecore_field_fields)] ((World.doorLaid Tryd.prog 400 os).forCall (fun _ _ => 0) ⟨#[], args, []⟩).memory :=
  laidMetH_of_parts3 (fuel := 8) (laidMet_of_run' 8 (by kernel_rfl) (by kernel_rfl)) (by kernel_rfl) (by kernel_rfl)

set_option maxRecDepth 100000 in
theorem lifted (os : Os) (started : os.Started) (H : Type) (enc : TypeId × Value → H) :
    ReturnsInHanded {} Tryd.checked os 8 .any (fun w args => (Rows.montStaysBelowSpec.pre enc Tryd.prog Tryd.f8 [] false w args ∧ laidMetH Tryd.prog [("sharecore/field.fields", Rows.laid_sharecore_field_fields)] w) ∧ sizedMet enc Tryd.prog Tryd.f8 (OpenSpec.ofChange Rows.montStaysBelowSpec) false w args)
      (Rows.montStaysBelowSpec.post enc Tryd.prog Tryd.f8 false true false false) := by
  refine returnsInHanded_of_change_and (C := Tryd.checked) (X := fun w _ => laidMetH Tryd.prog [("sharecore/field.fields", Rows.laid_sharecore_field_fields)] w) (fun _ _ _ hh h => h.of_heap hh) own started (by kernel_rfl) Tryd.func8
    (ChangeSpec.witness_shaped (enc := enc) (C := Tryd.checked) (os := os) (X := fun w _ => laidMetH Tryd.prog [("sharecore/field.fields", Rows.laid_sharecore_field_fields)] w) false (World.doorLaid Tryd.prog 400 os) #[.bool false, .agg #[.int .u64 0, .int .u64 0, .int .u64 0, .int .u64 0], .agg #[.int .u64 0, .int .u64 0, .int .u64 0, .int .u64 0]] 8 rfl (World.shaped_of_RefB (by kernel_rfl) (by kernel_rfl)) (by kernel_rfl) (by kernel_rfl) (by kernel_rfl) (door_met os _)) ?_
  intro W base args ds gs before hval0 hW _ _ hL _
  have hval : ∀ (j : Nat) t v, Tryd.f8.params[j]? = some t → args[j]? = some v → Value.okWide Tryd.prog W .any base t v := hval0
  have hW' := hW
  obtain ⟨p, q, hA0, hV, rfl, hfz, hnd⟩ := hW
  have hA : DataW.TrodAll enc Tryd.prog W 0 (fun _ => true) true Tryd.f8.params.toList args.toList ds p := hA0
  rw [Tryd.params8] at hA hval
  obtain ⟨v0, vs0, d0, ds0, p0, q0, hargs, rfl, rfl, h0, r0⟩ := trodAll_cons hA
  obtain ⟨v1, vs1, d1, ds1, p1, q1, rfl, rfl, rfl, h1, r1⟩ := trodAll_cons r0
  obtain ⟨v2, vs2, d2, ds2, p2, q2, rfl, rfl, rfl, h2, r2⟩ := trodAll_cons r1
  obtain ⟨rfl, rfl, rfl⟩ := trodAll_nil r2
  obtain rfl : args = #[v0, v1, v2] := by cases args; simp_all
  obtain ⟨rfl, rfl⟩ := trodVars_none hV
  obtain ⟨i0, rfl, rfl, rfl⟩ := open_bool Tryd.underlying4 (hval 0 4 v0 rfl rfl) h0
  have w0 := trivial
  have k1 := h1
  have lt1 : ∀ x ∈ p1, x.block < W.heap.size := by obtain ⟨m, hm⟩ := k1; exact DataW.trod_lt m _ _ _ hm
  obtain ⟨n1, w1, rfl⟩ := open_vec (hval 1 23 v1 rfl rfl) h1
  have k2 := h2
  have lt2 : ∀ x ∈ p2, x.block < W.heap.size := by obtain ⟨m, hm⟩ := k2; exact DataW.trod_lt m _ _ _ hm
  obtain ⟨n2, w2, rfl⟩ := open_vec (hval 2 23 v2 rfl rfl) h2
  have hT := tab_of_laid hL
  clear hA0 hval0
  refine (walk i0 n1 n2 W w0 w1 w2 hT).mono fun e W' ⟨he, hoff⟩ => ?_
  have bel : Below W.heap.size W W' := hoff.below (Nat.le_refl _) (fun _ _ c => c)
  subst he
  exact ⟨_, rfl, _, _, _, [], _, [], hW', trodAll_mk1 (shut_bool Tryd.underlying4 _), (trodAll_cons_mk (shut_bool Tryd.underlying4 _) (trodAll_cons_mk (Below.trod laidOut (by kernel_rfl) (of_decide_eq_true (by kernel_rfl)) k1 bel lt1) (trodAll_cons_mk (Below.trod laidOut (by kernel_rfl) (of_decide_eq_true (by kernel_rfl)) k2 bel lt2) trodAll_mk0))), rfl, bel.frame _, fun h => by cases h⟩

theorem over : Rows.montStaysBelowRow.holds Tryd.pinned (OpenSpec.ofChange Rows.montStaysBelowSpec) :=
  OpenClaim.holds_of_wide 8 Tryd.f8 rfl rfl rfl rfl rfl rfl rfl ⟨rfl, rfl, rfl, rfl, rfl⟩ rfl rfl rfl rfl rfl (by kernel_rfl) Tryd.func8 (by kernel_rfl)
    (of_decide_eq_true (by kernel_rfl)) (by unfold Func.isWrapper; first | (rw [if_pos (by decide +kernel)]; kernel_rfl) | (rw [if_neg (by decide +kernel)]; exact ⟨rfl, rfl⟩))
    (fun os started H enc _ => lifted os started H enc)

theorem proved : Rows.MontStaysBelowCardSaid :=
  Claim7.holds_tied_plain_at .later [] [.data] true (true, "4c6eef73345a3410bd4bab3dc88cb1ebf74aad4678ff4b3ba42a5157f493b774") false
    over (fun _ h => by cases h) (by kernel_rfl) (fun _ h => by cases h) montStaysBelow_row_tie rfl ⟨rfl, rfl⟩ (by kernel_rfl) rfl
    (fun f fn hf hfn => by
      obtain rfl : f = 8 := Option.some.inj ((show Tryd.prog.funcNamed "sharecore/sharecorelaw05.MontStaysBelow" = some 8 by kernel_rfl).symm.trans hf) |>.symm
      obtain rfl : fn = Tryd.f8 := (Option.some.inj (Tryd.func8.symm.trans hfn)).symm
      exact ⟨by kernel_rfl, fun j t ht => by
        rw [Tryd.params8] at ht
        have hm : t ∈ [4, 23] := by simpa using Array.mem_of_getElem? ht
        have hall : ([4, 23].all fun u => !Tryd.prog.wantsStandIn u) = true := by kernel_rfl
        exact (show Tryd.prog.wantsStandIn t = false by simpa using List.all_eq_true.1 hall t hm)⟩)
    (by kernel_rfl)
#print axioms proved
end Go.Proofs.YtpekmoegmdfmpaaDoor.montStaysBelow
