/-
  For every field and two numbers, the examples of the chapter hold, and Mul and Square of their forms are the forms of their products: the statement of P5.1. No condition.
-/
import Derived.Test.YtpekmoegmdfmpaaDoorRows
import Derived.Test.YtpekmoegmdfmpaaDoorTie
import Derived.Test.YtpekmoegmdfmpaaDoorCards
import Derived.LaidMore
import Derived.LaidHandle
import Derived.SevenTiedAt
import Derived.Stop.Joined
import Derived.JoinedOf
import Derived.Test.YtpekmoegmdfmpaaDoorLimbOpen
import Derived.Test.YtpekmoegmdfmpaaDoorMontOpen
import Derived.Test.YtpekmoegmdfmpaaDoorFieldTab
import Derived.Test.YtpekmoegmdfmpaaDoorFieldHeld
import Derived.Test.YtpekmoegmdfmpaaDoorMontOps
import Derived.Test.YtpekmoegmdfmpaaDoorMontAlive
import Derived.Test.YtpekmoegmdfmpaaDoorInvMem
import Derived.WalkKit
import Derived.ProofKit
import Derived.OpenShut
import Derived.ShutString
import Derived.ChangeOld
import Derived.Below
namespace Go.Proofs.YtpekmoegmdfmpaaDoor.montMultiplies
open Go.ChangeShapes Go.WideShapes Go.ChangeAt Go.RowKit
set_option linter.unusedVariables false

theorem own : ownKnob Tryd.prog.godebug = none := by kernel_rfl
theorem laidOut : laidOutB Tryd.prog = true := by kernel_rfl

set_option maxHeartbeats 4000000 in
theorem walk (i0 : Bool) (n1 : Nat) (n2 : Nat) (w : World) (w0 : True) (w1 : n1 < R256) (w2 : n2 < R256) (hT : TabAt w) :
    Calls Tryd.prog 3 #[.bool i0, V n1, V n2] w fun e w' => e = .returned (.bool true) ∧ Off (fun _ => False) w w' := by
  obtain ⟨id, p, i, r, s, hF, hid⟩ := fld_of i0
  have hp := hF.mp.lt
  have h1 := hF.mp.one
  have qP := fun W hT => pair_any i0 hF hid n1 n2 w1 w2 W hT
  obtain ⟨x, hx⟩ : ∃ x, x = n1 % p := ⟨_, rfl⟩
  have hxp : x < p := by rw [hx]; exact Nat.mod_lt _ (by omega)
  obtain ⟨y, hy⟩ : ∃ y, y = n2 % p := ⟨_, rfl⟩
  have hyp : y < p := by rw [hy]; exact Nat.mod_lt _ (by omega)
  rw [← hx, ← hy] at qP
  have FP := Lib.hid qP
  obtain ⟨v, hv⟩ : ∃ v, v = fm p y := ⟨_, rfl⟩
  have hvp : v < p := by rw [hv]; exact fm_lt (by omega) _
  obtain ⟨u, hu⟩ : ∃ u, u = fm p x := ⟨_, rfl⟩
  have hup : u < p := by rw [hu]; exact fm_lt (by omega) _
  obtain ⟨m, hm⟩ : ∃ m, m = x * y % p := ⟨_, rfl⟩
  obtain ⟨q, hq⟩ : ∃ q, q = x * x % p := ⟨_, rfl⟩
  obtain ⟨a, ha⟩ : ∃ a, a = fm p m := ⟨_, rfl⟩
  obtain ⟨b, hb⟩ : ∃ b, b = fm p q := ⟨_, rfl⟩
  have FU : Hid (∀ W, TabAt W → Calls Tryd.prog 10 #[V p, V x] W fun e w' => e = .returned (V u) ∧ Off (fun _ => False) W w') := Lib.hid (fun W hT => by have h := lform_any p x hp h1 (by have := hxp; omega) W; rw [← hu] at h; exact h)
  have FV1 : Hid (∀ W, TabAt W → Calls Tryd.prog 10 #[V p, V y] W fun e w' => e = .returned (V v) ∧ Off (fun _ => False) W w') := Lib.hid (fun W hT => by have h := lform_any p y hp h1 (by have := hyp; omega) W; rw [← hv] at h; exact h)
  have FA : Hid (∀ W, TabAt W → Calls Tryd.prog 10 #[V p, V m] W fun e w' => e = .returned (V a) ∧ Off (fun _ => False) W w') := Lib.hid (fun W hT => by have h := lform_any p m hp h1 (by have := (show m < p by rw [hm]; exact Nat.mod_lt _ (by omega)); omega) W; rw [← ha] at h; exact h)
  have FB : Hid (∀ W, TabAt W → Calls Tryd.prog 10 #[V p, V q] W fun e w' => e = .returned (V b) ∧ Off (fun _ => False) W w') := Lib.hid (fun W hT => by have h := lform_any p q hp h1 (by have := (show q < p by rw [hq]; exact Nat.mod_lt _ (by omega)); omega) W; rw [← hb] at h; exact h)
  have FXY : Hid (∀ W, TabAt W → Calls Tryd.prog 13 #[V p, V x, V y] W fun e w' => e = .returned (V m) ∧ Off (fun _ => False) W w') := Lib.hid (fun W hT => by have h := mod_mul p x y hp h1 hxp (by omega) W; rw [← hm] at h; exact h)
  have FXX : Hid (∀ W, TabAt W → Calls Tryd.prog 13 #[V p, V x, V x] W fun e w' => e = .returned (V q) ∧ Off (fun _ => False) W w') := Lib.hid (fun W hT => by have h := mod_mul p x x hp h1 hxp (by omega) W; rw [← hq] at h; exact h)
  have FMUL : Hid (∀ W, TabAt W → Calls Tryd.prog 12 #[FV id p i r s, V u, V v] W fun e w' => e = .returned (V a) ∧ Off (fun _ => False) W w') := Lib.hid (fun W hT => by have h := mmul_any hF u v (by omega) hvp W; rw [show mm p u v = a by rw [hu, hv, mm_fm hF.mp, ← hm, ← ha]] at h; exact h)
  have FSQ : Hid (∀ W, TabAt W → Calls Tryd.prog 14 #[FV id p i r s, V u] W fun e w' => e = .returned (V b) ∧ Off (fun _ => False) W w') := Lib.hid (fun W hT => by have h := msquare_any hF u hup W; rw [show mm p u u = b by rw [hu, mm_fm hF.mp, ← hq, ← hb]] at h; exact h)
  have FAL : Hid (∀ W, TabAt W → Calls Tryd.prog 11 #[] W fun e w' => e = .returned (.bool true) ∧ Off (fun _ => False) W w') := Lib.hid (fun W hT => by exact malive_any W hT)
  clear qP hp h1 hx hxp hu hup hF hid w0 w1 hy hyp hv hvp w2 hm hq ha hb
  have e1 := equalIn_elem_same
  have e2 := equalIn_same
  go_enter Tryd.func3, Tryd.ntmps3
  go_wp2_with fail
  refine (FP.out _ (hT.off (((Off.refl _ w).alloc _).alloc _))).mono ?_
  rintro e u0 ⟨rfl, hO1⟩
  obtain ⟨W0, hW0⟩ : ∃ W0, W0 = (((u0.alloc (.cells #[.int .i64 id, .int .u64 (wd p 0 : Int), .int .u64 (wd p 1 : Int), .int .u64 (wd p 2 : Int), .int .u64 (wd p 3 : Int), .int .u64 (i : Int), .int .u64 (wd r 0 : Int), .int .u64 (wd r 1 : Int), .int .u64 (wd r 2 : Int), .int .u64 (wd r 3 : Int), .int .u64 (wd s 0 : Int), .int .u64 (wd s 1 : Int), .int .u64 (wd s 2 : Int), .int .u64 (wd s 3 : Int)] 26)).alloc (.cells #[.int .u64 (wd p 0 : Int), .int .u64 (wd p 1 : Int), .int .u64 (wd p 2 : Int), .int .u64 (wd p 3 : Int)] 23)).alloc (.cells #[.int .u64 (wd x 0 : Int), .int .u64 (wd x 1 : Int), .int .u64 (wd x 2 : Int), .int .u64 (wd x 3 : Int)] 23)).alloc (.cells #[.int .u64 (wd y 0 : Int), .int .u64 (wd y 1 : Int), .int .u64 (wd y 2 : Int), .int .u64 (wd y 3 : Int)] 23) := ⟨_, rfl⟩
  have hO : Off (fun _ => False) w W0 := by rw [hW0]; exact (((((((Off.refl _ w).alloc _).alloc _).trans hO1 (fun _ _ c => c)).alloc _).alloc _).alloc _).alloc _
  have HF0 := Lib.hid (show W0.heap[u0.heap.size]? = some (.cells #[.int .i64 id, .int .u64 (wd p 0 : Int), .int .u64 (wd p 1 : Int), .int .u64 (wd p 2 : Int), .int .u64 (wd p 3 : Int), .int .u64 (i : Int), .int .u64 (wd r 0 : Int), .int .u64 (wd r 1 : Int), .int .u64 (wd r 2 : Int), .int .u64 (wd r 3 : Int), .int .u64 (wd s 0 : Int), .int .u64 (wd s 1 : Int), .int .u64 (wd s 2 : Int), .int .u64 (wd s 3 : Int)] 26) by rw [hW0]; exact heap_old' (heap_old' (heap_old' (heap_new' rfl _) _) _) _)
  have HP0 := Lib.hid (show NumAt W0 (u0.heap.size + 1) p by rw [hW0]; exact heap_old' (heap_old' (heap_new' (by simp) _) _) _)
  have HX0 := Lib.hid (show NumAt W0 (u0.heap.size + 1 + 1) x by rw [hW0]; exact heap_old' (heap_new' (by simp) _) _)
  have HY0 := Lib.hid (show NumAt W0 (u0.heap.size + 1 + 1 + 1) y by rw [hW0]; exact heap_new' (by simp) _)
  have HT0 := Lib.hid (hT.off hO)
  have HTW := Lib.hid (fun W (h : Off (fun _ => False) W0 W) => HT0.out.off h)
  have HO0 := Lib.hid hO
  have HW0 := Lib.hid hW0
  have HK : Hid (∀ W, Off (fun _ => False) W0 W → (W.cell? ⟨(u0.heap.size + 1), 0, none⟩ = some (.int .u64 (wd p 0 : Int)) ∧ W.cell? ⟨(u0.heap.size + 1), 1, none⟩ = some (.int .u64 (wd p 1 : Int)) ∧ W.cell? ⟨(u0.heap.size + 1), 2, none⟩ = some (.int .u64 (wd p 2 : Int)) ∧ W.cell? ⟨(u0.heap.size + 1), 3, none⟩ = some (.int .u64 (wd p 3 : Int))) ∧ (W.cell? ⟨(u0.heap.size + 1 + 1), 0, none⟩ = some (.int .u64 (wd x 0 : Int)) ∧ W.cell? ⟨(u0.heap.size + 1 + 1), 1, none⟩ = some (.int .u64 (wd x 1 : Int)) ∧ W.cell? ⟨(u0.heap.size + 1 + 1), 2, none⟩ = some (.int .u64 (wd x 2 : Int)) ∧ W.cell? ⟨(u0.heap.size + 1 + 1), 3, none⟩ = some (.int .u64 (wd x 3 : Int))) ∧ (W.cell? ⟨(u0.heap.size + 1 + 1 + 1), 0, none⟩ = some (.int .u64 (wd y 0 : Int)) ∧ W.cell? ⟨(u0.heap.size + 1 + 1 + 1), 1, none⟩ = some (.int .u64 (wd y 1 : Int)) ∧ W.cell? ⟨(u0.heap.size + 1 + 1 + 1), 2, none⟩ = some (.int .u64 (wd y 2 : Int)) ∧ W.cell? ⟨(u0.heap.size + 1 + 1 + 1), 3, none⟩ = some (.int .u64 (wd y 3 : Int))) ∧ Off (fun _ => False) W0 W) := Lib.hid (fun W h => ⟨Four.off HP0.out.four h, Four.off HX0.out.four h, Four.off HY0.out.four h, h⟩)
  clear hO hO1 hT hW0 FP
  go_upto_region 2 with fail
  rw [← HW0.out]
  refine wp_region_inv (fun a0 l a' w' => ∃ (u22 : Value) (u23 : Value) (u24 : Value) (u25 : Value) (u26 : Value) (u27 : Value) (u11 : Value) (u12 : Value) (b11 : Nat) (b12 : Nat), a' = (Act.put (Act.put (Act.put (Act.put (Act.put (Act.put (Act.put (Act.put a0 (some 22) u22) (some 23) u23) (some 24) u24) (some 25) u25) (some 26) u26) (some 27) u27) (some 11) u11) (some 12) u12) ∧ Slot l 0 u22 (V p) ∧ Slot l 1 u23 (V x) ∧ Slot l 2 u24 (V u) ∧ Slot l 3 u25 (V p) ∧ Slot l 4 u26 (V y) ∧ Slot l 5 u27 (V v) ∧ Blk l 6 8 u11 b11 W0 w' (.cells #[.int .u64 0, .int .u64 0, .int .u64 0, .int .u64 0] 24) (.cells #[.int .u64 (wd u 0 : Int), .int .u64 (wd u 1 : Int), .int .u64 (wd u 2 : Int), .int .u64 (wd u 3 : Int)] 24) ∧ Blk l 7 9 u12 b12 W0 w' (.cells #[.int .u64 0, .int .u64 0, .int .u64 0, .int .u64 0] 24) (.cells #[.int .u64 (wd v 0 : Int), .int .u64 (wd v 1 : Int), .int .u64 (wd v 2 : Int), .int .u64 (wd v 3 : Int)] 24) ∧ Dif l 6 7 b11 b12 ∧ Off (fun _ => False) W0 w') (by kernel_rfl) (by kernel_rfl) ?_ ⟨?_, ?_, ?_, ?_, ?_, ?_, ?_, ?_, ?_, ?_, trivial⟩ ?_
  · refine ⟨undef, undef, undef, undef, undef, undef, undef, undef, 0, 0, ?_, Slot.start _ _ _, Slot.start _ _ _, Slot.start _ _ _, Slot.start _ _ _, Slot.start _ _ _, Slot.start _ _ _, Blk.start _ _ _ _ _ _ _ _, Blk.start _ _ _ _ _ _ _ _, Dif.start _ _ _ _, (Off.refl _ W0).drew⟩
    simp only [Act.put, List.setIfInBounds_toArray, List.set_cons_zero, List.set_cons_succ]
  · intro l a wr hI hl hd K' hK
    obtain ⟨u22, u23, u24, u25, u26, u27, u11, u12, b11, b12, ha, s0, s1, s2, s3, s4, s5, B6, B7, D6_7, hO⟩ := hI
    simp only [Act.put, List.setIfInBounds_toArray, List.set_cons_zero, List.set_cons_succ] at ha
    subst ha
    have hc := HK.out wr hO
    have p0 := hc.1.1
    have p1 := hc.1.2.1
    have p2 := hc.1.2.2.1
    have p3 := hc.1.2.2.2
    clear hc
    go_simp
    refine hK.out _ _ ⟨_, _, _, _, _, _, _, _, _, _, ?_, Slot.new _ _ _, s1.keep rfl, s2.keep rfl, s3.keep rfl, s4.keep rfl, s5.keep rfl, B6.keep (Off.refl _ wr) rfl rfl, B7.keep (Off.refl _ wr) rfl rfl, D6_7.keep rfl rfl, hO⟩
    simp only [Act.put, List.setIfInBounds_toArray, List.set_cons_zero, List.set_cons_succ]
  · intro l a wr hI hl hd K' hK
    obtain ⟨u22, u23, u24, u25, u26, u27, u11, u12, b11, b12, ha, s0, s1, s2, s3, s4, s5, B6, B7, D6_7, hO⟩ := hI
    simp only [Act.put, List.setIfInBounds_toArray, List.set_cons_zero, List.set_cons_succ] at ha
    subst ha
    have hc := HK.out wr hO
    have p0 := hc.2.1.1
    have p1 := hc.2.1.2.1
    have p2 := hc.2.1.2.2.1
    have p3 := hc.2.1.2.2.2
    clear hc
    go_simp
    refine hK.out _ _ ⟨_, _, _, _, _, _, _, _, _, _, ?_, s0.keep rfl, Slot.new _ _ _, s2.keep rfl, s3.keep rfl, s4.keep rfl, s5.keep rfl, B6.keep (Off.refl _ wr) rfl rfl, B7.keep (Off.refl _ wr) rfl rfl, D6_7.keep rfl rfl, hO⟩
    simp only [Act.put, List.setIfInBounds_toArray, List.set_cons_zero, List.set_cons_succ]
  · intro l a wr hI hl hd K' hK
    obtain ⟨u22, u23, u24, u25, u26, u27, u11, u12, b11, b12, ha, s0, s1, s2, s3, s4, s5, B6, B7, D6_7, hO⟩ := hI
    simp only [Act.put, List.setIfInBounds_toArray, List.set_cons_zero, List.set_cons_succ] at ha
    have q0 := s0 (hd 0 (by decide))
    have q1 := s1 (hd 1 (by decide))
    subst ha q0 q1
    go_simp
    refine (held_inv (FU.out wr (HTW.out wr hO)) hO).mono ?_
    rintro e w1 ⟨rfl, hO1, hOW⟩
    go_wp2_with fail
    refine hK.out _ _ ⟨_, _, _, _, _, _, _, _, _, _, ?_, s0.keep rfl, s1.keep rfl, Slot.new _ _ _, s3.keep rfl, s4.keep rfl, s5.keep rfl, B6.keep hOW rfl rfl, B7.keep hOW rfl rfl, D6_7.keep rfl rfl, hO1⟩
    simp only [Act.put, List.setIfInBounds_toArray, List.set_cons_zero, List.set_cons_succ]
  · intro l a wr hI hl hd K' hK
    obtain ⟨u22, u23, u24, u25, u26, u27, u11, u12, b11, b12, ha, s0, s1, s2, s3, s4, s5, B6, B7, D6_7, hO⟩ := hI
    simp only [Act.put, List.setIfInBounds_toArray, List.set_cons_zero, List.set_cons_succ] at ha
    subst ha
    have hc := HK.out wr hO
    have p0 := hc.1.1
    have p1 := hc.1.2.1
    have p2 := hc.1.2.2.1
    have p3 := hc.1.2.2.2
    clear hc
    go_simp
    refine hK.out _ _ ⟨_, _, _, _, _, _, _, _, _, _, ?_, s0.keep rfl, s1.keep rfl, s2.keep rfl, Slot.new _ _ _, s4.keep rfl, s5.keep rfl, B6.keep (Off.refl _ wr) rfl rfl, B7.keep (Off.refl _ wr) rfl rfl, D6_7.keep rfl rfl, hO⟩
    simp only [Act.put, List.setIfInBounds_toArray, List.set_cons_zero, List.set_cons_succ]
  · intro l a wr hI hl hd K' hK
    obtain ⟨u22, u23, u24, u25, u26, u27, u11, u12, b11, b12, ha, s0, s1, s2, s3, s4, s5, B6, B7, D6_7, hO⟩ := hI
    simp only [Act.put, List.setIfInBounds_toArray, List.set_cons_zero, List.set_cons_succ] at ha
    subst ha
    have hc := HK.out wr hO
    have p0 := hc.2.2.1.1
    have p1 := hc.2.2.1.2.1
    have p2 := hc.2.2.1.2.2.1
    have p3 := hc.2.2.1.2.2.2
    clear hc
    go_simp
    refine hK.out _ _ ⟨_, _, _, _, _, _, _, _, _, _, ?_, s0.keep rfl, s1.keep rfl, s2.keep rfl, s3.keep rfl, Slot.new _ _ _, s5.keep rfl, B6.keep (Off.refl _ wr) rfl rfl, B7.keep (Off.refl _ wr) rfl rfl, D6_7.keep rfl rfl, hO⟩
    simp only [Act.put, List.setIfInBounds_toArray, List.set_cons_zero, List.set_cons_succ]
  · intro l a wr hI hl hd K' hK
    obtain ⟨u22, u23, u24, u25, u26, u27, u11, u12, b11, b12, ha, s0, s1, s2, s3, s4, s5, B6, B7, D6_7, hO⟩ := hI
    simp only [Act.put, List.setIfInBounds_toArray, List.set_cons_zero, List.set_cons_succ] at ha
    have q3 := s3 (hd 3 (by decide))
    have q4 := s4 (hd 4 (by decide))
    subst ha q3 q4
    go_simp
    refine (held_inv (FV1.out wr (HTW.out wr hO)) hO).mono ?_
    rintro e w1 ⟨rfl, hO1, hOW⟩
    go_wp2_with fail
    refine hK.out _ _ ⟨_, _, _, _, _, _, _, _, _, _, ?_, s0.keep rfl, s1.keep rfl, s2.keep rfl, s3.keep rfl, s4.keep rfl, Slot.new _ _ _, B6.keep hOW rfl rfl, B7.keep hOW rfl rfl, D6_7.keep rfl rfl, hO1⟩
    simp only [Act.put, List.setIfInBounds_toArray, List.set_cons_zero, List.set_cons_succ]
  · intro l a wr hI hl hd K' hK
    obtain ⟨u22, u23, u24, u25, u26, u27, u11, u12, b11, b12, ha, s0, s1, s2, s3, s4, s5, B6, B7, D6_7, hO⟩ := hI
    simp only [Act.put, List.setIfInBounds_toArray, List.set_cons_zero, List.set_cons_succ] at ha
    subst ha
    go_simp
    refine hK.out _ _ ⟨_, _, _, _, _, _, _, _, _, _, ?_, s0.keep rfl, s1.keep rfl, s2.keep rfl, s3.keep rfl, s4.keep rfl, s5.keep rfl, B6.make hl rfl hO, B7.keep ((Off.refl _ wr).alloc _) rfl rfl, Dif.left B7 rfl, hO.alloc _⟩
    simp only [Act.put, List.setIfInBounds_toArray, List.set_cons_zero, List.set_cons_succ]
  · intro l a wr hI hl hd K' hK
    obtain ⟨u22, u23, u24, u25, u26, u27, u11, u12, b11, b12, ha, s0, s1, s2, s3, s4, s5, B6, B7, D6_7, hO⟩ := hI
    simp only [Act.put, List.setIfInBounds_toArray, List.set_cons_zero, List.set_cons_succ] at ha
    subst ha
    go_simp
    refine hK.out _ _ ⟨_, _, _, _, _, _, _, _, _, _, ?_, s0.keep rfl, s1.keep rfl, s2.keep rfl, s3.keep rfl, s4.keep rfl, s5.keep rfl, B6.keep ((Off.refl _ wr).alloc _) rfl rfl, B7.make hl rfl hO, Dif.right B6 rfl, hO.alloc _⟩
    simp only [Act.put, List.setIfInBounds_toArray, List.set_cons_zero, List.set_cons_succ]
  · intro l a wr hI hl hd K' hK
    obtain ⟨u22, u23, u24, u25, u26, u27, u11, u12, b11, b12, ha, s0, s1, s2, s3, s4, s5, B6, B7, D6_7, hO⟩ := hI
    simp only [Act.put, List.setIfInBounds_toArray, List.set_cons_zero, List.set_cons_succ] at ha
    have h6 := hd 6 (by decide)
    have q6 := B6.ptr h6
    have q2 := s2 (hd 2 (by decide))
    subst ha q6 q2
    obtain ⟨⟨m0, m1, m2, m3⟩, fz, lt⟩ := zero_cells (B6.was h6 hl)
    go_simp
    refine hK.out _ _ ⟨_, _, _, _, _, _, _, _, _, _, ?_, s0.keep rfl, s1.keep rfl, s2.keep rfl, s3.keep rfl, s4.keep rfl, s5.keep rfl, B6.put hl h6 rfl rfl, B7.far (vs := [.int .u64 (wd u 0 : Int), .int .u64 (wd u 1 : Int), .int .u64 (wd u 2 : Int), .int .u64 (wd u 3 : Int)]) rfl rfl (fun g => fun e => D6_7 h6 g e.symm), D6_7.keep rfl rfl, setCells_in hO (fun c => absurd c (Nat.not_lt.2 (B6.new h6))) [.int .u64 (wd u 0 : Int), .int .u64 (wd u 1 : Int), .int .u64 (wd u 2 : Int), .int .u64 (wd u 3 : Int)]⟩
    simp only [Act.put, List.setIfInBounds_toArray, List.set_cons_zero, List.set_cons_succ]
  · intro l a wr hI hl hd K' hK
    obtain ⟨u22, u23, u24, u25, u26, u27, u11, u12, b11, b12, ha, s0, s1, s2, s3, s4, s5, B6, B7, D6_7, hO⟩ := hI
    simp only [Act.put, List.setIfInBounds_toArray, List.set_cons_zero, List.set_cons_succ] at ha
    have h7 := hd 7 (by decide)
    have q7 := B7.ptr h7
    have q5 := s5 (hd 5 (by decide))
    subst ha q7 q5
    obtain ⟨⟨m0, m1, m2, m3⟩, fz, lt⟩ := zero_cells (B7.was h7 hl)
    go_simp
    refine hK.out _ _ ⟨_, _, _, _, _, _, _, _, _, _, ?_, s0.keep rfl, s1.keep rfl, s2.keep rfl, s3.keep rfl, s4.keep rfl, s5.keep rfl, B6.far (vs := [.int .u64 (wd v 0 : Int), .int .u64 (wd v 1 : Int), .int .u64 (wd v 2 : Int), .int .u64 (wd v 3 : Int)]) rfl rfl (fun g => D6_7 g h7), B7.put hl h7 rfl rfl, D6_7.keep rfl rfl, setCells_in hO (fun c => absurd c (Nat.not_lt.2 (B7.new h7))) [.int .u64 (wd v 0 : Int), .int .u64 (wd v 1 : Int), .int .u64 (wd v 2 : Int), .int .u64 (wd v 3 : Int)]⟩
    simp only [Act.put, List.setIfInBounds_toArray, List.set_cons_zero, List.set_cons_succ]
  · intro l a wc hI hd
    obtain ⟨u22, u23, u24, u25, u26, u27, u11, u12, b11, b12, ha, s0, s1, s2, s3, s4, s5, B6, B7, D6_7, hO⟩ := hI
    simp only [Act.put, List.setIfInBounds_toArray, List.set_cons_zero, List.set_cons_succ] at ha
    have q0 := s0 (hd 0 (by decide))
    have q1 := s1 (hd 1 (by decide))
    have q2 := s2 (hd 2 (by decide))
    have q3 := s3 (hd 3 (by decide))
    have q4 := s4 (hd 4 (by decide))
    have q5 := s5 (hd 5 (by decide))
    have q6 := B6.ptr (hd 6 (by decide))
    have n11 : wc.heap[b11]? = some (.cells #[.int .u64 (wd u 0 : Int), .int .u64 (wd u 1 : Int), .int .u64 (wd u 2 : Int), .int .u64 (wd u 3 : Int)] 24) := B6.now (hd 6 (by decide)) (hd 8 (by decide))
    have q7 := B7.ptr (hd 7 (by decide))
    have n12 : wc.heap[b12]? = some (.cells #[.int .u64 (wd v 0 : Int), .int .u64 (wd v 1 : Int), .int .u64 (wd v 2 : Int), .int .u64 (wd v 3 : Int)] 24) := B7.now (hd 7 (by decide)) (hd 9 (by decide))
    subst ha q0 q1 q2 q3 q4 q5 q6 q7
    clear hd s0 s1 s2 s3 s4 s5 B6 B7 D6_7
    have HOc := Lib.hid hO
    have HT9 := Lib.hid (HTW.out wc hO)
    have HFc := Lib.hid (hO.heap HF0.out (fun c => c))
    have HPc := Lib.hid (show NumAt wc (u0.heap.size + 1) p from hO.heap HP0.out (fun c => c))
    have HXc := Lib.hid (show NumAt wc (u0.heap.size + 1 + 1) x from hO.heap HX0.out (fun c => c))
    have HYc := Lib.hid (show NumAt wc (u0.heap.size + 1 + 1 + 1) y from hO.heap HY0.out (fun c => c))
    have HUc := Lib.hid n11
    have HVc := Lib.hid n12
    have HK9 : Hid (∀ W, Off (fun _ => False) wc W → (W.cell? ⟨u0.heap.size, 0, none⟩ = some (.int .i64 id) ∧ W.cell? ⟨u0.heap.size, 1, none⟩ = some (.int .u64 (wd p 0 : Int)) ∧ W.cell? ⟨u0.heap.size, 2, none⟩ = some (.int .u64 (wd p 1 : Int)) ∧ W.cell? ⟨u0.heap.size, 3, none⟩ = some (.int .u64 (wd p 2 : Int)) ∧ W.cell? ⟨u0.heap.size, 4, none⟩ = some (.int .u64 (wd p 3 : Int)) ∧ W.cell? ⟨u0.heap.size, 5, none⟩ = some (.int .u64 (i : Int)) ∧ W.cell? ⟨u0.heap.size, 6, none⟩ = some (.int .u64 (wd r 0 : Int)) ∧ W.cell? ⟨u0.heap.size, 7, none⟩ = some (.int .u64 (wd r 1 : Int)) ∧ W.cell? ⟨u0.heap.size, 8, none⟩ = some (.int .u64 (wd r 2 : Int)) ∧ W.cell? ⟨u0.heap.size, 9, none⟩ = some (.int .u64 (wd r 3 : Int)) ∧ W.cell? ⟨u0.heap.size, 10, none⟩ = some (.int .u64 (wd s 0 : Int)) ∧ W.cell? ⟨u0.heap.size, 11, none⟩ = some (.int .u64 (wd s 1 : Int)) ∧ W.cell? ⟨u0.heap.size, 12, none⟩ = some (.int .u64 (wd s 2 : Int)) ∧ W.cell? ⟨u0.heap.size, 13, none⟩ = some (.int .u64 (wd s 3 : Int))) ∧ (W.cell? ⟨(u0.heap.size + 1), 0, none⟩ = some (.int .u64 (wd p 0 : Int)) ∧ W.cell? ⟨(u0.heap.size + 1), 1, none⟩ = some (.int .u64 (wd p 1 : Int)) ∧ W.cell? ⟨(u0.heap.size + 1), 2, none⟩ = some (.int .u64 (wd p 2 : Int)) ∧ W.cell? ⟨(u0.heap.size + 1), 3, none⟩ = some (.int .u64 (wd p 3 : Int))) ∧ (W.cell? ⟨(u0.heap.size + 1 + 1), 0, none⟩ = some (.int .u64 (wd x 0 : Int)) ∧ W.cell? ⟨(u0.heap.size + 1 + 1), 1, none⟩ = some (.int .u64 (wd x 1 : Int)) ∧ W.cell? ⟨(u0.heap.size + 1 + 1), 2, none⟩ = some (.int .u64 (wd x 2 : Int)) ∧ W.cell? ⟨(u0.heap.size + 1 + 1), 3, none⟩ = some (.int .u64 (wd x 3 : Int))) ∧ (W.cell? ⟨(u0.heap.size + 1 + 1 + 1), 0, none⟩ = some (.int .u64 (wd y 0 : Int)) ∧ W.cell? ⟨(u0.heap.size + 1 + 1 + 1), 1, none⟩ = some (.int .u64 (wd y 1 : Int)) ∧ W.cell? ⟨(u0.heap.size + 1 + 1 + 1), 2, none⟩ = some (.int .u64 (wd y 2 : Int)) ∧ W.cell? ⟨(u0.heap.size + 1 + 1 + 1), 3, none⟩ = some (.int .u64 (wd y 3 : Int))) ∧ (W.cell? ⟨b11, 0, none⟩ = some (.int .u64 (wd u 0 : Int)) ∧ W.cell? ⟨b11, 1, none⟩ = some (.int .u64 (wd u 1 : Int)) ∧ W.cell? ⟨b11, 2, none⟩ = some (.int .u64 (wd u 2 : Int)) ∧ W.cell? ⟨b11, 3, none⟩ = some (.int .u64 (wd u 3 : Int))) ∧ (W.cell? ⟨b12, 0, none⟩ = some (.int .u64 (wd v 0 : Int)) ∧ W.cell? ⟨b12, 1, none⟩ = some (.int .u64 (wd v 1 : Int)) ∧ W.cell? ⟨b12, 2, none⟩ = some (.int .u64 (wd v 2 : Int)) ∧ W.cell? ⟨b12, 3, none⟩ = some (.int .u64 (wd v 3 : Int))) ∧ Off (fun _ => False) wc W) := Lib.hid (fun W h => ⟨fv_cells (h.heap HFc.out (fun c => c)), Four.off HPc.out.four h, Four.off HXc.out.four h, Four.off HYc.out.four h, cells4 (h.heap HUc.out (fun c => c)), cells4 (h.heap HVc.out (fun c => c)), h⟩)
    clear hO n11 n12 FU FV1 HK HW0 HF0 HP0 HX0 HY0
    go_upto_region 3 with fail
    have hS := HK9.out wc.drew (Off.refl _ wc).drew
    have hO9 := hS.2.2.2.2.2.2
    have hO10 := Off.refl (fun _ => False) wc
    go_region_held3 (fun w' => (w'.cell? ⟨u0.heap.size, 0, none⟩ = some (.int .i64 id) ∧ w'.cell? ⟨u0.heap.size, 1, none⟩ = some (.int .u64 (wd p 0 : Int)) ∧ w'.cell? ⟨u0.heap.size, 2, none⟩ = some (.int .u64 (wd p 1 : Int)) ∧ w'.cell? ⟨u0.heap.size, 3, none⟩ = some (.int .u64 (wd p 2 : Int)) ∧ w'.cell? ⟨u0.heap.size, 4, none⟩ = some (.int .u64 (wd p 3 : Int)) ∧ w'.cell? ⟨u0.heap.size, 5, none⟩ = some (.int .u64 (i : Int)) ∧ w'.cell? ⟨u0.heap.size, 6, none⟩ = some (.int .u64 (wd r 0 : Int)) ∧ w'.cell? ⟨u0.heap.size, 7, none⟩ = some (.int .u64 (wd r 1 : Int)) ∧ w'.cell? ⟨u0.heap.size, 8, none⟩ = some (.int .u64 (wd r 2 : Int)) ∧ w'.cell? ⟨u0.heap.size, 9, none⟩ = some (.int .u64 (wd r 3 : Int)) ∧ w'.cell? ⟨u0.heap.size, 10, none⟩ = some (.int .u64 (wd s 0 : Int)) ∧ w'.cell? ⟨u0.heap.size, 11, none⟩ = some (.int .u64 (wd s 1 : Int)) ∧ w'.cell? ⟨u0.heap.size, 12, none⟩ = some (.int .u64 (wd s 2 : Int)) ∧ w'.cell? ⟨u0.heap.size, 13, none⟩ = some (.int .u64 (wd s 3 : Int))) ∧ (w'.cell? ⟨(u0.heap.size + 1), 0, none⟩ = some (.int .u64 (wd p 0 : Int)) ∧ w'.cell? ⟨(u0.heap.size + 1), 1, none⟩ = some (.int .u64 (wd p 1 : Int)) ∧ w'.cell? ⟨(u0.heap.size + 1), 2, none⟩ = some (.int .u64 (wd p 2 : Int)) ∧ w'.cell? ⟨(u0.heap.size + 1), 3, none⟩ = some (.int .u64 (wd p 3 : Int))) ∧ (w'.cell? ⟨(u0.heap.size + 1 + 1), 0, none⟩ = some (.int .u64 (wd x 0 : Int)) ∧ w'.cell? ⟨(u0.heap.size + 1 + 1), 1, none⟩ = some (.int .u64 (wd x 1 : Int)) ∧ w'.cell? ⟨(u0.heap.size + 1 + 1), 2, none⟩ = some (.int .u64 (wd x 2 : Int)) ∧ w'.cell? ⟨(u0.heap.size + 1 + 1), 3, none⟩ = some (.int .u64 (wd x 3 : Int))) ∧ (w'.cell? ⟨(u0.heap.size + 1 + 1 + 1), 0, none⟩ = some (.int .u64 (wd y 0 : Int)) ∧ w'.cell? ⟨(u0.heap.size + 1 + 1 + 1), 1, none⟩ = some (.int .u64 (wd y 1 : Int)) ∧ w'.cell? ⟨(u0.heap.size + 1 + 1 + 1), 2, none⟩ = some (.int .u64 (wd y 2 : Int)) ∧ w'.cell? ⟨(u0.heap.size + 1 + 1 + 1), 3, none⟩ = some (.int .u64 (wd y 3 : Int))) ∧ (w'.cell? ⟨b11, 0, none⟩ = some (.int .u64 (wd u 0 : Int)) ∧ w'.cell? ⟨b11, 1, none⟩ = some (.int .u64 (wd u 1 : Int)) ∧ w'.cell? ⟨b11, 2, none⟩ = some (.int .u64 (wd u 2 : Int)) ∧ w'.cell? ⟨b11, 3, none⟩ = some (.int .u64 (wd u 3 : Int))) ∧ (w'.cell? ⟨b12, 0, none⟩ = some (.int .u64 (wd v 0 : Int)) ∧ w'.cell? ⟨b12, 1, none⟩ = some (.int .u64 (wd v 1 : Int)) ∧ w'.cell? ⟨b12, 2, none⟩ = some (.int .u64 (wd v 2 : Int)) ∧ w'.cell? ⟨b12, 3, none⟩ = some (.int .u64 (wd v 3 : Int))) ∧ Off (fun _ => False) wc w')
      ((refine HK9.out _ ?_; repeat' (first | with_reducible assumption | with_reducible refine Off.drew ?_ | with_reducible refine Off.alloc ?_ _ | with_reducible refine Off.store ?_ (by omega) _ _)))
      (first
        | (go_at_call 11; refine (held_w HT9.out FAL.out (by repeat' (first | with_reducible assumption | with_reducible refine Off.drew ?_ | with_reducible refine Off.alloc ?_ _ | with_reducible refine Off.store ?_ (by omega) _ _))).mono ?_; rintro e w7 ⟨rfl, hO9, hOW⟩; have hS := HK9.out _ hO9)
        | (go_at_call 12; refine (held_w HT9.out FMUL.out (by repeat' (first | with_reducible assumption | with_reducible refine Off.drew ?_ | with_reducible refine Off.alloc ?_ _ | with_reducible refine Off.store ?_ (by omega) _ _))).mono ?_; rintro e w7 ⟨rfl, hO9, hOW⟩; have hS := HK9.out _ hO9)
        | (go_at_call 14; refine (held_w HT9.out FSQ.out (by repeat' (first | with_reducible assumption | with_reducible refine Off.drew ?_ | with_reducible refine Off.alloc ?_ _ | with_reducible refine Off.store ?_ (by omega) _ _))).mono ?_; rintro e w7 ⟨rfl, hO9, hOW⟩; have hS := HK9.out _ hO9)
        | (go_at_call_of 13 (Value.agg #[.int .u64 (wd y 0 : Int), .int .u64 (wd y 1 : Int), .int .u64 (wd y 2 : Int), .int .u64 (wd y 3 : Int)]); refine (held_w HT9.out FXY.out (by repeat' (first | with_reducible assumption | with_reducible refine Off.drew ?_ | with_reducible refine Off.alloc ?_ _ | with_reducible refine Off.store ?_ (by omega) _ _))).mono ?_; rintro e w7 ⟨rfl, hO9, hOW⟩; have hS := HK9.out _ hO9)
        | (go_at_call 13; refine (held_w HT9.out FXX.out (by repeat' (first | with_reducible assumption | with_reducible refine Off.drew ?_ | with_reducible refine Off.alloc ?_ _ | with_reducible refine Off.store ?_ (by omega) _ _))).mono ?_; rintro e w7 ⟨rfl, hO9, hOW⟩; have hS := HK9.out _ hO9)
        | (go_at_call_of 10 (V m); refine (held_w HT9.out FA.out (by repeat' (first | with_reducible assumption | with_reducible refine Off.drew ?_ | with_reducible refine Off.alloc ?_ _ | with_reducible refine Off.store ?_ (by omega) _ _))).mono ?_; rintro e w7 ⟨rfl, hO9, hOW⟩; have hS := HK9.out _ hO9)
        | (go_at_call_of 10 (V q); refine (held_w HT9.out FB.out (by repeat' (first | with_reducible assumption | with_reducible refine Off.drew ?_ | with_reducible refine Off.alloc ?_ _ | with_reducible refine Off.store ?_ (by omega) _ _))).mono ?_; rintro e w7 ⟨rfl, hO9, hOW⟩; have hS := HK9.out _ hO9))
    go_wp2
    go_ret
    exact ⟨rfl, (HO0.out.trans HOc.out (fun _ _ c => c)).trans hO9 (fun _ _ c => c)⟩

theorem door_met (os : Os) (args : Array Value) : laidMetH Tryd.prog [("sharecore/field.fields", Rows.laid_sharecore_field_fields)] ((World.doorLaid Tryd.prog 400 os).forCall (fun _ _ => 0) ⟨#[], args, []⟩).memory :=
  laidMetH_of_parts3 (fuel := 8) (laidMet_of_run' 8 (by kernel_rfl) (by kernel_rfl)) (by kernel_rfl) (by kernel_rfl)

set_option maxRecDepth 100000 in
theorem lifted (os : Os) (started : os.Started) (H : Type) (enc : TypeId × Value → H) :
    ReturnsInHanded {} Tryd.checked os 3 .any (fun w args => (Rows.montMultipliesSpec.pre enc Tryd.prog Tryd.f3 [] false w args ∧ laidMetH Tryd.prog [("sharecore/field.fields", Rows.laid_sharecore_field_fields)] w) ∧ sizedMet enc Tryd.prog Tryd.f3 (OpenSpec.ofChange Rows.montMultipliesSpec) false w args)
      (Rows.montMultipliesSpec.post enc Tryd.prog Tryd.f3 false true false false) := by
  refine returnsInHanded_of_change_and (C := Tryd.checked) (X := fun w _ => laidMetH Tryd.prog [("sharecore/field.fields", Rows.laid_sharecore_field_fields)] w) (fun _ _ _ hh h => h.of_heap hh) own started (by kernel_rfl) Tryd.func3
    (ChangeSpec.witness_shaped (enc := enc) (C := Tryd.checked) (os := os) (X := fun w _ => laidMetH Tryd.prog [("sharecore/field.fields", Rows.laid_sharecore_field_fields)] w) false (World.doorLaid Tryd.prog 400 os) #[.bool false, .agg #[.int .u64 0, .int .u64 0, .int .u64 0, .int .u64 0], .agg #[.int .u64 0, .int .u64 0, .int .u64 0, .int .u64 0]] 8 rfl (World.shaped_of_RefB (by kernel_rfl) (by kernel_rfl)) (by kernel_rfl) (by kernel_rfl) (by kernel_rfl) (door_met os _)) ?_
  intro W base args ds gs before hval0 hW _ _ hL _
  have hval : ∀ (j : Nat) t v, Tryd.f3.params[j]? = some t → args[j]? = some v → Value.okWide Tryd.prog W .any base t v := hval0
  have hW' := hW
  obtain ⟨p, q, hA0, hV, rfl, hfz, hnd⟩ := hW
  have hA : DataW.TrodAll enc Tryd.prog W 0 (fun _ => true) true Tryd.f3.params.toList args.toList ds p := hA0
  rw [Tryd.params3] at hA hval
  obtain ⟨v0, vs0, d0, ds0, p0, q0, hargs, rfl, rfl, h0, r0⟩ := trodAll_cons hA
  obtain ⟨v1, vs1, d1, ds1, p1, q1, rfl, rfl, rfl, h1, r1⟩ := trodAll_cons r0
  obtain ⟨v2, vs2, d2, ds2, p2, q2, rfl, rfl, rfl, h2, r2⟩ := trodAll_cons r1
  obtain ⟨rfl, rfl, rfl⟩ := trodAll_nil r2
  obtain rfl : args = #[v0, v1, v2] := by cases args; simp_all
  obtain ⟨rfl, rfl⟩ := trodVars_none hV
  obtain ⟨i0, rfl, rfl, rfl⟩ := open_bool Tryd.underlying4 (hval 0 4 v0 rfl rfl) h0
  have w0 := trivial
  have k1 := h1
  have lt1 : ∀ x ∈ p1, x.block < W.heap.size := by obtain ⟨m, hm⟩ := k1; exact DataW.trod_lt m _ _ _ hm
  obtain ⟨n1, w1, rfl⟩ := open_vec (hval 1 23 v1 rfl rfl) h1
  have k2 := h2
  have lt2 : ∀ x ∈ p2, x.block < W.heap.size := by obtain ⟨m, hm⟩ := k2; exact DataW.trod_lt m _ _ _ hm
  obtain ⟨n2, w2, rfl⟩ := open_vec (hval 2 23 v2 rfl rfl) h2
  have hT := tab_of_laid hL
  clear hA0 hval0
  refine (walk i0 n1 n2 W w0 w1 w2 hT).mono fun e W' ⟨he, hoff⟩ => ?_
  have bel : Below W.heap.size W W' := hoff.below (Nat.le_refl _) (fun _ _ c => c)
  subst he
  exact ⟨_, rfl, _, _, _, [], _, [], hW', trodAll_mk1 (shut_bool Tryd.underlying4 _), (trodAll_cons_mk (shut_bool Tryd.underlying4 _) (trodAll_cons_mk (Below.trod laidOut (by kernel_rfl) (of_decide_eq_true (by kernel_rfl)) k1 bel lt1) (trodAll_cons_mk (Below.trod laidOut (by kernel_rfl) (of_decide_eq_true (by kernel_rfl)) k2 bel lt2) trodAll_mk0))), rfl, bel.frame _, fun h => by cases h⟩

theorem over : Rows.montMultipliesRow.holds Tryd.pinned (OpenSpec.ofChange Rows.montMultipliesSpec) :=
  OpenClaim.holds_of_wide 3 Tryd.f3 rfl rfl rfl rfl rfl rfl rfl ⟨rfl, rfl, rfl, rfl, rfl⟩ rfl rfl rfl rfl rfl (by kernel_rfl) Tryd.func3 (by kernel_rfl)
    (of_decide_eq_true (by kernel_rfl)) (by unfold Func.isWrapper; first | (rw [if_pos (by decide +kernel)]; kernel_rfl) | (rw [if_neg (by decide +kernel)]; exact ⟨rfl, rfl⟩))
    (fun os started H enc _ => lifted os started H enc)

theorem proved : Rows.MontMultipliesCardSaid :=
  Claim7.holds_tied_plain_at .later [] [.data] true (true, "4c6eef73345a3410bd4bab3dc88cb1ebf74aad4678ff4b3ba42a5157f493b774") false
    over (fun _ h => by cases h) (by kernel_rfl) (fun _ h => by cases h) montMultiplies_row_tie rfl ⟨rfl, rfl⟩ (by kernel_rfl) rfl
    (fun f fn hf hfn => by
      obtain rfl : f = 3 := Option.some.inj ((show Tryd.prog.funcNamed "sharecore/sharecorelaw05.MontMultiplies" = some 3 by kernel_rfl).symm.trans hf) |>.symm
      obtain rfl : fn = Tryd.f3 := (Option.some.inj (Tryd.func3.symm.trans hfn)).symm
      exact ⟨by kernel_rfl, fun j t ht => by
        rw [Tryd.params3] at ht
        have hm : t ∈ [4, 23] := by simpa using Array.mem_of_getElem? ht
        have hall : ([4, 23].all fun u => !Tryd.prog.wantsStandIn u) = true := by kernel_rfl
        exact (show Tryd.prog.wantsStandIn t = false by simpa using List.all_eq_true.1 hall t hm)⟩)
    (by kernel_rfl)
#print axioms proved
end Go.Proofs.YtpekmoegmdfmpaaDoor.montMultiplies
