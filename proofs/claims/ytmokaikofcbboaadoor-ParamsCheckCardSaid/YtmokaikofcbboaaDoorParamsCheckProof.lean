/-
  For all parameters, Check and Random return the same results as the reference: the statement of P15.1 and P15.2. No condition.
-/
import Derived.Test.YtmokaikofcbboaaDoorRows
import Derived.Test.YtmokaikofcbboaaDoorTie
import Derived.Test.YtmokaikofcbboaaDoorCards
import Derived.LaidMore
import Derived.LaidHandle
import Derived.SevenTiedAt
import Derived.Stop.Joined
import Derived.JoinedOf
import Derived.Test.YtmokaikofcbboaaDoorLimbOpen
import Derived.Test.YtmokaikofcbboaaDoorFieldTab
import Derived.Test.YtmokaikofcbboaaDoorParOpen
import Derived.Test.YtmokaikofcbboaaDoorParAlive
import Derived.Test.YtmokaikofcbboaaDoorParRef
import Derived.Test.YtmokaikofcbboaaDoorInvSel
import Derived.WalkKit
import Derived.ProofKit
import Derived.OpenShut
import Derived.ShutString
import Derived.ChangeOld
import Derived.Below
namespace Go.Proofs.YtmokaikofcbboaaDoor.paramsCheck
open Go.ChangeShapes Go.WideShapes Go.ChangeAt Go.RowKit
set_option linter.unusedVariables false

theorem own : ownKnob Tryd.prog.godebug = none := by kernel_rfl
theorem laidOut : laidOutB Tryd.prog = true := by kernel_rfl

set_option maxRecDepth 100000 in
set_option maxHeartbeats 4000000 in
theorem walk (q0 : Pms) (w : World) (w0 : q0.ok) (hT : TabAt w) :
    Calls Tryd.prog 3 #[q0.val] w fun e w' => e = .returned (.bool true) ∧ Off (fun _ => False) w w' := by
  have FAL : Hid (∀ W, TabAt W → Calls Tryd.prog 9 #[] W fun e w' => e = .returned (.bool true) ∧ Off (fun _ => False) W w') := Lib.hid (fun W hT => alive15_any W hT)
  have HT := Lib.hid hT
  clear hT
  have FC := Lib.hid (fun W hT => check_par q0 w0 W hT)
  have FR := Lib.hid (fun W => refcheck_any q0 W)
  have FD := Lib.hid (fun W hT => random_par q0 w0 W hT)
  have FQ := Lib.hid (fun W => refrandom_any q0 w0 W)
  obtain ⟨c, hc⟩ : ∃ c, c = prN q0 := ⟨_, rfl⟩
  obtain ⟨r, hr⟩ : ∃ r, r = rndN q0 := ⟨_, rfl⟩
  rw [← hc] at FC FR
  rw [← hr] at FD FQ
  clear hc hr w0
  obtain ⟨fd, th, sh, ln⟩ := q0
  unfold Pms.val at FC FR FD FQ ⊢
  dsimp only at FC FR FD FQ ⊢
  obtain ⟨W0, hW0⟩ : ∃ W0, W0 = w.alloc (.cells #[.int .i64 fd, .int .i64 th, .int .i64 sh, .int .i64 ln] 23) := ⟨_, rfl⟩
  have HG := Lib.hid (show W0.heap[w.heap.size]? = some (.cells #[.int .i64 fd, .int .i64 th, .int .i64 sh, .int .i64 ln] 23 (0, 0)) by rw [hW0]; exact heap_new' rfl _)
  have HO0 := Lib.hid (show Off (fun _ => False) w W0 by rw [hW0]; exact (Off.refl _ w).alloc _)
  have HT0 := Lib.hid (HT.out.off HO0.out)
  have HW0 := Lib.hid hW0
  clear hW0 HT
  go_enter Tryd.func3, Tryd.ntmps3
  go_upto_region 1 with fail
  rw [← HW0.out]
  obtain ⟨x3, hx⟩ : ∃ x : Value, x = .bool true := ⟨_, rfl⟩
  have X3 := Lib.hid hx
  clear hx
  obtain ⟨x4, hx⟩ : ∃ x : Value, x = .bool true := ⟨_, rfl⟩
  have X4 := Lib.hid hx
  clear hx
  obtain ⟨x5, hx⟩ : ∃ x : Value, x = .agg #[.int .i64 fd, .int .i64 th, .int .i64 sh, .int .i64 ln] := ⟨_, rfl⟩
  have X5 := Lib.hid hx
  clear hx
  obtain ⟨x6, hx⟩ : ∃ x : Value, x = .int .i64 (c : Int) := ⟨_, rfl⟩
  have X6 := Lib.hid hx
  clear hx
  obtain ⟨x7, hx⟩ : ∃ x : Value, x = .agg #[.int .i64 fd, .int .i64 th, .int .i64 sh, .int .i64 ln] := ⟨_, rfl⟩
  have X7 := Lib.hid hx
  clear hx
  obtain ⟨x8, hx⟩ : ∃ x : Value, x = .int .i64 (c : Int) := ⟨_, rfl⟩
  have X8 := Lib.hid hx
  clear hx
  obtain ⟨x9, hx⟩ : ∃ x : Value, x = .bool true := ⟨_, rfl⟩
  have X9 := Lib.hid hx
  clear hx
  obtain ⟨x10, hx⟩ : ∃ x : Value, x = .bool true := ⟨_, rfl⟩
  have X10 := Lib.hid hx
  clear hx
  obtain ⟨x11, hx⟩ : ∃ x : Value, x = .bool true := ⟨_, rfl⟩
  have X11 := Lib.hid hx
  clear hx
  obtain ⟨x12, hx⟩ : ∃ x : Value, x = .agg #[.int .i64 fd, .int .i64 th, .int .i64 sh, .int .i64 ln] := ⟨_, rfl⟩
  have X12 := Lib.hid hx
  clear hx
  obtain ⟨x13, hx⟩ : ∃ x : Value, x = .int .i64 r := ⟨_, rfl⟩
  have X13 := Lib.hid hx
  clear hx
  obtain ⟨x14, hx⟩ : ∃ x : Value, x = .agg #[.int .i64 fd, .int .i64 th, .int .i64 sh, .int .i64 ln] := ⟨_, rfl⟩
  have X14 := Lib.hid hx
  clear hx
  obtain ⟨x15, hx⟩ : ∃ x : Value, x = .int .i64 r := ⟨_, rfl⟩
  have X15 := Lib.hid hx
  clear hx
  obtain ⟨x16, hx⟩ : ∃ x : Value, x = .bool true := ⟨_, rfl⟩
  have X16 := Lib.hid hx
  clear hx
  obtain ⟨x17, hx⟩ : ∃ x : Value, x = .bool true := ⟨_, rfl⟩
  have X17 := Lib.hid hx
  clear hx
  obtain ⟨x2, hx⟩ : ∃ x : Value, x = .bool true := ⟨_, rfl⟩
  have X2 := Lib.hid hx
  clear hx
  refine wp_region_inv (fun a0 l a' w' => a' = (Act.put (fill a0 3 [sel (l 0) x3 undef, sel (l 1) x4 undef, sel (l 2) x5 undef, sel (l 3) x6 undef, sel (l 4) x7 undef, sel (l 5) x8 undef, sel (l 6) x9 undef, sel (l 7) x10 undef, sel (l 8) x11 undef, sel (l 9) x12 undef, sel (l 10) x13 undef, sel (l 11) x14 undef, sel (l 12) x15 undef, sel (l 13) x16 undef, sel (l 14) x17 undef]) (some 2) (sel (l 15) x2 (.bool false))) ∧ Off (fun _ => False) W0 w') (by kernel_rfl) (by kernel_rfl) ?_ ⟨?_, ?_, ?_, ?_, ?_, ?_, ?_, ?_, ?_, ?_, ?_, ?_, ?_, ?_, ?_, ?_, trivial⟩ ?_
  · refine ⟨?_, (Off.refl _ W0).drew⟩
    simp only [fill_eq, List.take_succ_cons, List.take_zero, List.cons_append, List.nil_append, Act.put, List.setIfInBounds_toArray, List.set_cons_zero, List.set_cons_succ, sel_start]
  · as_aux_lemma =>
      rintro l a wr ⟨ha, hO⟩ hl hd K' hK
      have hx := X3.out; subst hx
      simp only [fill_eq, List.take_succ_cons, List.take_zero, List.cons_append, List.nil_append, Act.put, List.setIfInBounds_toArray, List.set_cons_zero, List.set_cons_succ] at ha
      subst ha
      rw [if_pos (by rfl)]
      go_simp
      refine (held_inv (FAL.out wr (HT0.out.off hO)) hO).mono ?_
      rintro e w1 ⟨rfl, hO1, hOW⟩
      go_wp2_with fail
      refine hK.out _ _ ⟨?_, hO1⟩
      simp only [fill_eq, List.take_succ_cons, List.take_zero, List.cons_append, List.nil_append, Act.put, List.setIfInBounds_toArray, List.set_cons_zero, List.set_cons_succ, sel_new]
      rfl
  · as_aux_lemma =>
      rintro l a wr ⟨ha, hO⟩ hl hd K' hK
      have d0 := hd 0 (by decide)
      have hx := X3.out; subst hx
      have hx := X4.out; subst hx
      simp only [fill_eq, List.take_succ_cons, List.take_zero, List.cons_append, List.nil_append, Act.put, List.setIfInBounds_toArray, List.set_cons_zero, List.set_cons_succ, sel_of d0] at ha
      subst ha
      rw [if_pos (by rfl)]
      go_simp
      refine hK.out _ _ ⟨?_, hO⟩
      simp only [fill_eq, List.take_succ_cons, List.take_zero, List.cons_append, List.nil_append, Act.put, List.setIfInBounds_toArray, List.set_cons_zero, List.set_cons_succ, sel_new, sel_dep d0]
      rfl
  · as_aux_lemma =>
      rintro l a wr ⟨ha, hO⟩ hl hd K' hK
      have d1 := hd 1 (by decide)
      have hx := X4.out; subst hx
      have hx := X5.out; subst hx
      simp only [fill_eq, List.take_succ_cons, List.take_zero, List.cons_append, List.nil_append, Act.put, List.setIfInBounds_toArray, List.set_cons_zero, List.set_cons_succ, sel_of d1] at ha
      subst ha
      obtain ⟨p0, p1, p2, p3⟩ := cells4 (hO.heap HG.out (fun c => c))
      have lp := heap_lt (hO.heap HG.out (fun c => c))
      rw [if_pos (by rfl)]
      go_simp
      refine hK.out _ _ ⟨?_, hO⟩
      simp only [fill_eq, List.take_succ_cons, List.take_zero, List.cons_append, List.nil_append, Act.put, List.setIfInBounds_toArray, List.set_cons_zero, List.set_cons_succ, sel_new, sel_dep d1]
      rfl
  · as_aux_lemma =>
      rintro l a wr ⟨ha, hO⟩ hl hd K' hK
      have d1 := hd 1 (by decide)
      have d2 := hd 2 (by decide)
      have hx := X4.out; subst hx
      have hx := X5.out; subst hx
      have hx := X6.out; subst hx
      simp only [fill_eq, List.take_succ_cons, List.take_zero, List.cons_append, List.nil_append, Act.put, List.setIfInBounds_toArray, List.set_cons_zero, List.set_cons_succ, sel_of d1, sel_of d2] at ha
      subst ha
      rw [if_pos (by rfl)]
      go_simp
      refine (held_inv (FC.out wr (HT0.out.off hO)) hO).mono ?_
      rintro e w1 ⟨rfl, hO1, hOW⟩
      go_wp2_with fail
      refine hK.out _ _ ⟨?_, hO1⟩
      simp only [fill_eq, List.take_succ_cons, List.take_zero, List.cons_append, List.nil_append, Act.put, List.setIfInBounds_toArray, List.set_cons_zero, List.set_cons_succ, sel_new, sel_dep d1, sel_dep d2]
      rfl
  · as_aux_lemma =>
      rintro l a wr ⟨ha, hO⟩ hl hd K' hK
      have d1 := hd 1 (by decide)
      have hx := X4.out; subst hx
      have hx := X7.out; subst hx
      simp only [fill_eq, List.take_succ_cons, List.take_zero, List.cons_append, List.nil_append, Act.put, List.setIfInBounds_toArray, List.set_cons_zero, List.set_cons_succ, sel_of d1] at ha
      subst ha
      obtain ⟨p0, p1, p2, p3⟩ := cells4 (hO.heap HG.out (fun c => c))
      have lp := heap_lt (hO.heap HG.out (fun c => c))
      rw [if_pos (by rfl)]
      go_simp
      refine hK.out _ _ ⟨?_, hO⟩
      simp only [fill_eq, List.take_succ_cons, List.take_zero, List.cons_append, List.nil_append, Act.put, List.setIfInBounds_toArray, List.set_cons_zero, List.set_cons_succ, sel_new, sel_dep d1]
      rfl
  · as_aux_lemma =>
      rintro l a wr ⟨ha, hO⟩ hl hd K' hK
      have d1 := hd 1 (by decide)
      have d4 := hd 4 (by decide)
      have hx := X4.out; subst hx
      have hx := X7.out; subst hx
      have hx := X8.out; subst hx
      simp only [fill_eq, List.take_succ_cons, List.take_zero, List.cons_append, List.nil_append, Act.put, List.setIfInBounds_toArray, List.set_cons_zero, List.set_cons_succ, sel_of d1, sel_of d4] at ha
      subst ha
      rw [if_pos (by rfl)]
      go_simp
      refine (held_inv (FR.out wr) hO).mono ?_
      rintro e w1 ⟨rfl, hO1, hOW⟩
      go_wp2_with fail
      refine hK.out _ _ ⟨?_, hO1⟩
      simp only [fill_eq, List.take_succ_cons, List.take_zero, List.cons_append, List.nil_append, Act.put, List.setIfInBounds_toArray, List.set_cons_zero, List.set_cons_succ, sel_new, sel_dep d1, sel_dep d4]
      rfl
  · as_aux_lemma =>
      rintro l a wr ⟨ha, hO⟩ hl hd K' hK
      have d1 := hd 1 (by decide)
      have d3 := hd 3 (by decide)
      have d5 := hd 5 (by decide)
      have hx := X4.out; subst hx
      have hx := X6.out; subst hx
      have hx := X8.out; subst hx
      have hx := X9.out; subst hx
      simp only [fill_eq, List.take_succ_cons, List.take_zero, List.cons_append, List.nil_append, Act.put, List.setIfInBounds_toArray, List.set_cons_zero, List.set_cons_succ, sel_of d1, sel_of d3, sel_of d5] at ha
      subst ha
      rw [if_pos (by rfl)]
      go_simp
      refine hK.out _ _ ⟨?_, hO⟩
      simp only [fill_eq, List.take_succ_cons, List.take_zero, List.cons_append, List.nil_append, Act.put, List.setIfInBounds_toArray, List.set_cons_zero, List.set_cons_succ, sel_new, sel_dep d1, sel_dep d3, sel_dep d5]
      rfl
  · as_aux_lemma =>
      rintro l a wr ⟨ha, hO⟩ hl hd K' hK
      have d1 := hd 1 (by decide)
      have d6 := hd 6 (by decide)
      have hx := X4.out; subst hx
      have hx := X9.out; subst hx
      have hx := X10.out; subst hx
      simp only [fill_eq, List.take_succ_cons, List.take_zero, List.cons_append, List.nil_append, Act.put, List.setIfInBounds_toArray, List.set_cons_zero, List.set_cons_succ, sel_of d1, sel_of d6] at ha
      subst ha
      rw [if_pos (by rfl)]
      go_simp
      refine hK.out _ _ ⟨?_, hO⟩
      simp only [fill_eq, List.take_succ_cons, List.take_zero, List.cons_append, List.nil_append, Act.put, List.setIfInBounds_toArray, List.set_cons_zero, List.set_cons_succ, sel_new, sel_dep d1, sel_dep d6]
      rfl
  · as_aux_lemma =>
      rintro l a wr ⟨ha, hO⟩ hl hd K' hK
      have d7 := hd 7 (by decide)
      have hx := X10.out; subst hx
      have hx := X11.out; subst hx
      simp only [fill_eq, List.take_succ_cons, List.take_zero, List.cons_append, List.nil_append, Act.put, List.setIfInBounds_toArray, List.set_cons_zero, List.set_cons_succ, sel_of d7] at ha
      subst ha
      rw [if_pos (by rfl)]
      go_simp
      refine hK.out _ _ ⟨?_, hO⟩
      simp only [fill_eq, List.take_succ_cons, List.take_zero, List.cons_append, List.nil_append, Act.put, List.setIfInBounds_toArray, List.set_cons_zero, List.set_cons_succ, sel_new, sel_dep d7]
      rfl
  · as_aux_lemma =>
      rintro l a wr ⟨ha, hO⟩ hl hd K' hK
      have d8 := hd 8 (by decide)
      have hx := X11.out; subst hx
      have hx := X12.out; subst hx
      simp only [fill_eq, List.take_succ_cons, List.take_zero, List.cons_append, List.nil_append, Act.put, List.setIfInBounds_toArray, List.set_cons_zero, List.set_cons_succ, sel_of d8] at ha
      subst ha
      obtain ⟨p0, p1, p2, p3⟩ := cells4 (hO.heap HG.out (fun c => c))
      have lp := heap_lt (hO.heap HG.out (fun c => c))
      rw [if_pos (by rfl)]
      go_simp
      refine hK.out _ _ ⟨?_, hO⟩
      simp only [fill_eq, List.take_succ_cons, List.take_zero, List.cons_append, List.nil_append, Act.put, List.setIfInBounds_toArray, List.set_cons_zero, List.set_cons_succ, sel_new, sel_dep d8]
      rfl
  · as_aux_lemma =>
      rintro l a wr ⟨ha, hO⟩ hl hd K' hK
      have d8 := hd 8 (by decide)
      have d9 := hd 9 (by decide)
      have hx := X11.out; subst hx
      have hx := X12.out; subst hx
      have hx := X13.out; subst hx
      simp only [fill_eq, List.take_succ_cons, List.take_zero, List.cons_append, List.nil_append, Act.put, List.setIfInBounds_toArray, List.set_cons_zero, List.set_cons_succ, sel_of d8, sel_of d9] at ha
      subst ha
      rw [if_pos (by rfl)]
      go_simp
      refine (held_inv (FD.out wr (HT0.out.off hO)) hO).mono ?_
      rintro e w1 ⟨rfl, hO1, hOW⟩
      go_wp2_with fail
      refine hK.out _ _ ⟨?_, hO1⟩
      simp only [fill_eq, List.take_succ_cons, List.take_zero, List.cons_append, List.nil_append, Act.put, List.setIfInBounds_toArray, List.set_cons_zero, List.set_cons_succ, sel_new, sel_dep d8, sel_dep d9]
      rfl
  · as_aux_lemma =>
      rintro l a wr ⟨ha, hO⟩ hl hd K' hK
      have d8 := hd 8 (by decide)
      have hx := X11.out; subst hx
      have hx := X14.out; subst hx
      simp only [fill_eq, List.take_succ_cons, List.take_zero, List.cons_append, List.nil_append, Act.put, List.setIfInBounds_toArray, List.set_cons_zero, List.set_cons_succ, sel_of d8] at ha
      subst ha
      obtain ⟨p0, p1, p2, p3⟩ := cells4 (hO.heap HG.out (fun c => c))
      have lp := heap_lt (hO.heap HG.out (fun c => c))
      rw [if_pos (by rfl)]
      go_simp
      refine hK.out _ _ ⟨?_, hO⟩
      simp only [fill_eq, List.take_succ_cons, List.take_zero, List.cons_append, List.nil_append, Act.put, List.setIfInBounds_toArray, List.set_cons_zero, List.set_cons_succ, sel_new, sel_dep d8]
      rfl
  · as_aux_lemma =>
      rintro l a wr ⟨ha, hO⟩ hl hd K' hK
      have d8 := hd 8 (by decide)
      have d11 := hd 11 (by decide)
      have hx := X11.out; subst hx
      have hx := X14.out; subst hx
      have hx := X15.out; subst hx
      simp only [fill_eq, List.take_succ_cons, List.take_zero, List.cons_append, List.nil_append, Act.put, List.setIfInBounds_toArray, List.set_cons_zero, List.set_cons_succ, sel_of d8, sel_of d11] at ha
      subst ha
      rw [if_pos (by rfl)]
      go_simp
      refine (held_inv (FQ.out wr) hO).mono ?_
      rintro e w1 ⟨rfl, hO1, hOW⟩
      go_wp2_with fail
      refine hK.out _ _ ⟨?_, hO1⟩
      simp only [fill_eq, List.take_succ_cons, List.take_zero, List.cons_append, List.nil_append, Act.put, List.setIfInBounds_toArray, List.set_cons_zero, List.set_cons_succ, sel_new, sel_dep d8, sel_dep d11]
      rfl
  · as_aux_lemma =>
      rintro l a wr ⟨ha, hO⟩ hl hd K' hK
      have d8 := hd 8 (by decide)
      have d10 := hd 10 (by decide)
      have d12 := hd 12 (by decide)
      have hx := X11.out; subst hx
      have hx := X13.out; subst hx
      have hx := X15.out; subst hx
      have hx := X16.out; subst hx
      simp only [fill_eq, List.take_succ_cons, List.take_zero, List.cons_append, List.nil_append, Act.put, List.setIfInBounds_toArray, List.set_cons_zero, List.set_cons_succ, sel_of d8, sel_of d10, sel_of d12] at ha
      subst ha
      rw [if_pos (by rfl)]
      go_simp
      refine hK.out _ _ ⟨?_, hO⟩
      simp only [fill_eq, List.take_succ_cons, List.take_zero, List.cons_append, List.nil_append, Act.put, List.setIfInBounds_toArray, List.set_cons_zero, List.set_cons_succ, sel_new, sel_dep d8, sel_dep d10, sel_dep d12]
      rfl
  · as_aux_lemma =>
      rintro l a wr ⟨ha, hO⟩ hl hd K' hK
      have d8 := hd 8 (by decide)
      have d13 := hd 13 (by decide)
      have hx := X11.out; subst hx
      have hx := X16.out; subst hx
      have hx := X17.out; subst hx
      simp only [fill_eq, List.take_succ_cons, List.take_zero, List.cons_append, List.nil_append, Act.put, List.setIfInBounds_toArray, List.set_cons_zero, List.set_cons_succ, sel_of d8, sel_of d13] at ha
      subst ha
      rw [if_pos (by rfl)]
      go_simp
      refine hK.out _ _ ⟨?_, hO⟩
      simp only [fill_eq, List.take_succ_cons, List.take_zero, List.cons_append, List.nil_append, Act.put, List.setIfInBounds_toArray, List.set_cons_zero, List.set_cons_succ, sel_new, sel_dep d8, sel_dep d13]
      rfl
  · as_aux_lemma =>
      rintro l a wr ⟨ha, hO⟩ hl hd K' hK
      have d14 := hd 14 (by decide)
      have hx := X17.out; subst hx
      have hx := X2.out; subst hx
      simp only [fill_eq, List.take_succ_cons, List.take_zero, List.cons_append, List.nil_append, Act.put, List.setIfInBounds_toArray, List.set_cons_zero, List.set_cons_succ, sel_of d14] at ha
      subst ha
      rw [if_pos (by rfl)]
      go_simp
      refine hK.out _ _ ⟨?_, hO⟩
      simp only [fill_eq, List.take_succ_cons, List.take_zero, List.cons_append, List.nil_append, Act.put, List.setIfInBounds_toArray, List.set_cons_zero, List.set_cons_succ, sel_new, sel_dep d14]
      rfl
  · rintro l a wc ⟨ha, hO⟩ hd
    simp only [fill_eq, List.take_succ_cons, List.take_zero, List.cons_append, List.nil_append, Act.put, List.setIfInBounds_toArray, List.set_cons_zero, List.set_cons_succ, sel_of (hd 0 (by decide)), sel_of (hd 1 (by decide)), sel_of (hd 2 (by decide)), sel_of (hd 3 (by decide)), sel_of (hd 4 (by decide)), sel_of (hd 5 (by decide)), sel_of (hd 6 (by decide)), sel_of (hd 7 (by decide)), sel_of (hd 8 (by decide)), sel_of (hd 9 (by decide)), sel_of (hd 10 (by decide)), sel_of (hd 11 (by decide)), sel_of (hd 12 (by decide)), sel_of (hd 13 (by decide)), sel_of (hd 14 (by decide)), sel_of (hd 15 (by decide))] at ha
    subst ha
    have hx := X2.out; subst hx
    have HOf := Lib.hid (HO0.out.trans hO (fun _ _ c => c))
    clear hO hd
    go_wp2
    go_ret
    exact ⟨rfl, HOf.out⟩

theorem door_met (os : Os) (args : Array Value) : laidMetH Tryd.prog [("sharecore/field.fields", Rows.laid_sharecore_field_fields)] ((World.doorLaid Tryd.prog 400 os).forCall (fun _ _ => 0) ⟨#[], args, []⟩).memory :=
  laidMetH_of_parts3 (fuel := 8) (laidMet_of_run' 8 (by kernel_rfl) (by kernel_rfl)) (by kernel_rfl) (by kernel_rfl)

set_option maxRecDepth 100000 in
theorem lifted (os : Os) (started : os.Started) (H : Type) (enc : TypeId × Value → H) :
    ReturnsInHanded {} Tryd.checked os 3 .any (fun w args => (Rows.paramsCheckSpec.pre enc Tryd.prog Tryd.f3 [] false w args ∧ laidMetH Tryd.prog [("sharecore/field.fields", Rows.laid_sharecore_field_fields)] w) ∧ sizedMet enc Tryd.prog Tryd.f3 (OpenSpec.ofChange Rows.paramsCheckSpec) false w args)
      (Rows.paramsCheckSpec.post enc Tryd.prog Tryd.f3 false true false false) := by
  refine returnsInHanded_of_change_and (C := Tryd.checked) (X := fun w _ => laidMetH Tryd.prog [("sharecore/field.fields", Rows.laid_sharecore_field_fields)] w) (fun _ _ _ hh h => h.of_heap hh) own started (by kernel_rfl) Tryd.func3
    (ChangeSpec.witness_shaped (enc := enc) (C := Tryd.checked) (os := os) (X := fun w _ => laidMetH Tryd.prog [("sharecore/field.fields", Rows.laid_sharecore_field_fields)] w) false (World.doorLaid Tryd.prog 400 os) #[.agg #[.int .i64 0, .int .i64 0, .int .i64 0, .int .i64 0]] 8 rfl (World.shaped_of_RefB (by kernel_rfl) (by kernel_rfl)) (by kernel_rfl) (by kernel_rfl) (by kernel_rfl) (door_met os _)) ?_
  intro W base args ds gs before hval0 hW _ hsz hL _
  have hval : ∀ (j : Nat) t v, Tryd.f3.params[j]? = some t → args[j]? = some v → Value.okWide Tryd.prog W .any base t v := hval0
  have hW' := hW
  obtain ⟨p, q, hA0, hV, rfl, hfz, hnd⟩ := hW
  have hA : DataW.TrodAll enc Tryd.prog W 0 (fun _ => true) true Tryd.f3.params.toList args.toList ds p := hA0
  rw [Tryd.params3] at hA hval
  obtain ⟨v0, vs0, d0, ds0, p0, q0, hargs, rfl, rfl, h0, r0⟩ := trodAll_cons hA
  obtain ⟨rfl, rfl, rfl⟩ := trodAll_nil r0
  obtain rfl : args = #[v0] := by cases args; simp_all
  obtain ⟨rfl, rfl⟩ := trodVars_none hV
  have k0 := h0
  have lt0 : ∀ x ∈ p0, x.block < W.heap.size := by obtain ⟨m, hm⟩ := k0; exact DataW.trod_lt m _ _ _ hm
  obtain ⟨q0, w0, rfl⟩ := open_params (hval 0 23 v0 rfl rfl) h0
  have hT := tab_of_laid hL
  clear hA0 hval0
  refine (walk q0 W w0 hT).mono fun e W' ⟨he, hoff⟩ => ?_
  have bel : Below W.heap.size W W' := hoff.below (Nat.le_refl _) (fun _ _ c => c)
  subst he
  exact ⟨_, rfl, _, _, _, [], _, [], hW', trodAll_mk1 (shut_bool Tryd.underlying4 _), (trodAll_cons_mk (Below.trod laidOut (by kernel_rfl) (of_decide_eq_true (by kernel_rfl)) k0 bel lt0) trodAll_mk0), rfl, bel.frame _, fun h => by cases h⟩

theorem over : Rows.paramsCheckRow.holds Tryd.pinned (OpenSpec.ofChange Rows.paramsCheckSpec) :=
  OpenClaim.holds_of_wide 3 Tryd.f3 rfl rfl rfl rfl rfl rfl rfl ⟨rfl, rfl, rfl, rfl, rfl⟩ rfl rfl rfl rfl rfl (by kernel_rfl) Tryd.func3 (by kernel_rfl)
    (of_decide_eq_true (by kernel_rfl)) (by unfold Func.isWrapper; first | (rw [if_pos (by decide +kernel)]; kernel_rfl) | (rw [if_neg (by decide +kernel)]; exact ⟨rfl, rfl⟩))
    (fun os started H enc _ => lifted os started H enc)

theorem proved : Rows.ParamsCheckCardSaid :=
  Claim7.holds_tied_plain_at .later [] [.data] true (true, "ea8bdea48650b0fa9e78c562e70f8a09a96d303cc992c6aef33c8898e21f7be9") false
    over (fun _ h => by cases h) (by kernel_rfl) (fun _ h => by cases h) paramsCheck_row_tie rfl ⟨rfl, rfl⟩ (by kernel_rfl) rfl
    (fun f fn hf hfn => by
      obtain rfl : f = 3 := Option.some.inj ((show Tryd.prog.funcNamed "sharecore/sharecorelaw15.ParamsCheck" = some 3 by kernel_rfl).symm.trans hf) |>.symm
      obtain rfl : fn = Tryd.f3 := (Option.some.inj (Tryd.func3.symm.trans hfn)).symm
      exact ⟨by kernel_rfl, fun j t ht => by
        rw [Tryd.params3] at ht
        have hm : t ∈ [23] := by simpa using Array.mem_of_getElem? ht
        have hall : ([23].all fun u => !Tryd.prog.wantsStandIn u) = true := by kernel_rfl
        exact (show Tryd.prog.wantsStandIn t = false by simpa using List.all_eq_true.1 hall t hm)⟩)
    (by kernel_rfl)
#print axioms proved
end Go.Proofs.YtmokaikofcbboaaDoor.paramsCheck
