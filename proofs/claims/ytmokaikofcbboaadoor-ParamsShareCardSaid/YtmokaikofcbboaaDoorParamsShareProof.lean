/-
  For every share, CheckShare returns the same result as the reference: the statement of P15.3. No condition.
-/
import Derived.Test.YtmokaikofcbboaaDoorRows
import Derived.Test.YtmokaikofcbboaaDoorTie
import Derived.Test.YtmokaikofcbboaaDoorCards
import Derived.LaidMore
import Derived.LaidHandle
import Derived.SevenTiedAt
import Derived.Stop.Joined
import Derived.JoinedOf
import Derived.Test.YtmokaikofcbboaaDoorLimbOpen
import Derived.Test.YtmokaikofcbboaaDoorFieldTab
import Derived.Test.YtmokaikofcbboaaDoorParOpen
import Derived.Test.YtmokaikofcbboaaDoorParAlive
import Derived.Test.YtmokaikofcbboaaDoorParRef
import Derived.Test.YtmokaikofcbboaaDoorParLarge
import Derived.Test.YtmokaikofcbboaaDoorInvSel
import Derived.WalkKit
import Derived.ProofKit
import Derived.OpenShut
import Derived.ShutString
import Derived.ChangeOld
import Derived.Below
namespace Go.Proofs.YtmokaikofcbboaaDoor.paramsShare
open Go.ChangeShapes Go.WideShapes Go.ChangeAt Go.RowKit
set_option linter.unusedVariables false

theorem own : ownKnob Tryd.prog.godebug = none := by kernel_rfl
theorem laidOut : laidOutB Tryd.prog = true := by kernel_rfl

theorem HV1 {w W : World} {v : Value} {xs : List Nat} (h : VsAt W v xs (fun k => k < w.heap.size)) : VsAt W v xs (fun k => k < W.heap.size) := by
  obtain ⟨a, cap, hv, h1, h2, h4⟩ := h
  refine ⟨a, cap, hv, h1, h2, fun hp => ?_⟩
  obtain ⟨b, off, ha, _, hc⟩ := h4 hp
  obtain ⟨e, he⟩ : ∃ e, xs[0]? = some e := ⟨xs[0], List.getElem?_eq_getElem hp⟩
  exact ⟨b, off, ha, World.block_lt_of_cell? W _ (hc 0 e he).1, hc⟩
set_option maxRecDepth 100000 in
set_option maxHeartbeats 4000000 in
theorem walk (s0 : Sh) (a0 : Option Addr) (cap0 : Nat) (w : World) (w0 : s0.ok ∧ s0.pl.length ≤ cap0 ∧ VsAt w (.slice a0 s0.pl.length cap0) s0.pl (fun k => k < w.heap.size)) (hT : TabAt w) :
    Calls Tryd.prog 4 #[s0.val (.slice a0 s0.pl.length cap0)] w fun e w' => e = .returned (.bool true) ∧ Off (fun _ => False) w w' := by
  have FAL : Hid (∀ W, TabAt W → Calls Tryd.prog 9 #[] W fun e w' => e = .returned (.bool true) ∧ Off (fun _ => False) W w') := Lib.hid (fun W hT => alive15_any W hT)
  have HT := Lib.hid hT
  clear hT
  obtain ⟨hok, hpc, hV⟩ := w0
  obtain ⟨c, hc⟩ : ∃ c, c = lrgN [s0] := ⟨_, rfl⟩
  have HZ := Lib.hid (show c = 0 → s0.pl.length ≤ 5000 from fun h => (lrg_zero (hc.symm.trans h)).2 s0 (by simp))
  have hc01 := lrg_cases [s0]
  rw [← hc] at hc01
  obtain ⟨m, hm⟩ : ∃ m, m = s0.pl.length := ⟨_, rfl⟩
  have HOK := Lib.hid hok
  have HV := Lib.hid hV
  have HPC := Lib.hid hpc
  have HM := Lib.hid hm
  have HC := Lib.hid hc
  rw [← hm]
  obtain ⟨fd, th, ix, ln, pl⟩ := s0
  unfold Sh.val
  dsimp only
  have hm' : m = pl.length := hm
  clear hok hV hpc hm hc hm'
  obtain ⟨W0, hW0⟩ : ∃ W0, W0 = (w.alloc (.cells #[.int .i64 fd, .int .i64 th, .int .i64 ix, .int .i64 ln, .slice a0 m cap0] 31)).alloc (.cells #[.int .i64 fd, .int .i64 th, .int .i64 ix, .int .i64 ln, .slice a0 m cap0] 31) := ⟨_, rfl⟩
  have hO0 : Off (fun _ => False) w W0 := by rw [hW0]; exact ((Off.refl _ w).alloc _).alloc _
  have HG := Lib.hid (show W0.heap[w.heap.size]? = some (.cells #[.int .i64 fd, .int .i64 th, .int .i64 ix, .int .i64 ln, .slice a0 m cap0] 31 (0, 0)) by rw [hW0]; exact heap_old' (heap_new' rfl _) _)
  have hg2 : W0.heap[w.heap.size + 1]? = some (.cells #[.int .i64 fd, .int .i64 th, .int .i64 ix, .int .i64 ln, .slice a0 m cap0] 31 (0, 0)) := by rw [hW0]; exact heap_new' (by simp) _
  have hV0 : VsAt W0 (.slice a0 m cap0) pl (fun k => k < w.heap.size) := by
    have h := HV.out.off hO0 (fun _ _ _ c => c)
    dsimp only at h
    rw [show m = pl.length from HM.out]; exact h
  have FL := Lib.hid (large_any [⟨fd, th, ix, ln, pl⟩] (some ⟨w.heap.size + 1, 0, none⟩) 1 1 rfl (fun k => k < W0.heap.size) W0 ⟨_, _, rfl, Nat.le_refl _, (show 1 ≤ maxLen by decide), (fun s hs => by simp at hs; subst hs; exact HOK.out), fun _ => ⟨_, _, rfl, heap_lt hg2, fun j s hs => by
    match j, hs with
    | 0, hs =>
      simp at hs; subst hs
      exact ⟨cell_of_heap hg2 0, cell_of_heap hg2 1, cell_of_heap hg2 2, cell_of_heap hg2 3, a0, cap0, by dsimp only; rw [← show m = pl.length from HM.out]; exact cell_of_heap hg2 4, HPC.out, by dsimp only; rw [← show m = pl.length from HM.out]; exact HV1 hV0⟩⟩⟩)
  rw [← HC.out] at FL
  have HV0 := Lib.hid hV0
  have HW0 := Lib.hid hW0
  have HO0 := Lib.hid hO0
  have HT0 := Lib.hid (HT.out.off hO0)
  clear hW0 hg2 hV0 hO0
  by_cases hbig : c = 1
  · subst hbig
    go_enter Tryd.func4, Tryd.ntmps4
    go_wp2_with fail
    rw [← HW0.out]
    refine FL.out.mono ?_
    rintro e u ⟨rfl, hO⟩
    have HOl := Lib.hid (HO0.out.trans hO (fun _ _ c => c))
    clear hO
    go_wp2_with fail
    refine (FAL.out _ (HT.out.off HOl.out)).mono ?_
    rintro e u ⟨rfl, hO⟩
    have HOf := Lib.hid (HOl.out.trans hO (fun _ _ c => c))
    clear hO
    go_wp2
    go_ret
    exact ⟨rfl, HOf.out⟩
  · obtain rfl : c = 0 := by omega
    have hp5 := HZ.out rfl
    obtain ⟨r, hr⟩ : ∃ r, r = shN ⟨fd, th, ix, ln, pl⟩ := ⟨_, rfl⟩
    have FC := Lib.hid (fun W (hO : Off (fun _ => False) W0 W) hT => share_par ⟨fd, th, ix, ln, pl⟩ HOK.out hp5 a0 cap0 HPC.out (fun k => k < w.heap.size) W (by have h := HV0.out.off hO (fun _ _ _ c => c); rw [show m = pl.length from HM.out] at h; exact h) hT)
    have FR := Lib.hid (fun W (hO : Off (fun _ => False) W0 W) => refshare_any ⟨fd, th, ix, ln, pl⟩ HOK.out a0 cap0 (fun k => k < w.heap.size) W (by have h := HV0.out.off hO (fun _ _ _ c => c); rw [show m = pl.length from HM.out] at h; exact h))
    rw [← hr] at FC FR
    unfold Sh.val at FC FR
    dsimp only at FC FR
    rw [← show m = pl.length from HM.out] at FC FR
    clear hr hp5 hc01 hbig
    go_enter Tryd.func4, Tryd.ntmps4
    go_wp2_with fail
    rw [← HW0.out]
    refine FL.out.mono ?_
    rintro e u0 ⟨rfl, hO⟩
    obtain ⟨wq, hwq⟩ : ∃ wq, wq = u0 := ⟨_, rfl⟩
    rw [← hwq] at hO ⊢
    have HG := Lib.hid (hO.heap HG.out (fun c => c))
    have HOq := Lib.hid hO
    have HT0 := Lib.hid (HT0.out.off hO)
    have FC := Lib.hid (fun W h hT => FC.out W (HOq.out.trans h (fun _ _ c => c)) hT)
    have FR := Lib.hid (fun W h => FR.out W (HOq.out.trans h (fun _ _ c => c)))
    clear hO hwq
    go_upto_region 3 with fail
    obtain ⟨x8, hx⟩ : ∃ x : Value, x = .bool true := ⟨_, rfl⟩
    have X8 := Lib.hid hx
    clear hx
    obtain ⟨x9, hx⟩ : ∃ x : Value, x = .bool true := ⟨_, rfl⟩
    have X9 := Lib.hid hx
    clear hx
    obtain ⟨x10, hx⟩ : ∃ x : Value, x = .agg #[.int .i64 fd, .int .i64 th, .int .i64 ix, .int .i64 ln, .slice a0 m cap0] := ⟨_, rfl⟩
    have X10 := Lib.hid hx
    clear hx
    obtain ⟨x11, hx⟩ : ∃ x : Value, x = .int .i64 (r : Int) := ⟨_, rfl⟩
    have X11 := Lib.hid hx
    clear hx
    obtain ⟨x12, hx⟩ : ∃ x : Value, x = .agg #[.int .i64 fd, .int .i64 th, .int .i64 ix, .int .i64 ln, .slice a0 m cap0] := ⟨_, rfl⟩
    have X12 := Lib.hid hx
    clear hx
    obtain ⟨x13, hx⟩ : ∃ x : Value, x = .int .i64 (r : Int) := ⟨_, rfl⟩
    have X13 := Lib.hid hx
    clear hx
    obtain ⟨x14, hx⟩ : ∃ x : Value, x = .bool true := ⟨_, rfl⟩
    have X14 := Lib.hid hx
    clear hx
    obtain ⟨x15, hx⟩ : ∃ x : Value, x = .bool true := ⟨_, rfl⟩
    have X15 := Lib.hid hx
    clear hx
    obtain ⟨x2, hx⟩ : ∃ x : Value, x = .bool true := ⟨_, rfl⟩
    have X2 := Lib.hid hx
    clear hx
    refine wp_region_inv (fun a0 l a' w' => a' = (Act.put (fill a0 8 [sel (l 0) x8 undef, sel (l 1) x9 undef, sel (l 2) x10 undef, sel (l 3) x11 undef, sel (l 4) x12 undef, sel (l 5) x13 undef, sel (l 6) x14 undef, sel (l 7) x15 undef]) (some 2) (sel (l 8) x2 (.bool false))) ∧ Off (fun _ => False) wq w') (by kernel_rfl) (by kernel_rfl) ?_ ⟨?_, ?_, ?_, ?_, ?_, ?_, ?_, ?_, ?_, trivial⟩ ?_
    · refine ⟨?_, (Off.refl _ wq).drew⟩
      simp only [fill_eq, List.take_succ_cons, List.take_zero, List.cons_append, List.nil_append, Act.put, List.setIfInBounds_toArray, List.set_cons_zero, List.set_cons_succ, sel_start]
    · as_aux_lemma =>
        rintro l a wr ⟨ha, hO⟩ hl hd K' hK
        have hx := X8.out; subst hx
        simp only [fill_eq, List.take_succ_cons, List.take_zero, List.cons_append, List.nil_append, Act.put, List.setIfInBounds_toArray, List.set_cons_zero, List.set_cons_succ] at ha
        subst ha
        rw [if_pos (by rfl)]
        go_simp
        refine (held_inv (FAL.out wr (HT0.out.off hO)) hO).mono ?_
        rintro e w1 ⟨rfl, hO1, hOW⟩
        go_wp2_with fail
        refine hK.out _ _ ⟨?_, hO1⟩
        simp only [fill_eq, List.take_succ_cons, List.take_zero, List.cons_append, List.nil_append, Act.put, List.setIfInBounds_toArray, List.set_cons_zero, List.set_cons_succ, sel_new]
        rfl
    · as_aux_lemma =>
        rintro l a wr ⟨ha, hO⟩ hl hd K' hK
        have d0 := hd 0 (by decide)
        have hx := X8.out; subst hx
        have hx := X9.out; subst hx
        simp only [fill_eq, List.take_succ_cons, List.take_zero, List.cons_append, List.nil_append, Act.put, List.setIfInBounds_toArray, List.set_cons_zero, List.set_cons_succ, sel_of d0] at ha
        subst ha
        rw [if_pos (by rfl)]
        go_simp
        refine hK.out _ _ ⟨?_, hO⟩
        simp only [fill_eq, List.take_succ_cons, List.take_zero, List.cons_append, List.nil_append, Act.put, List.setIfInBounds_toArray, List.set_cons_zero, List.set_cons_succ, sel_new, sel_dep d0]
        rfl
    · as_aux_lemma =>
        rintro l a wr ⟨ha, hO⟩ hl hd K' hK
        have d1 := hd 1 (by decide)
        have hx := X9.out; subst hx
        have hx := X10.out; subst hx
        simp only [fill_eq, List.take_succ_cons, List.take_zero, List.cons_append, List.nil_append, Act.put, List.setIfInBounds_toArray, List.set_cons_zero, List.set_cons_succ, sel_of d1] at ha
        subst ha
        have g := hO.heap HG.out (fun c => c)
        have p0 := cell_of_heap g 0
        have p1 := cell_of_heap g 1
        have p2 := cell_of_heap g 2
        have p3 := cell_of_heap g 3
        have p4 := cell_of_heap g 4
        have lp := heap_lt g
        clear g
        rw [if_pos (by rfl)]
        go_simp
        refine hK.out _ _ ⟨?_, hO⟩
        simp only [fill_eq, List.take_succ_cons, List.take_zero, List.cons_append, List.nil_append, Act.put, List.setIfInBounds_toArray, List.set_cons_zero, List.set_cons_succ, sel_new, sel_dep d1]
        rfl
    · as_aux_lemma =>
        rintro l a wr ⟨ha, hO⟩ hl hd K' hK
        have d1 := hd 1 (by decide)
        have d2 := hd 2 (by decide)
        have hx := X9.out; subst hx
        have hx := X10.out; subst hx
        have hx := X11.out; subst hx
        simp only [fill_eq, List.take_succ_cons, List.take_zero, List.cons_append, List.nil_append, Act.put, List.setIfInBounds_toArray, List.set_cons_zero, List.set_cons_succ, sel_of d1, sel_of d2] at ha
        subst ha
        rw [if_pos (by rfl)]
        go_simp
        refine (held_inv (FC.out wr hO (HT0.out.off hO)) hO).mono ?_
        rintro e w1 ⟨rfl, hO1, hOW⟩
        go_wp2_with fail
        refine hK.out _ _ ⟨?_, hO1⟩
        simp only [fill_eq, List.take_succ_cons, List.take_zero, List.cons_append, List.nil_append, Act.put, List.setIfInBounds_toArray, List.set_cons_zero, List.set_cons_succ, sel_new, sel_dep d1, sel_dep d2]
        rfl
    · as_aux_lemma =>
        rintro l a wr ⟨ha, hO⟩ hl hd K' hK
        have d1 := hd 1 (by decide)
        have hx := X9.out; subst hx
        have hx := X12.out; subst hx
        simp only [fill_eq, List.take_succ_cons, List.take_zero, List.cons_append, List.nil_append, Act.put, List.setIfInBounds_toArray, List.set_cons_zero, List.set_cons_succ, sel_of d1] at ha
        subst ha
        have g := hO.heap HG.out (fun c => c)
        have p0 := cell_of_heap g 0
        have p1 := cell_of_heap g 1
        have p2 := cell_of_heap g 2
        have p3 := cell_of_heap g 3
        have p4 := cell_of_heap g 4
        have lp := heap_lt g
        clear g
        rw [if_pos (by rfl)]
        go_simp
        refine hK.out _ _ ⟨?_, hO⟩
        simp only [fill_eq, List.take_succ_cons, List.take_zero, List.cons_append, List.nil_append, Act.put, List.setIfInBounds_toArray, List.set_cons_zero, List.set_cons_succ, sel_new, sel_dep d1]
        rfl
    · as_aux_lemma =>
        rintro l a wr ⟨ha, hO⟩ hl hd K' hK
        have d1 := hd 1 (by decide)
        have d4 := hd 4 (by decide)
        have hx := X9.out; subst hx
        have hx := X12.out; subst hx
        have hx := X13.out; subst hx
        simp only [fill_eq, List.take_succ_cons, List.take_zero, List.cons_append, List.nil_append, Act.put, List.setIfInBounds_toArray, List.set_cons_zero, List.set_cons_succ, sel_of d1, sel_of d4] at ha
        subst ha
        rw [if_pos (by rfl)]
        go_simp
        refine (held_inv (FR.out wr hO) hO).mono ?_
        rintro e w1 ⟨rfl, hO1, hOW⟩
        go_wp2_with fail
        refine hK.out _ _ ⟨?_, hO1⟩
        simp only [fill_eq, List.take_succ_cons, List.take_zero, List.cons_append, List.nil_append, Act.put, List.setIfInBounds_toArray, List.set_cons_zero, List.set_cons_succ, sel_new, sel_dep d1, sel_dep d4]
        rfl
    · as_aux_lemma =>
        rintro l a wr ⟨ha, hO⟩ hl hd K' hK
        have d1 := hd 1 (by decide)
        have d3 := hd 3 (by decide)
        have d5 := hd 5 (by decide)
        have hx := X9.out; subst hx
        have hx := X11.out; subst hx
        have hx := X13.out; subst hx
        have hx := X14.out; subst hx
        simp only [fill_eq, List.take_succ_cons, List.take_zero, List.cons_append, List.nil_append, Act.put, List.setIfInBounds_toArray, List.set_cons_zero, List.set_cons_succ, sel_of d1, sel_of d3, sel_of d5] at ha
        subst ha
        rw [if_pos (by rfl)]
        go_simp
        refine hK.out _ _ ⟨?_, hO⟩
        simp only [fill_eq, List.take_succ_cons, List.take_zero, List.cons_append, List.nil_append, Act.put, List.setIfInBounds_toArray, List.set_cons_zero, List.set_cons_succ, sel_new, sel_dep d1, sel_dep d3, sel_dep d5]
        rfl
    · as_aux_lemma =>
        rintro l a wr ⟨ha, hO⟩ hl hd K' hK
        have d1 := hd 1 (by decide)
        have d6 := hd 6 (by decide)
        have hx := X9.out; subst hx
        have hx := X14.out; subst hx
        have hx := X15.out; subst hx
        simp only [fill_eq, List.take_succ_cons, List.take_zero, List.cons_append, List.nil_append, Act.put, List.setIfInBounds_toArray, List.set_cons_zero, List.set_cons_succ, sel_of d1, sel_of d6] at ha
        subst ha
        rw [if_pos (by rfl)]
        go_simp
        refine hK.out _ _ ⟨?_, hO⟩
        simp only [fill_eq, List.take_succ_cons, List.take_zero, List.cons_append, List.nil_append, Act.put, List.setIfInBounds_toArray, List.set_cons_zero, List.set_cons_succ, sel_new, sel_dep d1, sel_dep d6]
        rfl
    · as_aux_lemma =>
        rintro l a wr ⟨ha, hO⟩ hl hd K' hK
        have d7 := hd 7 (by decide)
        have hx := X15.out; subst hx
        have hx := X2.out; subst hx
        simp only [fill_eq, List.take_succ_cons, List.take_zero, List.cons_append, List.nil_append, Act.put, List.setIfInBounds_toArray, List.set_cons_zero, List.set_cons_succ, sel_of d7] at ha
        subst ha
        rw [if_pos (by rfl)]
        go_simp
        refine hK.out _ _ ⟨?_, hO⟩
        simp only [fill_eq, List.take_succ_cons, List.take_zero, List.cons_append, List.nil_append, Act.put, List.setIfInBounds_toArray, List.set_cons_zero, List.set_cons_succ, sel_new, sel_dep d7]
        rfl
    · rintro l a wc ⟨ha, hO⟩ hd
      simp only [fill_eq, List.take_succ_cons, List.take_zero, List.cons_append, List.nil_append, Act.put, List.setIfInBounds_toArray, List.set_cons_zero, List.set_cons_succ, sel_of (hd 0 (by decide)), sel_of (hd 1 (by decide)), sel_of (hd 2 (by decide)), sel_of (hd 3 (by decide)), sel_of (hd 4 (by decide)), sel_of (hd 5 (by decide)), sel_of (hd 6 (by decide)), sel_of (hd 7 (by decide)), sel_of (hd 8 (by decide))] at ha
      subst ha
      have hx := X2.out; subst hx
      have HOf := Lib.hid (HO0.out.trans (HOq.out.trans hO (fun _ _ c => c)) (fun _ _ c => c))
      clear hO hd
      go_wp2
      go_ret
      exact ⟨rfl, HOf.out⟩

theorem door_met (os : Os) (args : Array Value) : laidMetH Tryd.prog [("sharecore/field.fields", Rows.laid_sharecore_field_fields)] ((World.doorLaid Tryd.prog 400 os).forCall (fun _ _ => 0) ⟨#[], args, []⟩).memory :=
  laidMetH_of_parts3 (fuel := 8) (laidMet_of_run' 8 (by kernel_rfl) (by kernel_rfl)) (by kernel_rfl) (by kernel_rfl)

set_option maxRecDepth 100000 in
theorem lifted (os : Os) (started : os.Started) (H : Type) (enc : TypeId × Value → H) :
    ReturnsInHanded {} Tryd.checked os 4 .any (fun w args => (Rows.paramsShareSpec.pre enc Tryd.prog Tryd.f4 [] false w args ∧ laidMetH Tryd.prog [("sharecore/field.fields", Rows.laid_sharecore_field_fields)] w) ∧ sizedMet enc Tryd.prog Tryd.f4 (OpenSpec.ofChange Rows.paramsShareSpec) false w args)
      (Rows.paramsShareSpec.post enc Tryd.prog Tryd.f4 false true false false) := by
  refine returnsInHanded_of_change_and (C := Tryd.checked) (X := fun w _ => laidMetH Tryd.prog [("sharecore/field.fields", Rows.laid_sharecore_field_fields)] w) (fun _ _ _ hh h => h.of_heap hh) own started (by kernel_rfl) Tryd.func4
    (ChangeSpec.witness_shaped (enc := enc) (C := Tryd.checked) (os := os) (X := fun w _ => laidMetH Tryd.prog [("sharecore/field.fields", Rows.laid_sharecore_field_fields)] w) false (World.doorLaid Tryd.prog 400 os) #[.agg #[.int .i64 0, .int .i64 0, .int .i64 0, .int .i64 0, .slice none 0 0]] 8 rfl (World.shaped_of_RefB (by kernel_rfl) (by kernel_rfl)) (by kernel_rfl) (by kernel_rfl) (by kernel_rfl) (door_met os _)) ?_
  intro W base args ds gs before hval0 hW _ hsz hL _
  have hval : ∀ (j : Nat) t v, Tryd.f4.params[j]? = some t → args[j]? = some v → Value.okWide Tryd.prog W .any base t v := hval0
  have hW' := hW
  obtain ⟨p, q, hA0, hV, rfl, hfz, hnd⟩ := hW
  have hA : DataW.TrodAll enc Tryd.prog W 0 (fun _ => true) true Tryd.f4.params.toList args.toList ds p := hA0
  rw [Tryd.params4] at hA hval
  obtain ⟨v0, vs0, d0, ds0, p0, q0, hargs, rfl, rfl, h0, r0⟩ := trodAll_cons hA
  obtain ⟨rfl, rfl, rfl⟩ := trodAll_nil r0
  obtain rfl : args = #[v0] := by cases args; simp_all
  obtain ⟨rfl, rfl⟩ := trodVars_none hV
  have k0 := h0
  have lt0 : ∀ x ∈ p0, x.block < W.heap.size := by obtain ⟨m, hm⟩ := k0; exact DataW.trod_lt m _ _ _ hm
  obtain ⟨s0, a0, cap0, w0, rfl⟩ := open_share (hval 0 31 v0 rfl rfl) h0
  have hT := tab_of_laid hL
  clear hA0 hval0
  refine (walk s0 a0 cap0 W w0 hT).mono fun e W' ⟨he, hoff⟩ => ?_
  have bel : Below W.heap.size W W' := hoff.below (Nat.le_refl _) (fun _ _ c => c)
  subst he
  exact ⟨_, rfl, _, _, _, [], _, [], hW', trodAll_mk1 (shut_bool Tryd.underlying4 _), (trodAll_cons_mk (Below.trod laidOut (by kernel_rfl) (of_decide_eq_true (by kernel_rfl)) k0 bel lt0) trodAll_mk0), rfl, bel.frame _, fun h => by cases h⟩

theorem over : Rows.paramsShareRow.holds Tryd.pinned (OpenSpec.ofChange Rows.paramsShareSpec) :=
  OpenClaim.holds_of_wide 4 Tryd.f4 rfl rfl rfl rfl rfl rfl rfl ⟨rfl, rfl, rfl, rfl, rfl⟩ rfl rfl rfl rfl rfl (by kernel_rfl) Tryd.func4 (by kernel_rfl)
    (of_decide_eq_true (by kernel_rfl)) (by unfold Func.isWrapper; first | (rw [if_pos (by decide +kernel)]; kernel_rfl) | (rw [if_neg (by decide +kernel)]; exact ⟨rfl, rfl⟩))
    (fun os started H enc _ => lifted os started H enc)

theorem proved : Rows.ParamsShareCardSaid :=
  Claim7.holds_tied_plain_at .later [] [.data] true (true, "ea8bdea48650b0fa9e78c562e70f8a09a96d303cc992c6aef33c8898e21f7be9") false
    over (fun _ h => by cases h) (by kernel_rfl) (fun _ h => by cases h) paramsShare_row_tie rfl ⟨rfl, rfl⟩ (by kernel_rfl) rfl
    (fun f fn hf hfn => by
      obtain rfl : f = 4 := Option.some.inj ((show Tryd.prog.funcNamed "sharecore/sharecorelaw15.ParamsShare" = some 4 by kernel_rfl).symm.trans hf) |>.symm
      obtain rfl : fn = Tryd.f4 := (Option.some.inj (Tryd.func4.symm.trans hfn)).symm
      exact ⟨by kernel_rfl, fun j t ht => by
        rw [Tryd.params4] at ht
        have hm : t ∈ [31] := by simpa using Array.mem_of_getElem? ht
        have hall : ([31].all fun u => !Tryd.prog.wantsStandIn u) = true := by kernel_rfl
        exact (show Tryd.prog.wantsStandIn t = false by simpa using List.all_eq_true.1 hall t hm)⟩)
    (by kernel_rfl)
#print axioms proved
end Go.Proofs.YtmokaikofcbboaaDoor.paramsShare
