/-
  For every number, the examples of the chapter hold, and Get returns the constants of the reference, or ErrField and a field of zeros: the statement of P4.1. No condition.
-/
import Derived.Test.YtiappkokbdhgeaaDoorRows
import Derived.Test.YtiappkokbdhgeaaDoorTie
import Derived.Test.YtiappkokbdhgeaaDoorCards
import Derived.LaidMore
import Derived.LaidHandle
import Derived.SevenTiedAt
import Derived.Stop.Joined
import Derived.JoinedOf
import Derived.Test.YtiappkokbdhgeaaDoorLimbOpen
import Derived.Test.YtiappkokbdhgeaaDoorFieldTab
import Derived.Test.YtiappkokbdhgeaaDoorFieldHeld
import Derived.Test.YtiappkokbdhgeaaDoorFieldOps
import Derived.Test.YtiappkokbdhgeaaDoorFieldAll
import Derived.WalkKit
import Derived.ProofKit
import Derived.OpenShut
import Derived.ShutString
import Derived.ChangeOld
import Derived.Below
namespace Go.Proofs.YtiappkokbdhgeaaDoor.fieldConstants
open Go.ChangeShapes Go.WideShapes Go.ChangeAt Go.RowKit
set_option linter.unusedVariables false

theorem own : ownKnob Tryd.prog.godebug = none := by kernel_rfl
theorem laidOut : laidOutB Tryd.prog = true := by kernel_rfl

theorem modN_cases (id : Int) : modN id = 0 ∨ (id ≠ 0 ∧ ∃ p, modN id = p ∧ p < R256 ∧ 1 < p) := by
  by_cases h1 : id = 1
  · subst h1; exact .inr ⟨by decide, P1, rfl, p1_lt, p1_one⟩
  · by_cases h2 : id = 2
    · subst h2; exact .inr ⟨by decide, P2, rfl, p2_lt, p2_one⟩
    · exact .inl (by unfold modN; rw [if_neg h1, if_neg h2])
theorem lit_none : FV 0 0 0 0 0 = .agg #[.int .i64 0, .int .u64 0, .int .u64 0, .int .u64 0, .int .u64 0, .int .u64 0, .int .u64 0, .int .u64 0, .int .u64 0, .int .u64 0, .int .u64 0, .int .u64 0, .int .u64 0, .int .u64 0] := by
  rw [lit_field]; simp only [wd_zero]; rfl
set_option maxHeartbeats 4000000 in
theorem walk (i0 : Int) (w : World) (w0 : (Lit.int .i64 i0).wf = true) (hT : TabAt w) :
    Calls Tryd.prog 3 #[.int .i64 i0] w fun e w' => e = .returned (.bool true) ∧ Off (fun _ => False) w w' := by
  rcases modN_cases i0 with hm | ⟨h0, p, hm, hp, h1⟩
  · have F1 := fun W hT => fget_none i0 hm W hT
    have F2 := fun W => get_none i0 hm W
    simp only [lit_none] at F1 F2
    have F1 := Lib.hid F1
    have F2 := Lib.hid F2
    have e0 := equalIn_none
    clear hm w0
    go_enter Tryd.func3, Tryd.ntmps3
    go_wp2_with fail
    refine (F1.out _ (hT.off (by first | exact Off.refl _ _ | exact (Off.refl _ w).drew))).mono ?_
    rintro e u1 ⟨rfl, hO1⟩
    have HT1 := Lib.hid (hT.off hO1)
    have O1 := Lib.hid hO1
    clear hT hO1
    go_wp2_with fail
    refine (F2.out _).mono ?_
    rintro e u2 ⟨rfl, hO2⟩
    have hB := hO2.heap (heap_new' (w := u1) rfl _) (fun c => c)
    have hlt := heap_lt hB
    have HB := Lib.hid hB
    have HT2 := Lib.hid ((HT1.out.off ((Off.refl _ u1).alloc _)).off hO2)
    have O2 := Lib.hid ((O1.out.alloc _).trans hO2 (fun _ _ c => c))
    clear hB hO2 HT1
    go_wp2_with fail
    refine (alive_any _ (HT2.out.off ((Off.refl _ u2).alloc _))).mono ?_
    rintro e u3 ⟨rfl, hO3⟩
    have hB := hO3.heap (heap_old' HB.out _) (fun c => c)
    have hC := hO3.heap (heap_new' (w := u2) rfl _) (fun c => c)
    obtain ⟨b0, b1, b2, b3, b4, b5, b6, b7, b8, b9, b10, b11, b12, b13⟩ := fv_cells hB
    obtain ⟨d0, d1, d2, d3, d4, d5, d6, d7, d8, d9, d10, d11, d12, d13⟩ := fv_cells hC
    have O3 := Lib.hid ((O2.out.alloc _).trans hO3 (fun _ _ c => c))
    clear hB hC hO3 HT2 HB hlt
    go_wp2
    go_ret
    exact ⟨rfl, O3.out⟩
  · have F1 := Lib.hid (fun W hT => fget_in i0 p hp h1 hm W hT)
    have F2 := Lib.hid (fun W => get_in i0 p hp h1 hm W)
    obtain ⟨i, hi⟩ : ∃ i, i = negInv (wd p 0) := ⟨_, rfl⟩
    obtain ⟨s, hs⟩ : ∃ s, s = radV p 256 * radV p 256 % p := ⟨_, rfl⟩
    obtain ⟨r, hr⟩ : ∃ r, r = radV p 256 := ⟨_, rfl⟩
    rw [← hi, ← hs, ← hr] at F1 F2
    have e1 := equalIn_same
    have e2 := equalIn_elem_same
    have t1 : (i0 == 0) = false := by simpa using h0
    clear hi hs hr hm hp h1 h0 w0
    go_enter Tryd.func3, Tryd.ntmps3
    go_wp2_with fail
    refine (F1.out _ (hT.off (by first | exact Off.refl _ _ | exact (Off.refl _ w).drew))).mono ?_
    rintro e u1 ⟨rfl, hO1⟩
    have HT1 := Lib.hid (hT.off hO1)
    have O1 := Lib.hid hO1
    clear hT hO1
    go_wp2_with fail
    refine (F2.out _).mono ?_
    rintro e u2 ⟨rfl, hO2⟩
    have hB := hO2.heap (heap_new' (w := u1) rfl _) (fun c => c)
    have hlt := heap_lt hB
    have HB := Lib.hid hB
    have HT2 := Lib.hid ((HT1.out.off ((Off.refl _ u1).alloc _)).off hO2)
    have O2 := Lib.hid ((O1.out.alloc _).trans hO2 (fun _ _ c => c))
    clear hB hO2 HT1
    go_wp2_with fail
    refine (alive_any _ (HT2.out.off ((Off.refl _ u2).alloc _))).mono ?_
    rintro e u3 ⟨rfl, hO3⟩
    have hB := hO3.heap (heap_old' HB.out _) (fun c => c)
    have hC := hO3.heap (heap_new' (w := u2) rfl _) (fun c => c)
    obtain ⟨b0, b1, b2, b3, b4, b5, b6, b7, b8, b9, b10, b11, b12, b13⟩ := fv_cells hB
    obtain ⟨d0, d1, d2, d3, d4, d5, d6, d7, d8, d9, d10, d11, d12, d13⟩ := fv_cells hC
    have O3 := Lib.hid ((O2.out.alloc _).trans hO3 (fun _ _ c => c))
    clear hB hC hO3 HT2 HB hlt
    go_wp2
    go_ret
    exact ⟨rfl, O3.out⟩

theorem door_met (os : Os) (args : Array Value) : laidMetH Tryd.prog [("sharecore/field.fields", Rows.laid_sharecore_field_fields)] ((World.doorLaid Tryd.prog 400 os).forCall (fun _ _ => 0) ⟨#[], args, []⟩).memory :=
  laidMetH_of_parts3 (fuel := 8) (laidMet_of_run' 8 (by kernel_rfl) (by kernel_rfl)) (by kernel_rfl) (by kernel_rfl)

set_option maxRecDepth 100000 in
theorem lifted (os : Os) (started : os.Started) (H : Type) (enc : TypeId × Value → H) :
    ReturnsInHanded {} Tryd.checked os 3 .any (fun w args => (Rows.fieldConstantsSpec.pre enc Tryd.prog Tryd.f3 [] false w args ∧ laidMetH Tryd.prog [("sharecore/field.fields", Rows.laid_sharecore_field_fields)] w) ∧ sizedMet enc Tryd.prog Tryd.f3 (OpenSpec.ofChange Rows.fieldConstantsSpec) false w args)
      (Rows.fieldConstantsSpec.post enc Tryd.prog Tryd.f3 false true false false) := by
  refine returnsInHanded_of_change_and (C := Tryd.checked) (X := fun w _ => laidMetH Tryd.prog [("sharecore/field.fields", Rows.laid_sharecore_field_fields)] w) (fun _ _ _ hh h => h.of_heap hh) own started (by kernel_rfl) Tryd.func3
    (ChangeSpec.witness_shaped (enc := enc) (C := Tryd.checked) (os := os) (X := fun w _ => laidMetH Tryd.prog [("sharecore/field.fields", Rows.laid_sharecore_field_fields)] w) false (World.doorLaid Tryd.prog 400 os) #[.int .i64 0] 8 rfl (World.shaped_of_RefB (by kernel_rfl) (by kernel_rfl)) (by kernel_rfl) (by kernel_rfl) (by kernel_rfl) (door_met os _)) ?_
  intro W base args ds gs before hval0 hW _ _ hL _
  have hval : ∀ (j : Nat) t v, Tryd.f3.params[j]? = some t → args[j]? = some v → Value.okWide Tryd.prog W .any base t v := hval0
  have hW' := hW
  obtain ⟨p, q, hA0, hV, rfl, hfz, hnd⟩ := hW
  have hA : DataW.TrodAll enc Tryd.prog W 0 (fun _ => true) true Tryd.f3.params.toList args.toList ds p := hA0
  rw [Tryd.params3] at hA hval
  obtain ⟨v0, vs0, d0, ds0, p0, q0, hargs, rfl, rfl, h0, r0⟩ := trodAll_cons hA
  obtain ⟨rfl, rfl, rfl⟩ := trodAll_nil r0
  obtain rfl : args = #[v0] := by cases args; simp_all
  obtain ⟨rfl, rfl⟩ := trodVars_none hV
  obtain ⟨i0, rfl, rfl, rfl, w0⟩ := open_int Tryd.underlying3 (hval 0 3 v0 rfl rfl) h0
  have hT := tab_of_laid hL
  clear hA0 hval0
  refine (walk i0 W w0 hT).mono fun e W' ⟨he, hoff⟩ => ?_
  have bel : Below W.heap.size W W' := hoff.below (Nat.le_refl _) (fun _ _ c => c)
  subst he
  exact ⟨_, rfl, _, _, _, [], _, [], hW', trodAll_mk1 (shut_bool Tryd.underlying4 _), (trodAll_cons_mk (shut_int Tryd.underlying3 w0) trodAll_mk0), rfl, bel.frame _, fun h => by cases h⟩

theorem over : Rows.fieldConstantsRow.holds Tryd.pinned (OpenSpec.ofChange Rows.fieldConstantsSpec) :=
  OpenClaim.holds_of_wide 3 Tryd.f3 rfl rfl rfl rfl rfl rfl rfl ⟨rfl, rfl, rfl, rfl, rfl⟩ rfl rfl rfl rfl rfl (by kernel_rfl) Tryd.func3 (by kernel_rfl)
    (of_decide_eq_true (by kernel_rfl)) (by unfold Func.isWrapper; first | (rw [if_pos (by decide +kernel)]; kernel_rfl) | (rw [if_neg (by decide +kernel)]; exact ⟨rfl, rfl⟩))
    (fun os started H enc _ => lifted os started H enc)

theorem proved : Rows.FieldConstantsCardSaid :=
  Claim7.holds_tied_plain_at .later [] [.data] true (true, "8d33200e40fec3579d79c2056285ba5d5493a356e675c7f0ac56b4f91c6d33fd") false
    over (fun _ h => by cases h) (by kernel_rfl) (fun _ h => by cases h) fieldConstants_row_tie rfl ⟨rfl, rfl⟩ (by kernel_rfl) rfl
    (fun f fn hf hfn => by
      obtain rfl : f = 3 := Option.some.inj ((show Tryd.prog.funcNamed "sharecore/sharecorelaw04.FieldConstants" = some 3 by kernel_rfl).symm.trans hf) |>.symm
      obtain rfl : fn = Tryd.f3 := (Option.some.inj (Tryd.func3.symm.trans hfn)).symm
      exact ⟨by kernel_rfl, fun j t ht => by
        rw [Tryd.params3] at ht
        have hm : t ∈ [3] := by simpa using Array.mem_of_getElem? ht
        have hall : ([3].all fun u => !Tryd.prog.wantsStandIn u) = true := by kernel_rfl
        exact (show Tryd.prog.wantsStandIn t = false by simpa using List.all_eq_true.1 hall t hm)⟩)
    (by kernel_rfl)
#print axioms proved
end Go.Proofs.YtiappkokbdhgeaaDoor.fieldConstants
