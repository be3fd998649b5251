/-
  For every list of numbers, the examples of the chapter hold, and Check returns the same as the reference: the statement of P9.1. No condition.
-/
import Derived.Test.YtcebegfnplplcaaDoorRows
import Derived.Test.YtcebegfnplplcaaDoorTie
import Derived.Test.YtcebegfnplplcaaDoorCards
import Derived.LaidMore
import Derived.LaidHandle
import Derived.SevenTiedAt
import Derived.Stop.Joined
import Derived.JoinedOf
import Derived.Test.YtcebegfnplplcaaDoorLimbWords
import Derived.Test.YtcebegfnplplcaaDoorIntAll
import Derived.Test.YtcebegfnplplcaaDoorFieldTab
import Derived.Test.YtcebegfnplplcaaDoorLagAlive
import Derived.Test.YtcebegfnplplcaaDoorLagBase
import Derived.Test.YtcebegfnplplcaaDoorLagProg
import Derived.WalkKit
import Derived.ProofKit
import Derived.OpenShut
import Derived.ShutString
import Derived.ChangeOld
import Derived.Below
namespace Go.Proofs.YtcebegfnplplcaaDoor.lagrangeChecks
open Go.ChangeShapes Go.WideShapes Go.ChangeAt Go.RowKit
set_option linter.unusedVariables false

theorem own : ownKnob Tryd.prog.godebug = none := by kernel_rfl
theorem laidOut : laidOutB Tryd.prog = true := by kernel_rfl

set_option maxRecDepth 100000 in
set_option maxHeartbeats 4000000 in
theorem walk (a0 : Option Addr) (n0 cap0 : Nat) (is0 : List Int) (w : World) (hn0 : n0 = is0.length) (w0 : IvAt w (.slice a0 n0 cap0) is0 (fun k => k < w.heap.size)) (hT : TabAt w) :
  Calls Tryd.prog 3 #[.slice a0 n0 cap0] w fun e w' => e = .returned (.bool true) /\ Off (fun _ => False) w w' := by
 have FAL : Hid (∀ W, TabAt W -> Calls Tryd.prog 9 #[] W fun e w' => e = .returned (.bool true) /\ Off (fun _ => False) W w') := Lib.hid (fun W hT => alive9_any W hT)
 have HL := Lib.hid (Iv.of w0)
 by_cases hbig : 400 < n0
 ·have hbi : decide ((400 : Int) < (n0 : Int)) = true := by simp; omega
  have hbp : (400 : Int) < (n0 : Int) := by omega
  clear hn0 w0 HL hbig
  go_enter Tryd.func3, Tryd.ntmps3
  go_wp2_with fail
  refine (FAL.out _ (hT.off (Off.refl _ w))).mono ?_
  rintro e u0 ⟨rfl, hO⟩
  have HO := Lib.hid ((Off.refl _ w : Off (fun _ => False) w _).trans hO (fun _ _ c => c))
  clear hO
  go_wp2
  go_ret
  exact ⟨rfl, HO.out⟩
 ·have hbi : decide ((400 : Int) < (n0 : Int)) = false := by simp; omega
  have hbp : ¬ (400 : Int) < (n0 : Int) := by omega
  obtain ⟨c, hc⟩ : ∃ c, c = chkV is0 := ⟨_, rfl⟩
  have FC := Lib.hid (show ∀ W, Off (fun _ => False) w W -> Calls Tryd.prog 10 #[.slice a0 n0 cap0] W fun e w' => e = .returned (.int .i64 c) /\ Off (fun _ => False) W w' from fun W h => by rw [hc]; exact check_any is0 (by omega) _ W (HL.out.off h))
  have FR := Lib.hid (show ∀ W, Off (fun _ => False) w W -> Calls Tryd.prog 11 #[.slice a0 n0 cap0] W fun e w' => e = .returned (.int .i64 c) /\ Off (fun _ => False) W w' from fun W h => by rw [hc]; exact refcheck_any is0 (by omega) _ W (HL.out.off h))
  clear hc hn0 w0 hbig
  go_enter Tryd.func3, Tryd.ntmps3
  go_wp2_with fail
  refine (FAL.out _ hT).mono ?_
  rintro e u0 ⟨rfl, hO⟩
  have HO := Lib.hid hO
  clear hO
  go_wp2_with fail
  refine (FC.out _ HO.out).mono ?_
  rintro e u1 ⟨rfl, hO⟩
  have HO1 := Lib.hid (HO.out.trans hO (fun _ _ c => c))
  clear hO HO
  go_wp2_with fail
  refine (FR.out _ HO1.out).mono ?_
  rintro e u2 ⟨rfl, hO⟩
  have HO2 := Lib.hid (HO1.out.trans hO (fun _ _ c => c))
  clear hO HO1
  go_wp2
  go_ret
  exact ⟨rfl, HO2.out⟩

theorem door_met (os : Os) (args : Array Value) : laidMetH Tryd.prog [("sharecore/field.fields", Rows.laid_sharecore_field_fields)] ((World.doorLaid Tryd.prog 400 os).forCall (fun _ _ => 0) ⟨#[], args, []⟩).memory :=
 laidMetH_of_parts3 (fuel := 8) (laidMet_of_run' 8 (by kernel_rfl) (by kernel_rfl)) (by kernel_rfl) (by kernel_rfl)

set_option maxRecDepth 100000 in
theorem lifted (os : Os) (started : os.Started) (H : Type) (enc : TypeId × Value -> H) :
  ReturnsInHanded {} Tryd.checked os 3 .any (fun w args => (Rows.lagrangeChecksSpec.pre enc Tryd.prog Tryd.f3 [] false w args /\ laidMetH Tryd.prog [("sharecore/field.fields", Rows.laid_sharecore_field_fields)] w) /\ sizedMet enc Tryd.prog Tryd.f3 (OpenSpec.ofChange Rows.lagrangeChecksSpec) false w args)
   (Rows.lagrangeChecksSpec.post enc Tryd.prog Tryd.f3 false true false false) := by
 refine returnsInHanded_of_change_and (C := Tryd.checked) (X := fun w _ => laidMetH Tryd.prog [("sharecore/field.fields", Rows.laid_sharecore_field_fields)] w) (fun _ _ _ hh h => h.of_heap hh) own started (by kernel_rfl) Tryd.func3
  (ChangeSpec.witness_shaped (enc := enc) (C := Tryd.checked) (os := os) (X := fun w _ => laidMetH Tryd.prog [("sharecore/field.fields", Rows.laid_sharecore_field_fields)] w) false (World.doorLaid Tryd.prog 400 os) #[.slice none 0 0] 8 rfl (World.shaped_of_RefB (by kernel_rfl) (by kernel_rfl)) (by kernel_rfl) (by kernel_rfl) (by kernel_rfl) (door_met os _)) ?_
 intro W base args ds gs before hval0 hW _ _ hL _
 have hval : ∀ (j : Nat) t v, Tryd.f3.params[j]? = some t -> args[j]? = some v -> Value.okWide Tryd.prog W .any base t v := hval0
 have hW' := hW
 obtain ⟨p, q, hA0, hV, rfl, hfz, hnd⟩ := hW
 have hA : DataW.TrodAll enc Tryd.prog W 0 (fun _ => true) true Tryd.f3.params.toList args.toList ds p := hA0
 rw [Tryd.params3] at hA hval
 obtain ⟨v0, vs0, d0, ds0, p0, q0, hargs, rfl, rfl, h0, r0⟩ := trodAll_cons hA
 obtain ⟨rfl, rfl, rfl⟩ := trodAll_nil r0
 obtain rfl : args = #[v0] := by cases args; simp_all
 obtain ⟨rfl, rfl⟩ := trodVars_none hV
 obtain ⟨a0, n0, cap0, rfl⟩ := okWide_slice Tryd.underlying22 (hval 0 22 v0 rfl rfl)
 have k0 := h0
 have lt0 : ∀ x ∈ p0, x.block < W.heap.size := by obtain ⟨m, hm⟩ := k0; exact DataW.trod_lt m _ _ _ hm
 obtain ⟨is0, hn0, w0⟩ : ∃ xs, n0 = xs.length /\ IvAt W (.slice a0 n0 cap0) xs (fun k => k < W.heap.size) := by
  obtain ⟨fuel, hf⟩ := h0
  exact ints_of_trod hf
 have hT := tab_of_laid hL
 clear hA0 hval0
 refine (walk a0 n0 cap0 is0 W hn0 w0 hT).mono fun e W' ⟨he, hoff⟩ => ?_
 have bel : Below W.heap.size W W' := hoff.below (Nat.le_refl _) (fun _ _ c => c)
 subst he
 exact ⟨_, rfl, _, _, _, [], _, [], hW', trodAll_mk1 (shut_bool Tryd.underlying4 _), (trodAll_cons_mk (Below.trod laidOut (by kernel_rfl) (of_decide_eq_true (by kernel_rfl)) k0 bel lt0) trodAll_mk0), rfl, bel.frame _, fun h => by cases h⟩

theorem over : Rows.lagrangeChecksRow.holds Tryd.pinned (OpenSpec.ofChange Rows.lagrangeChecksSpec) :=
 OpenClaim.holds_of_wide 3 Tryd.f3 rfl rfl rfl rfl rfl rfl rfl ⟨rfl, rfl, rfl, rfl, rfl⟩ rfl rfl rfl rfl rfl (by kernel_rfl) Tryd.func3 (by kernel_rfl)
  (of_decide_eq_true (by kernel_rfl)) (by unfold Func.isWrapper; first | (rw [if_pos (by decide +kernel)]; kernel_rfl) | (rw [if_neg (by decide +kernel)]; exact ⟨rfl, rfl⟩))
  (fun os started H enc _ => lifted os started H enc)

theorem proved : Rows.LagrangeChecksCardSaid :=
 Claim7.holds_tied_plain_at .later [] [.data] true (true, "52e3f175f7e7c68eca78e9b4b0e19955f01f7bfa3cfafd6aaba7d864c2871f24") false
  over (fun _ h => by cases h) (by kernel_rfl) (fun _ h => by cases h) lagrangeChecks_row_tie rfl ⟨rfl, rfl⟩ (by kernel_rfl) rfl
  (fun f fn hf hfn => by
   obtain rfl : f = 3 := Option.some.inj ((show Tryd.prog.funcNamed "sharecore/sharecorelaw09.LagrangeChecks" = some 3 by kernel_rfl).symm.trans hf) |>.symm
   obtain rfl : fn = Tryd.f3 := (Option.some.inj (Tryd.func3.symm.trans hfn)).symm
   exact ⟨by kernel_rfl, fun j t ht => by
    rw [Tryd.params3] at ht
    have hm : t ∈ [22] := by simpa using Array.mem_of_getElem? ht
    have hall : ([22].all fun u => !Tryd.prog.wantsStandIn u) = true := by kernel_rfl
    exact (show Tryd.prog.wantsStandIn t = false by simpa using List.all_eq_true.1 hall t hm)⟩)
  (by kernel_rfl)
#print axioms proved
end Go.Proofs.YtcebegfnplplcaaDoor.lagrangeChecks
-- squeezed
