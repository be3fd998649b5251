/-
  For every modulus and number, the examples of the chapter hold, and Contains returns the mask of whether the number is less than the modulus: the statement of P4.2. No condition.
-/
import Derived.Test.YtiappkokbdhgeaaDoorRows
import Derived.Test.YtiappkokbdhgeaaDoorTie
import Derived.Test.YtiappkokbdhgeaaDoorCards
import Derived.LaidMore
import Derived.LaidHandle
import Derived.SevenTiedAt
import Derived.Stop.Joined
import Derived.JoinedOf
import Derived.Test.YtiappkokbdhgeaaDoorLimbOpen
import Derived.Test.YtiappkokbdhgeaaDoorFieldTab
import Derived.Test.YtiappkokbdhgeaaDoorFieldHeld
import Derived.Test.YtiappkokbdhgeaaDoorFieldOps
import Derived.Test.YtiappkokbdhgeaaDoorFieldAll
import Derived.WalkKit
import Derived.ProofKit
import Derived.OpenShut
import Derived.ShutString
import Derived.ChangeOld
import Derived.Below
namespace Go.Proofs.YtiappkokbdhgeaaDoor.fieldContains
open Go.ChangeShapes Go.WideShapes Go.ChangeAt Go.RowKit
set_option linter.unusedVariables false

theorem own : ownKnob Tryd.prog.godebug = none := by kernel_rfl
theorem laidOut : laidOutB Tryd.prog = true := by kernel_rfl

set_option maxHeartbeats 4000000 in
theorem walk (n0 : Nat) (n1 : Nat) (w : World) (w0 : n0 < R256) (w1 : n1 < R256) (hT : TabAt w) :
    Calls Tryd.prog 4 #[V n0, V n1] w fun e w' => e = .returned (.bool true) ∧ Off (fun _ => False) w w' := by
  have F1 := fun W (_ : TabAt W) => contains_any 0 n0 0 0 0 n1 w0 w1 W
  have F2 := fun W (_ : TabAt W) => refless_any n1 n0 w1 w0 W
  simp only [lit_field] at F1
  obtain ⟨l, hl⟩ : ∃ l, l = lessN n1 n0 := ⟨_, rfl⟩
  simp only [← hl] at F1 F2
  have F1 := Lib.hid F1
  have F2 := Lib.hid F2
  have F3 := Lib.hid (fun W (_ : TabAt W) => mask_off l W)
  clear hl w0 w1
  obtain ⟨W0, hW0⟩ : ∃ W0, W0 = (w.alloc (.cells #[.int .u64 (wd n0 0 : Int), .int .u64 (wd n0 1 : Int), .int .u64 (wd n0 2 : Int), .int .u64 (wd n0 3 : Int)] 23)).alloc (.cells #[.int .u64 (wd n1 0 : Int), .int .u64 (wd n1 1 : Int), .int .u64 (wd n1 2 : Int), .int .u64 (wd n1 3 : Int)] 23) := ⟨_, rfl⟩
  have hA : NumAt W0.drew w.heap.size n0 := by rw [hW0]; exact heap_old' (heap_new' rfl _) _
  have hB : NumAt W0.drew (w.heap.size + 1) n1 := by rw [hW0]; exact heap_new' (by simp) _
  have hO : Off (fun _ => False) w W0.drew := by rw [hW0]; exact (((Off.refl _ w).alloc _).alloc _).drew
  have hS := Lib.hid (And.intro hA.four (And.intro hB.four (And.intro (hT.off hO) hO)))
  rw [hW0] at hS
  clear hA hB hO hW0 hT
  go_enter Tryd.func4, Tryd.ntmps4
  go_wp2_with fail
  have hS := hS.out
  go_region_held3 (fun w' => (w'.cell? ⟨w.heap.size, 0, none⟩ = some (.int .u64 (wd n0 0 : Int)) ∧ w'.cell? ⟨w.heap.size, 1, none⟩ = some (.int .u64 (wd n0 1 : Int)) ∧ w'.cell? ⟨w.heap.size, 2, none⟩ = some (.int .u64 (wd n0 2 : Int)) ∧ w'.cell? ⟨w.heap.size, 3, none⟩ = some (.int .u64 (wd n0 3 : Int))) ∧ (w'.cell? ⟨w.heap.size + 1, 0, none⟩ = some (.int .u64 (wd n1 0 : Int)) ∧ w'.cell? ⟨w.heap.size + 1, 1, none⟩ = some (.int .u64 (wd n1 1 : Int)) ∧ w'.cell? ⟨w.heap.size + 1, 2, none⟩ = some (.int .u64 (wd n1 2 : Int)) ∧ w'.cell? ⟨w.heap.size + 1, 3, none⟩ = some (.int .u64 (wd n1 3 : Int))) ∧ TabAt w' ∧ Off (fun _ => False) w w')
    (first | assumption | go_keep)
    (first
      | (go_at_call 11; refine (held_tab alive_any (by assumption)).mono ?_; rintro e w' ⟨rfl, hS⟩)
      | (go_at_call 12; refine (held_tab F1.out (by assumption)).mono ?_; rintro e w' ⟨rfl, hS⟩)
      | (go_at_call 14; refine (held_tab F2.out (by assumption)).mono ?_; rintro e w' ⟨rfl, hS⟩)
      | (go_at_call 13; refine (held_tab F3.out (by assumption)).mono ?_; rintro e w' ⟨rfl, hS⟩))
  go_wp2
  go_ret
  go_split_ands
  exact ⟨rfl, by assumption⟩

theorem door_met (os : Os) (args : Array Value) : laidMetH Tryd.prog [("sharecore/field.fields", Rows.laid_sharecore_field_fields)] ((World.doorLaid Tryd.prog 400 os).forCall (fun _ _ => 0) ⟨#[], args, []⟩).memory :=
  laidMetH_of_parts3 (fuel := 8) (laidMet_of_run' 8 (by kernel_rfl) (by kernel_rfl)) (by kernel_rfl) (by kernel_rfl)

set_option maxRecDepth 100000 in
theorem lifted (os : Os) (started : os.Started) (H : Type) (enc : TypeId × Value → H) :
    ReturnsInHanded {} Tryd.checked os 4 .any (fun w args => (Rows.fieldContainsSpec.pre enc Tryd.prog Tryd.f4 [] false w args ∧ laidMetH Tryd.prog [("sharecore/field.fields", Rows.laid_sharecore_field_fields)] w) ∧ sizedMet enc Tryd.prog Tryd.f4 (OpenSpec.ofChange Rows.fieldContainsSpec) false w args)
      (Rows.fieldContainsSpec.post enc Tryd.prog Tryd.f4 false true false false) := by
  refine returnsInHanded_of_change_and (C := Tryd.checked) (X := fun w _ => laidMetH Tryd.prog [("sharecore/field.fields", Rows.laid_sharecore_field_fields)] w) (fun _ _ _ hh h => h.of_heap hh) own started (by kernel_rfl) Tryd.func4
    (ChangeSpec.witness_shaped (enc := enc) (C := Tryd.checked) (os := os) (X := fun w _ => laidMetH Tryd.prog [("sharecore/field.fields", Rows.laid_sharecore_field_fields)] w) false (World.doorLaid Tryd.prog 400 os) #[.agg #[.int .u64 0, .int .u64 0, .int .u64 0, .int .u64 0], .agg #[.int .u64 0, .int .u64 0, .int .u64 0, .int .u64 0]] 8 rfl (World.shaped_of_RefB (by kernel_rfl) (by kernel_rfl)) (by kernel_rfl) (by kernel_rfl) (by kernel_rfl) (door_met os _)) ?_
  intro W base args ds gs before hval0 hW _ _ hL _
  have hval : ∀ (j : Nat) t v, Tryd.f4.params[j]? = some t → args[j]? = some v → Value.okWide Tryd.prog W .any base t v := hval0
  have hW' := hW
  obtain ⟨p, q, hA0, hV, rfl, hfz, hnd⟩ := hW
  have hA : DataW.TrodAll enc Tryd.prog W 0 (fun _ => true) true Tryd.f4.params.toList args.toList ds p := hA0
  rw [Tryd.params4] at hA hval
  obtain ⟨v0, vs0, d0, ds0, p0, q0, hargs, rfl, rfl, h0, r0⟩ := trodAll_cons hA
  obtain ⟨v1, vs1, d1, ds1, p1, q1, rfl, rfl, rfl, h1, r1⟩ := trodAll_cons r0
  obtain ⟨rfl, rfl, rfl⟩ := trodAll_nil r1
  obtain rfl : args = #[v0, v1] := by cases args; simp_all
  obtain ⟨rfl, rfl⟩ := trodVars_none hV
  have k0 := h0
  have lt0 : ∀ x ∈ p0, x.block < W.heap.size := by obtain ⟨m, hm⟩ := k0; exact DataW.trod_lt m _ _ _ hm
  obtain ⟨n0, w0, rfl⟩ := open_vec (hval 0 23 v0 rfl rfl) h0
  have k1 := h1
  have lt1 : ∀ x ∈ p1, x.block < W.heap.size := by obtain ⟨m, hm⟩ := k1; exact DataW.trod_lt m _ _ _ hm
  obtain ⟨n1, w1, rfl⟩ := open_vec (hval 1 23 v1 rfl rfl) h1
  have hT := tab_of_laid hL
  clear hA0 hval0
  refine (walk n0 n1 W w0 w1 hT).mono fun e W' ⟨he, hoff⟩ => ?_
  have bel : Below W.heap.size W W' := hoff.below (Nat.le_refl _) (fun _ _ c => c)
  subst he
  exact ⟨_, rfl, _, _, _, [], _, [], hW', trodAll_mk1 (shut_bool Tryd.underlying4 _), (trodAll_cons_mk (Below.trod laidOut (by kernel_rfl) (of_decide_eq_true (by kernel_rfl)) k0 bel lt0) (trodAll_cons_mk (Below.trod laidOut (by kernel_rfl) (of_decide_eq_true (by kernel_rfl)) k1 bel lt1) trodAll_mk0)), rfl, bel.frame _, fun h => by cases h⟩

theorem over : Rows.fieldContainsRow.holds Tryd.pinned (OpenSpec.ofChange Rows.fieldContainsSpec) :=
  OpenClaim.holds_of_wide 4 Tryd.f4 rfl rfl rfl rfl rfl rfl rfl ⟨rfl, rfl, rfl, rfl, rfl⟩ rfl rfl rfl rfl rfl (by kernel_rfl) Tryd.func4 (by kernel_rfl)
    (of_decide_eq_true (by kernel_rfl)) (by unfold Func.isWrapper; first | (rw [if_pos (by decide +kernel)]; kernel_rfl) | (rw [if_neg (by decide +kernel)]; exact ⟨rfl, rfl⟩))
    (fun os started H enc _ => lifted os started H enc)

theorem proved : Rows.FieldContainsCardSaid :=
  Claim7.holds_tied_plain_at .later [] [.data] true (true, "8d33200e40fec3579d79c2056285ba5d5493a356e675c7f0ac56b4f91c6d33fd") false
    over (fun _ h => by cases h) (by kernel_rfl) (fun _ h => by cases h) fieldContains_row_tie rfl ⟨rfl, rfl⟩ (by kernel_rfl) rfl
    (fun f fn hf hfn => by
      obtain rfl : f = 4 := Option.some.inj ((show Tryd.prog.funcNamed "sharecore/sharecorelaw04.FieldContains" = some 4 by kernel_rfl).symm.trans hf) |>.symm
      obtain rfl : fn = Tryd.f4 := (Option.some.inj (Tryd.func4.symm.trans hfn)).symm
      exact ⟨by kernel_rfl, fun j t ht => by
        rw [Tryd.params4] at ht
        have hm : t ∈ [23] := by simpa using Array.mem_of_getElem? ht
        have hall : ([23].all fun u => !Tryd.prog.wantsStandIn u) = true := by kernel_rfl
        exact (show Tryd.prog.wantsStandIn t = false by simpa using List.all_eq_true.1 hall t hm)⟩)
    (by kernel_rfl)
#print axioms proved
end Go.Proofs.YtiappkokbdhgeaaDoor.fieldContains
