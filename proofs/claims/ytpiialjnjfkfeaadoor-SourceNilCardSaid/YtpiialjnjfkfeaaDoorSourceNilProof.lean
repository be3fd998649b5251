/-
  For every field and number, the examples of the chapter hold, and a nil source returns ErrNil and zero values: the statement of P14.1 to P14.3. No condition.
-/
import Derived.Test.YtpiialjnjfkfeaaDoorRows
import Derived.Test.YtpiialjnjfkfeaaDoorTie
import Derived.Test.YtpiialjnjfkfeaaDoorCards
import Derived.LaidMore
import Derived.LaidHandle
import Derived.SevenTiedAt
import Derived.Stop.Joined
import Derived.JoinedOf
import Derived.Test.YtpiialjnjfkfeaaDoorLimbOpen
import Derived.Test.YtpiialjnjfkfeaaDoorFieldTab
import Derived.Test.YtpiialjnjfkfeaaDoorFieldHeld
import Derived.Test.YtpiialjnjfkfeaaDoorSrcAlive
import Derived.WalkKit
import Derived.ProofKit
import Derived.OpenShut
import Derived.ShutString
import Derived.ChangeOld
import Derived.Below
namespace Go.Proofs.YtpiialjnjfkfeaaDoor.sourceNil
open Go.ChangeShapes Go.WideShapes Go.ChangeAt Go.RowKit
set_option linter.unusedVariables false

theorem own : ownKnob Tryd.prog.godebug = none := by kernel_rfl
theorem laidOut : laidOutB Tryd.prog = true := by kernel_rfl

theorem cells4z {w : World} {b : Nat} {T : TypeId} (h : w.heap[b]? = some (.cells #[.int .u64 0, .int .u64 0, .int .u64 0, .int .u64 0] T (0, 0))) : w.cell? ⟨b, 0, none⟩ = some (.int .u64 0) ∧ w.cell? ⟨b, 1, none⟩ = some (.int .u64 0) ∧ w.cell? ⟨b, 2, none⟩ = some (.int .u64 0) ∧ w.cell? ⟨b, 3, none⟩ = some (.int .u64 0) := ⟨cell_of_heap h 0, cell_of_heap h 1, cell_of_heap h 2, cell_of_heap h 3⟩
set_option maxRecDepth 100000 in
set_option maxHeartbeats 4000000 in
theorem walk (i0 : Bool) (i1 : Int) (w : World) (w0 : True) (w1 : (Lit.int .i64 i1).wf = true) (hT : TabAt w) :
    Calls Tryd.prog 8 #[.bool i0, .int .i64 i1] w fun e w' => e = .returned (.bool true) ∧ Off (fun _ => False) w w' := by
  have FAL : Hid (∀ W, TabAt W → Calls Tryd.prog 9 #[] W fun e w' => e = .returned (.bool true) ∧ Off (fun _ => False) W w') := Lib.hid (fun W hT => alive14_any W hT)
  have HT := Lib.hid hT
  clear hT
  obtain ⟨id, p, i, r, s, hF, hid⟩ := fld_of i0
  have hp := hF.mp.lt
  have h1 := hF.mp.one
  have FG := Lib.hid (fun W hT => get14_any i0 hF hid W hT)
  clear hid
  clear hF hp h1
  go_enter Tryd.func8, Tryd.ntmps8
  go_wp2_with fail
  refine (FG.out _ HT.out).mono ?_
  rintro e u0 ⟨rfl, hO⟩
  obtain ⟨W0, hW0⟩ : ∃ W0, W0 = ((u0.alloc (.cells #[.int .i64 id, .int .u64 (wd p 0 : Int), .int .u64 (wd p 1 : Int), .int .u64 (wd p 2 : Int), .int .u64 (wd p 3 : Int), .int .u64 (i : Int), .int .u64 (wd r 0 : Int), .int .u64 (wd r 1 : Int), .int .u64 (wd r 2 : Int), .int .u64 (wd r 3 : Int), .int .u64 (wd s 0 : Int), .int .u64 (wd s 1 : Int), .int .u64 (wd s 2 : Int), .int .u64 (wd s 3 : Int)] 42)).alloc (.cells #[.int .u64 (wd p 0 : Int), .int .u64 (wd p 1 : Int), .int .u64 (wd p 2 : Int), .int .u64 (wd p 3 : Int)] 39)) := ⟨_, rfl⟩
  have hs0 : W0.heap.size = u0.heap.size + 2 := by rw [hW0]; simp
  have hKf : W0.heap[u0.heap.size]? = some (.cells #[.int .i64 id, .int .u64 (wd p 0 : Int), .int .u64 (wd p 1 : Int), .int .u64 (wd p 2 : Int), .int .u64 (wd p 3 : Int), .int .u64 (i : Int), .int .u64 (wd r 0 : Int), .int .u64 (wd r 1 : Int), .int .u64 (wd r 2 : Int), .int .u64 (wd r 3 : Int), .int .u64 (wd s 0 : Int), .int .u64 (wd s 1 : Int), .int .u64 (wd s 2 : Int), .int .u64 (wd s 3 : Int)] 42) := by rw [hW0]; exact heap_old' (heap_new' rfl _) _
  have hKp : W0.heap[u0.heap.size + 1]? = some (.cells #[.int .u64 (wd p 0 : Int), .int .u64 (wd p 1 : Int), .int .u64 (wd p 2 : Int), .int .u64 (wd p 3 : Int)] 39) := by rw [hW0]; exact heap_new' (by simp) _
  have HO0 := Lib.hid (show Off (fun _ => False) w W0 by rw [hW0]; exact hO.trans (((Off.refl (fun _ => False) u0).alloc _).alloc _) (fun _ _ c => c))
  have HW0 := Lib.hid hW0
  have HS0 := Lib.hid hs0
  have HKF := Lib.hid hKf
  have HKP := Lib.hid hKp
  clear hO hW0 hs0 hKf hKp FG
  go_wp2_with fail
  rw [← HW0.out]
  refine (take_nil i1 _).mono ?_
  rintro e u1 ⟨rfl, hO1⟩
  have HO1 := Lib.hid hO1
  clear hO1
  obtain ⟨f0, f1, f2, f3, f4, f5, f6, f7, f8, f9, f10, f11, f12, f13⟩ := fv_cells (HO1.out.heap HKF.out (fun c => c))
  have hltf := heap_lt (HO1.out.heap HKF.out (fun c => c))
  go_wp2_with fail
  refine (elem_nil id p i r s _).mono ?_
  rintro e u2 ⟨rfl, hO2⟩
  have HO2 := Lib.hid (HO1.out.trans hO2 (fun _ _ c => c))
  clear hO2
  clear f0 f1 f2 f3 f4 f5 f6 f7 f8 f9 f10 f11 f12 f13 hltf
  obtain ⟨W2, hW2⟩ : ∃ W2, W2 = u2.alloc (.cells #[.int .u64 0, .int .u64 0, .int .u64 0, .int .u64 0] 40) := ⟨_, rfl⟩
  have hA2 : Off (fun _ => False) u2 W2 := by rw [hW2]; exact (Off.refl _ u2).alloc _
  have g2 : W2.heap[u2.heap.size]? = some (.cells #[.int .u64 0, .int .u64 0, .int .u64 0, .int .u64 0] 40) := by rw [hW2]; exact heap_new' rfl _
  have HW2 := Lib.hid hW2
  have HO2 := Lib.hid (HO2.out.trans hA2 (fun _ _ c => c))
  have HG2 := Lib.hid g2
  have hs2 : W2.heap.size = u2.heap.size + 1 := by rw [hW2]; simp
  have HS2 := Lib.hid hs2
  clear hW2 hA2 g2 hs2
  have hf2 := HO2.out.heap HKF.out (fun c => c)
  rw [HW2.out] at hf2
  obtain ⟨f0, f1, f2, f3, f4, f5, f6, f7, f8, f9, f10, f11, f12, f13⟩ := fv_cells (hf2)
  have hltf := heap_lt (hf2)
  go_wp2_with fail
  rw [← HW2.out]
  refine (els_nil id p i r s i1 _).mono ?_
  rintro e u3 ⟨rfl, hO3⟩
  have HO3 := Lib.hid (HO2.out.trans hO3 (fun _ _ c => c))
  have HG3 := Lib.hid (hO3.heap HG2.out (fun c => c))
  clear hO3 hf2
  clear f0 f1 f2 f3 f4 f5 f6 f7 f8 f9 f10 f11 f12 f13 hltf
  go_wp2_with fail
  refine (FAL.out _ (HT.out.off (HO0.out.trans HO3.out (fun _ _ c => c)))).mono ?_
  rintro e u4 ⟨rfl, hO4⟩
  have HO4 := Lib.hid (HO3.out.trans hO4 (fun _ _ c => c))
  have HG4 := Lib.hid (hO4.heap HG3.out (fun c => c))
  clear hO4
  go_wp2_with fail
  refine (left_nil _).mono ?_
  rintro e u5 ⟨rfl, hO5⟩
  have HO5 := Lib.hid (HO4.out.trans hO5 (fun _ _ c => c))
  have hg5 := hO5.heap HG4.out (fun c => c)
  obtain ⟨x0, x1, x2, x3⟩ := cells4z hg5
  have hlx := heap_lt hg5
  clear hO5 hg5
  have he := fun W => eql_elem 0 0 0 0 W
  go_wp2
  go_ret
  exact ⟨rfl, HO0.out.trans HO5.out (fun _ _ c => c)⟩

theorem door_met (os : Os) (args : Array Value) : laidMetH Tryd.prog [("sharecore/field.fields", Rows.laid_sharecore_field_fields)] ((World.doorLaid Tryd.prog 400 os).forCall (fun _ _ => 0) ⟨#[], args, []⟩).memory :=
  laidMetH_of_parts3 (fuel := 8) (laidMet_of_run' 8 (by kernel_rfl) (by kernel_rfl)) (by kernel_rfl) (by kernel_rfl)

set_option maxRecDepth 100000 in
theorem lifted (os : Os) (started : os.Started) (H : Type) (enc : TypeId × Value → H) :
    ReturnsInHanded {} Tryd.checked os 8 .any (fun w args => (Rows.sourceNilSpec.pre enc Tryd.prog Tryd.f8 [] false w args ∧ laidMetH Tryd.prog [("sharecore/field.fields", Rows.laid_sharecore_field_fields)] w) ∧ sizedMet enc Tryd.prog Tryd.f8 (OpenSpec.ofChange Rows.sourceNilSpec) false w args)
      (Rows.sourceNilSpec.post enc Tryd.prog Tryd.f8 false true false false) := by
  refine returnsInHanded_of_change_and (C := Tryd.checked) (X := fun w _ => laidMetH Tryd.prog [("sharecore/field.fields", Rows.laid_sharecore_field_fields)] w) (fun _ _ _ hh h => h.of_heap hh) own started (by kernel_rfl) Tryd.func8
    (ChangeSpec.witness_shaped (enc := enc) (C := Tryd.checked) (os := os) (X := fun w _ => laidMetH Tryd.prog [("sharecore/field.fields", Rows.laid_sharecore_field_fields)] w) false (World.doorLaid Tryd.prog 400 os) #[.bool false, .int .i64 0] 8 rfl (World.shaped_of_RefB (by kernel_rfl) (by kernel_rfl)) (by kernel_rfl) (by kernel_rfl) (by kernel_rfl) (door_met os _)) ?_
  intro W base args ds gs before hval0 hW _ hsz hL _
  have hval : ∀ (j : Nat) t v, Tryd.f8.params[j]? = some t → args[j]? = some v → Value.okWide Tryd.prog W .any base t v := hval0
  have hW' := hW
  obtain ⟨p, q, hA0, hV, rfl, hfz, hnd⟩ := hW
  have hA : DataW.TrodAll enc Tryd.prog W 0 (fun _ => true) true Tryd.f8.params.toList args.toList ds p := hA0
  rw [Tryd.params8] at hA hval
  obtain ⟨v0, vs0, d0, ds0, p0, q0, hargs, rfl, rfl, h0, r0⟩ := trodAll_cons hA
  obtain ⟨v1, vs1, d1, ds1, p1, q1, rfl, rfl, rfl, h1, r1⟩ := trodAll_cons r0
  obtain ⟨rfl, rfl, rfl⟩ := trodAll_nil r1
  obtain rfl : args = #[v0, v1] := by cases args; simp_all
  obtain ⟨rfl, rfl⟩ := trodVars_none hV
  obtain ⟨i0, rfl, rfl, rfl⟩ := open_bool Tryd.underlying4 (hval 0 4 v0 rfl rfl) h0
  have w0 := trivial
  obtain ⟨i1, rfl, rfl, rfl, w1⟩ := open_int Tryd.underlying3 (hval 1 3 v1 rfl rfl) h1
  have hT := tab_of_laid hL
  clear hA0 hval0
  refine (walk i0 i1 W w0 w1 hT).mono fun e W' ⟨he, hoff⟩ => ?_
  have bel : Below W.heap.size W W' := hoff.below (Nat.le_refl _) (fun _ _ c => c)
  subst he
  exact ⟨_, rfl, _, _, _, [], _, [], hW', trodAll_mk1 (shut_bool Tryd.underlying4 _), (trodAll_cons_mk (shut_bool Tryd.underlying4 _) (trodAll_cons_mk (shut_int Tryd.underlying3 w1) trodAll_mk0)), rfl, bel.frame _, fun h => by cases h⟩

theorem over : Rows.sourceNilRow.holds Tryd.pinned (OpenSpec.ofChange Rows.sourceNilSpec) :=
  OpenClaim.holds_of_wide 8 Tryd.f8 rfl rfl rfl rfl rfl rfl rfl ⟨rfl, rfl, rfl, rfl, rfl⟩ rfl rfl rfl rfl rfl (by kernel_rfl) Tryd.func8 (by kernel_rfl)
    (of_decide_eq_true (by kernel_rfl)) (by unfold Func.isWrapper; first | (rw [if_pos (by decide +kernel)]; kernel_rfl) | (rw [if_neg (by decide +kernel)]; exact ⟨rfl, rfl⟩))
    (fun os started H enc _ => lifted os started H enc)

theorem proved : Rows.SourceNilCardSaid :=
  Claim7.holds_tied_plain_at .later [] [.data] true (true, "6f64277cbffadd23f4f09293482bc941ab7d4d501c3abca4f435855ccbd2f86e") false
    over (fun _ h => by cases h) (by kernel_rfl) (fun _ h => by cases h) sourceNil_row_tie rfl ⟨rfl, rfl⟩ (by kernel_rfl) rfl
    (fun f fn hf hfn => by
      obtain rfl : f = 8 := Option.some.inj ((show Tryd.prog.funcNamed "sharecore/sharecorelaw14.SourceNil" = some 8 by kernel_rfl).symm.trans hf) |>.symm
      obtain rfl : fn = Tryd.f8 := (Option.some.inj (Tryd.func8.symm.trans hfn)).symm
      exact ⟨by kernel_rfl, fun j t ht => by
        rw [Tryd.params8] at ht
        have hm : t ∈ [4, 3] := by simpa using Array.mem_of_getElem? ht
        have hall : ([4, 3].all fun u => !Tryd.prog.wantsStandIn u) = true := by kernel_rfl
        exact (show Tryd.prog.wantsStandIn t = false by simpa using List.all_eq_true.1 hall t hm)⟩)
    (by kernel_rfl)
#print axioms proved
end Go.Proofs.YtpiialjnjfkfeaaDoor.sourceNil
