/-
  For every word, the examples of the chapter hold, and for each field the Inverse times the modulus plus 1 is a multiple of 2^64, Contains holds of One and not of the modulus: the statement of P4.1. No condition.
-/
import Derived.Test.YtiappkokbdhgeaaDoorRows
import Derived.Test.YtiappkokbdhgeaaDoorTie
import Derived.Test.YtiappkokbdhgeaaDoorCards
import Derived.LaidMore
import Derived.LaidHandle
import Derived.SevenTiedAt
import Derived.Stop.Joined
import Derived.JoinedOf
import Derived.Test.YtiappkokbdhgeaaDoorLimbOpen
import Derived.Test.YtiappkokbdhgeaaDoorFieldTab
import Derived.Test.YtiappkokbdhgeaaDoorFieldHeld
import Derived.Test.YtiappkokbdhgeaaDoorFieldOps
import Derived.Test.YtiappkokbdhgeaaDoorFieldAll
import Derived.WalkKit
import Derived.ProofKit
import Derived.OpenShut
import Derived.ShutString
import Derived.ChangeOld
import Derived.Below
namespace Go.Proofs.YtiappkokbdhgeaaDoor.fieldInverses
open Go.ChangeShapes Go.WideShapes Go.ChangeAt Go.RowKit
set_option linter.unusedVariables false

theorem own : ownKnob Tryd.prog.godebug = none := by kernel_rfl
theorem laidOut : laidOutB Tryd.prog = true := by kernel_rfl

theorem field_at (k : Nat) (hk : k < 2) : ∃ p, p < R256 ∧ 1 < p ∧ modN ((k : Int) + 1) = p ∧ (negInv (wd p 0) * wd p 0 % 18446744073709551616 + 1) % 18446744073709551616 = 0 := by
  rcases (show k = 0 ∨ k = 1 by omega) with rfl | rfl
  · exact ⟨P1, p1_lt, p1_one, rfl, by decide +kernel⟩
  · exact ⟨P2, p2_lt, p2_one, rfl, by decide +kernel⟩
set_option maxHeartbeats 4000000 in
theorem walk (i0 : Int) (w : World) (w0 : (Lit.int .u64 i0).wf = true) (hT : TabAt w) :
    Calls Tryd.prog 7 #[.int .u64 i0] w fun e w' => e = .returned (.bool true) ∧ Off (fun _ => False) w w' := by
  clear w0
  go_enter Tryd.func7, Tryd.ntmps7
  go_wp2_with fail
  refine (all_any _ hT).mono ?_
  rintro e u ⟨b, cap, rfl, hcap, hb0, hb1, hO⟩
  have H0 := Lib.hid (And.intro hb0 (And.intro hb1 (And.intro (hT.off hO) hO)))
  clear hb0 hb1 hO hT
  go_wp2_with fail
  go_loopw [9] (fun i wr => ∃ k : Nat, k ≤ 2 ∧ i = .int .i64 k ∧ wr.cell? ⟨b, 0, none⟩ = some (.int .i64 1) ∧ wr.cell? ⟨b, 1, none⟩ = some (.int .i64 2) ∧ TabAt wr ∧ Off (fun _ => False) w wr) (fun i _ => 2 - (intOf i).toNat)
  case atStart => exact ⟨0, by omega, rfl, H0.out⟩
  case round =>
    obtain ⟨k, hk, rfl, hb0, hb1, hT, hO⟩ := hrel
    by_cases hlt : k < 2
    · obtain ⟨p, hp, h1, hm, hinv⟩ := field_at k hlt
      have i1 : decide ((k : Int) < 2) = true := by simp; omega
      have hcell : wr.cell? ⟨b, k, none⟩ = some (.int .i64 ((k : Int) + 1)) := by
        rcases (show k = 0 ∨ k = 1 by omega) with rfl | rfl
        · exact hb0
        · exact hb1
      obtain ⟨d, hd⟩ : ∃ d : Int, d = (k : Int) + 1 := ⟨_, rfl⟩
      have HD := Lib.hid hd
      rw [← hd] at hm hcell
      have hrl : radV p 256 < p := Nat.mod_lt _ (by omega)
      have F1 := Lib.hid (fun W hT => fget_in d p hp h1 hm W hT)
      obtain ⟨i, hi⟩ : ∃ i, i = negInv (wd p 0) := ⟨_, rfl⟩
      obtain ⟨s, hs⟩ : ∃ s, s = radV p 256 * radV p 256 % p := ⟨_, rfl⟩
      obtain ⟨r, hr⟩ : ∃ r, r = radV p 256 := ⟨_, rfl⟩
      rw [← hi, ← hs, ← hr] at F1
      rw [← hr] at hrl
      rw [← hi] at hinv
      have F2 := fun W => contains_any d p i r s r hp (by omega) W
      have F3 := fun W => contains_any d p i r s p hp hp W
      rw [show lessN r p = true by simp [lessN, hrl]] at F2
      rw [show lessN p p = false by simp [lessN]] at F3
      have F2 := Lib.hid F2
      have F3 := Lib.hid F3
      obtain ⟨m, hm2⟩ : ∃ m, m = i * wd p 0 % 18446744073709551616 := ⟨_, rfl⟩
      rw [← hm2] at hinv
      have w1 : IntKind.u64.wrap ((i : Int) * (wd p 0 : Int)) = (m : Int) := by rw [IntKind.wrap_u64, ← Int.natCast_mul, hm2]; omega
      have w2 : IntKind.u64.wrap ((m : Int) + 1) = 0 := by rw [IntKind.wrap_u64]; omega
      have w3 : IntKind.u64.wrap (0 * i0) = 0 := by rw [Int.zero_mul]; decide
      have HTab := Lib.hid hT
      have HI := Lib.hid (And.intro hb0 (And.intro hb1 hO))
      clear hi hs hr hm hm2 hinv hrl hp h1 hd hb0 hb1 hT hO
      go_wp2_with fail
      refine (F1.out _ HTab.out).mono ?_
      rintro e u1 ⟨rfl, hO1⟩
      have HT1 := Lib.hid (HTab.out.off hO1)
      have HI1 := Lib.hid (And.intro (hO1.cell HI.out.1 (fun c => c)) (And.intro (hO1.cell HI.out.2.1 (fun c => c)) (HI.out.2.2.trans hO1 (fun _ _ c => c))))
      clear hcell hO1 HTab HI
      go_wp2_with fail
      refine (F2.out _).mono ?_
      rintro e u2 ⟨rfl, hO2⟩
      have hB := hO2.heap (heap_new' (w := u1) rfl _) (fun c => c)
      obtain ⟨c0, c1, c2, c3, c4, c5, c6, c7, c8, c9, c10, c11, c12, c13⟩ := fv_cells hB
      have hlt2 := heap_lt hB
      have HG := Lib.hid (((Off.refl (fun _ => False) u1).alloc _).trans hO2 (fun _ _ c => c))
      have HB := Lib.hid hB
      clear hB hO2
      go_wp2_with fail
      refine (F3.out _).mono ?_
      rintro e u3 ⟨rfl, hO3⟩
      have HG3 := Lib.hid (HG.out.trans hO3 (fun _ _ c => c))
      clear hO3 c0 c1 c2 c3 c4 c5 c6 c7 c8 c9 c10 c11 c12 c13 hlt2 HB HG w1 w2 w3
      go_wp2
      go_roundw
      case rel => exact ⟨k + 1, by omega, by rfl, HG3.out.cell HI1.out.1 (fun c => c), HG3.out.cell HI1.out.2.1 (fun c => c), HT1.out.off HG3.out, HI1.out.2.2.trans HG3.out (fun _ _ c => c)⟩
      case measure => simp [intOf] <;> omega
    · obtain rfl : k = 2 := by omega
      have HT := Lib.hid hT
      have HO := Lib.hid hO
      clear hb0 hb1 hT hO
      go_wp2_with fail
      refine (alive_any _ HT.out).mono ?_
      rintro e u1 ⟨rfl, hO1⟩
      have HT1 := Lib.hid (HT.out.off hO1)
      have HO1 := Lib.hid (HO.out.trans hO1 (fun _ _ c => c))
      clear hO1 HT HO
      go_wp2_with fail
      refine (all_any _ HT1.out).mono ?_
      rintro e u2 ⟨b2, cap2, rfl, hcap2, _, _, hO2⟩
      have HO2 := Lib.hid (HO1.out.trans hO2 (fun _ _ c => c))
      clear hO2
      go_wp2
      go_ret
      exact ⟨rfl, HO2.out⟩

theorem door_met (os : Os) (args : Array Value) : laidMetH Tryd.prog [("sharecore/field.fields", Rows.laid_sharecore_field_fields)] ((World.doorLaid Tryd.prog 400 os).forCall (fun _ _ => 0) ⟨#[], args, []⟩).memory :=
  laidMetH_of_parts3 (fuel := 8) (laidMet_of_run' 8 (by kernel_rfl) (by kernel_rfl)) (by kernel_rfl) (by kernel_rfl)

set_option maxRecDepth 100000 in
theorem lifted (os : Os) (started : os.Started) (H : Type) (enc : TypeId × Value → H) :
    ReturnsInHanded {} Tryd.checked os 7 .any (fun w args => (Rows.fieldInversesSpec.pre enc Tryd.prog Tryd.f7 [] false w args ∧ laidMetH Tryd.prog [("sharecore/field.fields", Rows.laid_sharecore_field_fields)] w) ∧ sizedMet enc Tryd.prog Tryd.f7 (OpenSpec.ofChange Rows.fieldInversesSpec) false w args)
      (Rows.fieldInversesSpec.post enc Tryd.prog Tryd.f7 false true false false) := by
  refine returnsInHanded_of_change_and (C := Tryd.checked) (X := fun w _ => laidMetH Tryd.prog [("sharecore/field.fields", Rows.laid_sharecore_field_fields)] w) (fun _ _ _ hh h => h.of_heap hh) own started (by kernel_rfl) Tryd.func7
    (ChangeSpec.witness_shaped (enc := enc) (C := Tryd.checked) (os := os) (X := fun w _ => laidMetH Tryd.prog [("sharecore/field.fields", Rows.laid_sharecore_field_fields)] w) false (World.doorLaid Tryd.prog 400 os) #[.int .u64 0] 8 rfl (World.shaped_of_RefB (by kernel_rfl) (by kernel_rfl)) (by kernel_rfl) (by kernel_rfl) (by kernel_rfl) (door_met os _)) ?_
  intro W base args ds gs before hval0 hW _ _ hL _
  have hval : ∀ (j : Nat) t v, Tryd.f7.params[j]? = some t → args[j]? = some v → Value.okWide Tryd.prog W .any base t v := hval0
  have hW' := hW
  obtain ⟨p, q, hA0, hV, rfl, hfz, hnd⟩ := hW
  have hA : DataW.TrodAll enc Tryd.prog W 0 (fun _ => true) true Tryd.f7.params.toList args.toList ds p := hA0
  rw [Tryd.params7] at hA hval
  obtain ⟨v0, vs0, d0, ds0, p0, q0, hargs, rfl, rfl, h0, r0⟩ := trodAll_cons hA
  obtain ⟨rfl, rfl, rfl⟩ := trodAll_nil r0
  obtain rfl : args = #[v0] := by cases args; simp_all
  obtain ⟨rfl, rfl⟩ := trodVars_none hV
  obtain ⟨i0, rfl, rfl, rfl, w0⟩ := open_int Tryd.underlying22 (hval 0 22 v0 rfl rfl) h0
  have hT := tab_of_laid hL
  clear hA0 hval0
  refine (walk i0 W w0 hT).mono fun e W' ⟨he, hoff⟩ => ?_
  have bel : Below W.heap.size W W' := hoff.below (Nat.le_refl _) (fun _ _ c => c)
  subst he
  exact ⟨_, rfl, _, _, _, [], _, [], hW', trodAll_mk1 (shut_bool Tryd.underlying4 _), (trodAll_cons_mk (shut_int Tryd.underlying22 w0) trodAll_mk0), rfl, bel.frame _, fun h => by cases h⟩

theorem over : Rows.fieldInversesRow.holds Tryd.pinned (OpenSpec.ofChange Rows.fieldInversesSpec) :=
  OpenClaim.holds_of_wide 7 Tryd.f7 rfl rfl rfl rfl rfl rfl rfl ⟨rfl, rfl, rfl, rfl, rfl⟩ rfl rfl rfl rfl rfl (by kernel_rfl) Tryd.func7 (by kernel_rfl)
    (of_decide_eq_true (by kernel_rfl)) (by unfold Func.isWrapper; first | (rw [if_pos (by decide +kernel)]; kernel_rfl) | (rw [if_neg (by decide +kernel)]; exact ⟨rfl, rfl⟩))
    (fun os started H enc _ => lifted os started H enc)

theorem proved : Rows.FieldInversesCardSaid :=
  Claim7.holds_tied_plain_at .later [] [.data] true (true, "8d33200e40fec3579d79c2056285ba5d5493a356e675c7f0ac56b4f91c6d33fd") false
    over (fun _ h => by cases h) (by kernel_rfl) (fun _ h => by cases h) fieldInverses_row_tie rfl ⟨rfl, rfl⟩ (by kernel_rfl) rfl
    (fun f fn hf hfn => by
      obtain rfl : f = 7 := Option.some.inj ((show Tryd.prog.funcNamed "sharecore/sharecorelaw04.FieldInverses" = some 7 by kernel_rfl).symm.trans hf) |>.symm
      obtain rfl : fn = Tryd.f7 := (Option.some.inj (Tryd.func7.symm.trans hfn)).symm
      exact ⟨by kernel_rfl, fun j t ht => by
        rw [Tryd.params7] at ht
        have hm : t ∈ [22] := by simpa using Array.mem_of_getElem? ht
        have hall : ([22].all fun u => !Tryd.prog.wantsStandIn u) = true := by kernel_rfl
        exact (show Tryd.prog.wantsStandIn t = false by simpa using List.all_eq_true.1 hall t hm)⟩)
    (by kernel_rfl)
#print axioms proved
end Go.Proofs.YtiappkokbdhgeaaDoor.fieldInverses
