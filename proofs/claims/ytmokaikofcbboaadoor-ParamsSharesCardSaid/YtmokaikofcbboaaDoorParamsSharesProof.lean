/-
  For every list of shares, CheckShares returns the same result as the reference: the statement of P15.4. No condition.
-/
import Derived.Test.YtmokaikofcbboaaDoorRows
import Derived.Test.YtmokaikofcbboaaDoorTie
import Derived.Test.YtmokaikofcbboaaDoorCards
import Derived.LaidMore
import Derived.LaidHandle
import Derived.SevenTiedAt
import Derived.Stop.Joined
import Derived.JoinedOf
import Derived.Test.YtmokaikofcbboaaDoorLimbOpen
import Derived.Test.YtmokaikofcbboaaDoorFieldTab
import Derived.Test.YtmokaikofcbboaaDoorParOpen
import Derived.Test.YtmokaikofcbboaaDoorParAlive
import Derived.Test.YtmokaikofcbboaaDoorParRefL
import Derived.Test.YtmokaikofcbboaaDoorParLarge
import Derived.WalkKit
import Derived.ProofKit
import Derived.OpenShut
import Derived.ShutString
import Derived.ChangeOld
import Derived.Below
namespace Go.Proofs.YtmokaikofcbboaaDoor.paramsShares
open Go.ChangeShapes Go.WideShapes Go.ChangeAt Go.RowKit
set_option linter.unusedVariables false

theorem own : ownKnob Tryd.prog.godebug = none := by kernel_rfl
theorem laidOut : laidOutB Tryd.prog = true := by kernel_rfl

set_option maxRecDepth 100000 in
set_option maxHeartbeats 4000000 in
theorem walk (a0 : Option Addr) (n0 cap0 : Nat) (l0 : List Sh) (w : World) (hn0 : n0 = l0.length) (w0 : ShsAt w (.slice a0 n0 cap0) l0 (fun k => k < w.heap.size)) (hT : TabAt w) :
    Calls Tryd.prog 5 #[.slice a0 n0 cap0] w fun e w' => e = .returned (.bool true) ∧ Off (fun _ => False) w w' := by
  have FAL : Hid (∀ W, TabAt W → Calls Tryd.prog 9 #[] W fun e w' => e = .returned (.bool true) ∧ Off (fun _ => False) W w') := Lib.hid (fun W hT => alive15_any W hT)
  have HT := Lib.hid hT
  clear hT
  obtain ⟨c, hc⟩ : ∃ c, c = lrgN l0 := ⟨_, rfl⟩
  have HZ := Lib.hid (show c = 0 → l0.length ≤ 300 ∧ ∀ s ∈ l0, s.pl.length ≤ 5000 from fun h => lrg_zero (hc.symm.trans h))
  have hc01 := lrg_cases l0
  rw [← hc] at hc01
  have FL := Lib.hid (large_any l0 a0 n0 cap0 hn0 (fun k => k < w.heap.size) w w0)
  rw [← hc] at FL
  have HN := Lib.hid hn0
  have HL := Lib.hid w0
  clear hc hn0 w0
  by_cases hbig : c = 1
  · subst hbig
    clear hc01
    go_enter Tryd.func5, Tryd.ntmps5
    go_wp2_with fail
    refine FL.out.mono ?_
    rintro e u ⟨rfl, hO⟩
    have HOl := Lib.hid hO
    clear hO
    go_wp2_with fail
    refine (FAL.out _ (HT.out.off HOl.out)).mono ?_
    rintro e u ⟨rfl, hO⟩
    have HOf := Lib.hid (HOl.out.trans hO (fun _ _ c => c))
    clear hO
    go_wp2
    go_ret
    exact ⟨rfl, HOf.out⟩
  · obtain rfl : c = 0 := by omega
    have hz := HZ.out rfl
    have hl3 : n0 ≤ 300 := by rw [HN.out]; exact hz.1
    have hp5 := hz.2
    clear hbig hc01 hz HZ
    obtain ⟨r, hr⟩ : ∃ r, r = shsN l0 := ⟨_, rfl⟩
    have FC := Lib.hid (fun W (hO : Off (fun _ => False) w W) hT => shares_par l0 a0 n0 cap0 HN.out (by omega) hp5 (fun k => k < w.heap.size) W (HL.out.off hO (fun _ _ _ c => c)) hT)
    have FR := Lib.hid (fun W (hO : Off (fun _ => False) w W) => refshares_any l0 a0 n0 cap0 HN.out (fun k => k < w.heap.size) W (HL.out.off hO (fun _ _ _ c => c)))
    rw [← hr] at FC FR
    clear hr hp5 hl3
    have HOz := Lib.hid (Off.refl (fun _ => False) w)
    go_enter Tryd.func5, Tryd.ntmps5
    go_wp2_with fail
    refine (FL.out).mono ?_
    rintro e u1 ⟨rfl, hO⟩
    have HO1 := Lib.hid (HOz.out.trans hO (fun _ _ c => c))
    clear hO
    go_wp2_with fail
    refine (FAL.out _ (HT.out.off HO1.out)).mono ?_
    rintro e u2 ⟨rfl, hO⟩
    have HO2 := Lib.hid (HO1.out.trans hO (fun _ _ c => c))
    clear hO
    go_wp2_with fail
    refine (FC.out _ HO2.out (HT.out.off HO2.out)).mono ?_
    rintro e u3 ⟨rfl, hO⟩
    have HO3 := Lib.hid (HO2.out.trans hO (fun _ _ c => c))
    clear hO
    go_wp2_with fail
    refine (FR.out _ HO3.out).mono ?_
    rintro e u4 ⟨rfl, hO⟩
    have HO4 := Lib.hid (HO3.out.trans hO (fun _ _ c => c))
    clear hO
    go_wp2
    go_ret
    exact ⟨rfl, HO4.out⟩

theorem door_met (os : Os) (args : Array Value) : laidMetH Tryd.prog [("sharecore/field.fields", Rows.laid_sharecore_field_fields)] ((World.doorLaid Tryd.prog 400 os).forCall (fun _ _ => 0) ⟨#[], args, []⟩).memory :=
  laidMetH_of_parts3 (fuel := 8) (laidMet_of_run' 8 (by kernel_rfl) (by kernel_rfl)) (by kernel_rfl) (by kernel_rfl)

set_option maxRecDepth 100000 in
theorem lifted (os : Os) (started : os.Started) (H : Type) (enc : TypeId × Value → H) :
    ReturnsInHanded {} Tryd.checked os 5 .any (fun w args => (Rows.paramsSharesSpec.pre enc Tryd.prog Tryd.f5 [] false w args ∧ laidMetH Tryd.prog [("sharecore/field.fields", Rows.laid_sharecore_field_fields)] w) ∧ sizedMet enc Tryd.prog Tryd.f5 (OpenSpec.ofChange Rows.paramsSharesSpec) false w args)
      (Rows.paramsSharesSpec.post enc Tryd.prog Tryd.f5 false true false false) := by
  refine returnsInHanded_of_change_and (C := Tryd.checked) (X := fun w _ => laidMetH Tryd.prog [("sharecore/field.fields", Rows.laid_sharecore_field_fields)] w) (fun _ _ _ hh h => h.of_heap hh) own started (by kernel_rfl) Tryd.func5
    (ChangeSpec.witness_shaped (enc := enc) (C := Tryd.checked) (os := os) (X := fun w _ => laidMetH Tryd.prog [("sharecore/field.fields", Rows.laid_sharecore_field_fields)] w) false (World.doorLaid Tryd.prog 400 os) #[.slice none 0 0] 8 rfl (World.shaped_of_RefB (by kernel_rfl) (by kernel_rfl)) (by kernel_rfl) (by kernel_rfl) (by kernel_rfl) (door_met os _)) ?_
  intro W base args ds gs before hval0 hW _ hsz hL _
  have hval : ∀ (j : Nat) t v, Tryd.f5.params[j]? = some t → args[j]? = some v → Value.okWide Tryd.prog W .any base t v := hval0
  have hW' := hW
  obtain ⟨p, q, hA0, hV, rfl, hfz, hnd⟩ := hW
  have hA : DataW.TrodAll enc Tryd.prog W 0 (fun _ => true) true Tryd.f5.params.toList args.toList ds p := hA0
  rw [Tryd.params5] at hA hval
  obtain ⟨v0, vs0, d0, ds0, p0, q0, hargs, rfl, rfl, h0, r0⟩ := trodAll_cons hA
  obtain ⟨rfl, rfl, rfl⟩ := trodAll_nil r0
  obtain rfl : args = #[v0] := by cases args; simp_all
  obtain ⟨rfl, rfl⟩ := trodVars_none hV
  obtain ⟨a0, n0, cap0, rfl⟩ := okWide_slice Tryd.underlying33 (hval 0 33 v0 rfl rfl)
  have k0 := h0
  have lt0 : ∀ x ∈ p0, x.block < W.heap.size := by obtain ⟨m, hm⟩ := k0; exact DataW.trod_lt m _ _ _ hm
  obtain ⟨l0, hn0, w0⟩ : ∃ l, n0 = l.length ∧ ShsAt W (.slice a0 n0 cap0) l (fun k => k < W.heap.size) := by
    obtain ⟨fuel, hf⟩ := h0
    exact shares_of_trod hf
  have hT := tab_of_laid hL
  clear hA0 hval0
  refine (walk a0 n0 cap0 l0 W hn0 w0 hT).mono fun e W' ⟨he, hoff⟩ => ?_
  have bel : Below W.heap.size W W' := hoff.below (Nat.le_refl _) (fun _ _ c => c)
  subst he
  exact ⟨_, rfl, _, _, _, [], _, [], hW', trodAll_mk1 (shut_bool Tryd.underlying4 _), (trodAll_cons_mk (Below.trod laidOut (by kernel_rfl) (of_decide_eq_true (by kernel_rfl)) k0 bel lt0) trodAll_mk0), rfl, bel.frame _, fun h => by cases h⟩

theorem over : Rows.paramsSharesRow.holds Tryd.pinned (OpenSpec.ofChange Rows.paramsSharesSpec) :=
  OpenClaim.holds_of_wide 5 Tryd.f5 rfl rfl rfl rfl rfl rfl rfl ⟨rfl, rfl, rfl, rfl, rfl⟩ rfl rfl rfl rfl rfl (by kernel_rfl) Tryd.func5 (by kernel_rfl)
    (of_decide_eq_true (by kernel_rfl)) (by unfold Func.isWrapper; first | (rw [if_pos (by decide +kernel)]; kernel_rfl) | (rw [if_neg (by decide +kernel)]; exact ⟨rfl, rfl⟩))
    (fun os started H enc _ => lifted os started H enc)

theorem proved : Rows.ParamsSharesCardSaid :=
  Claim7.holds_tied_plain_at .later [] [.data] true (true, "ea8bdea48650b0fa9e78c562e70f8a09a96d303cc992c6aef33c8898e21f7be9") false
    over (fun _ h => by cases h) (by kernel_rfl) (fun _ h => by cases h) paramsShares_row_tie rfl ⟨rfl, rfl⟩ (by kernel_rfl) rfl
    (fun f fn hf hfn => by
      obtain rfl : f = 5 := Option.some.inj ((show Tryd.prog.funcNamed "sharecore/sharecorelaw15.ParamsShares" = some 5 by kernel_rfl).symm.trans hf) |>.symm
      obtain rfl : fn = Tryd.f5 := (Option.some.inj (Tryd.func5.symm.trans hfn)).symm
      exact ⟨by kernel_rfl, fun j t ht => by
        rw [Tryd.params5] at ht
        have hm : t ∈ [33] := by simpa using Array.mem_of_getElem? ht
        have hall : ([33].all fun u => !Tryd.prog.wantsStandIn u) = true := by kernel_rfl
        exact (show Tryd.prog.wantsStandIn t = false by simpa using List.all_eq_true.1 hall t hm)⟩)
    (by kernel_rfl)
#print axioms proved
end Go.Proofs.YtmokaikofcbboaaDoor.paramsShares
