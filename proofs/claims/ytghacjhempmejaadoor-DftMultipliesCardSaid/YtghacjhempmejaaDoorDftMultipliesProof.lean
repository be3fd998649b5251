/-
  For every two lists of integers, the landed Multiply returns the same product, or the same error, as the reference. Condition: none but the row's own (the tables of the coefficients of math.Sincos lie in memory as the program's text lays them).
-/
import Derived.Test.YtghacjhempmejaaDoorRows
import Derived.Test.YtghacjhempmejaaDoorTie
import Derived.Test.YtghacjhempmejaaDoorCards
import Derived.LaidMore
import Derived.LaidHandle
import Derived.SevenTiedAt
import Derived.Stop.Joined
import Derived.JoinedOf
import Derived.Test.YtghacjhempmejaaDoorIntOpen
import Derived.Test.YtghacjhempmejaaDoorDftTabs
import Derived.Test.YtghacjhempmejaaDoorDftAlive
import Derived.WalkKit
import Derived.ProofKit
import Derived.OpenShut
import Derived.ShutString
import Derived.ChangeOld
import Derived.Below
namespace Go.Proofs.YtghacjhempmejaaDoor.dftMultiplies
open Go.ChangeShapes Go.WideShapes Go.ChangeAt Go.RowKit
set_option linter.unusedVariables false

theorem own : ownKnob Tryd.prog.godebug = none := by kernel_rfl
theorem laidOut : laidOutB Tryd.prog = true := by kernel_rfl

set_option maxRecDepth 100000 in
set_option maxHeartbeats 4000000 in
theorem walk (a0 : Option Addr) (n0 cap0 : Nat) (is0 : List Int) (a1 : Option Addr) (n1 cap1 : Nat) (is1 : List Int) (w : World) (hn0 : n0 = is0.length) (w0 : IvAt w (.slice a0 n0 cap0) is0 (fun k => k < w.heap.size)) (hn1 : n1 = is1.length) (w1 : IvAt w (.slice a1 n1 cap1) is1 (fun k => k < w.heap.size)) (hT : TabAt w) :
    Calls Tryd.prog 3 #[.slice a0 n0 cap0, .slice a1 n1 cap1] w fun e w' => e = .returned (.bool true) ∧ Off (fun _ => False) w w' := by
  have hM := mult_full is0 is1 n0 n1 cap0 cap1 a0 a1 hn0 hn1 w (Iv.of w0) (Iv.of w1) hT
  have HRf := Lib.hid (fun W => refmul11_any is0 is1 n0 n1 cap0 cap1 a0 a1 hn0 hn1 W)
  have HV := Lib.hid (Iv.of w0)
  have HU := Lib.hid (Iv.of w1)
  have HT := Lib.hid hT
  have HAl := Lib.hid (fun W => alive_any W)
  have hlen : (mulP is0 is1).length ≤ 100000 := by
    unfold mulP
    split
    · simp
    · next c =>
      unfold mulE at c
      by_cases c1 : 64 < is0.length ∨ 64 < is1.length
      · rw [if_pos c1] at c; exact absurd (.inl (by decide)) c
      · unfold cvL; simp; omega
  have HEq := Lib.hid (fun v1 v2 W => intseq_any (mulP is0 is1) hlen v1 v2 W)
  clear w0 w1 hn0 hn1 hT hlen
  go_enter Tryd.func3, Tryd.ntmps3
  go_wp2_with first | (go_at_call 9; refine hM.mono ?_; rintro r w1 ⟨u, rfl, hu, hO1⟩; have HUu := Lib.hid hu; have HO1 := Lib.hid hO1; clear hu hO1 hM) | (go_at_call 10; refine (HRf.out _ (Iv.off HV.out HO1.out) (Iv.off HU.out HO1.out)).mono ?_; rintro r w2 ⟨u2, rfl, hu2, hO2⟩; have HO2 := Lib.hid (HO1.out.trans hO2 (fun _ _ c => c)); have HUu1 := Lib.hid (Iv.off HUu.out hO2); have HUu2 := Lib.hid hu2; clear hu2 hO2 HO1 HRf HUu) | (go_at_call 11; refine (HAl.out _ (HT.out.off HO2.out)).mono ?_; rintro r w3 ⟨rfl, hO3⟩; have HQ := Lib.hid (HEq.out _ _ w3 (Iv.off HUu1.out hO3) (Iv.off HUu2.out hO3)); have HO3 := Lib.hid (HO2.out.trans hO3 (fun _ _ c => c)); clear hO3 HO2 HUu1 HUu2 HEq HAl) | (go_at_call 12; refine HQ.out.mono ?_; rintro r w4 ⟨rfl, hO4⟩; have HO4 := Lib.hid (HO3.out.trans hO4 (fun _ _ c => c)); clear hO4 HO3 HQ) | fail
  go_ret
  exact ⟨rfl, HO4.out⟩

theorem door_met (os : Os) (args : Array Value) : laidMetH Tryd.prog [("math._sin", Rows.laid_math_sin), ("math._cos", Rows.laid_math_cos), ("math.mPi4", Rows.laid_math_mPi4)] ((World.doorLaid Tryd.prog 400 os).forCall (fun _ _ => 0) ⟨#[], args, []⟩).memory :=
  laidMetH_of_parts3 (fuel := 8) (laidMet_of_run' 8 (by kernel_rfl) (by kernel_rfl)) (by kernel_rfl) (by kernel_rfl)

set_option maxRecDepth 100000 in
theorem lifted (os : Os) (started : os.Started) (H : Type) (enc : TypeId × Value → H) :
    ReturnsInHanded {} Tryd.checked os 3 .any (fun w args => (Rows.dftMultipliesSpec.pre enc Tryd.prog Tryd.f3 [] false w args ∧ laidMetH Tryd.prog [("math._sin", Rows.laid_math_sin), ("math._cos", Rows.laid_math_cos), ("math.mPi4", Rows.laid_math_mPi4)] w) ∧ sizedMet enc Tryd.prog Tryd.f3 (OpenSpec.ofChange Rows.dftMultipliesSpec) false w args)
      (Rows.dftMultipliesSpec.post enc Tryd.prog Tryd.f3 false true false false) := by
  refine returnsInHanded_of_change_and (C := Tryd.checked) (X := fun w _ => laidMetH Tryd.prog [("math._sin", Rows.laid_math_sin), ("math._cos", Rows.laid_math_cos), ("math.mPi4", Rows.laid_math_mPi4)] w) (fun _ _ _ hh h => h.of_heap hh) own started (by kernel_rfl) Tryd.func3
    (ChangeSpec.witness_shaped (enc := enc) (C := Tryd.checked) (os := os) (X := fun w _ => laidMetH Tryd.prog [("math._sin", Rows.laid_math_sin), ("math._cos", Rows.laid_math_cos), ("math.mPi4", Rows.laid_math_mPi4)] w) false (World.doorLaid Tryd.prog 400 os) #[.slice none 0 0, .slice none 0 0] 8 rfl (World.shaped_of_RefB (by kernel_rfl) (by kernel_rfl)) (by kernel_rfl) (by kernel_rfl) (by kernel_rfl) (door_met os _)) ?_
  intro W base args ds gs before hval0 hW _ _ hL _
  have hval : ∀ (j : Nat) t v, Tryd.f3.params[j]? = some t → args[j]? = some v → Value.okWide Tryd.prog W .any base t v := hval0
  have hW' := hW
  obtain ⟨p, q, hA0, hV, rfl, hfz, hnd⟩ := hW
  have hA : DataW.TrodAll enc Tryd.prog W 0 (fun _ => true) true Tryd.f3.params.toList args.toList ds p := hA0
  rw [Tryd.params3] at hA hval
  obtain ⟨v0, vs0, d0, ds0, p0, q0, hargs, rfl, rfl, h0, r0⟩ := trodAll_cons hA
  obtain ⟨v1, vs1, d1, ds1, p1, q1, rfl, rfl, rfl, h1, r1⟩ := trodAll_cons r0
  obtain ⟨rfl, rfl, rfl⟩ := trodAll_nil r1
  obtain rfl : args = #[v0, v1] := by cases args; simp_all
  obtain ⟨rfl, rfl⟩ := trodVars_none hV
  obtain ⟨a0, n0, cap0, rfl⟩ := okWide_slice Tryd.underlying22 (hval 0 22 v0 rfl rfl)
  have k0 := h0
  have lt0 : ∀ x ∈ p0, x.block < W.heap.size := by obtain ⟨m, hm⟩ := k0; exact DataW.trod_lt m _ _ _ hm
  obtain ⟨is0, hn0, w0⟩ : ∃ xs, n0 = xs.length ∧ IvAt W (.slice a0 n0 cap0) xs (fun k => k < W.heap.size) := by
    obtain ⟨fuel, hf⟩ := h0
    exact ints_of_trod hf
  obtain ⟨a1, n1, cap1, rfl⟩ := okWide_slice Tryd.underlying22 (hval 1 22 v1 rfl rfl)
  have k1 := h1
  have lt1 : ∀ x ∈ p1, x.block < W.heap.size := by obtain ⟨m, hm⟩ := k1; exact DataW.trod_lt m _ _ _ hm
  obtain ⟨is1, hn1, w1⟩ : ∃ xs, n1 = xs.length ∧ IvAt W (.slice a1 n1 cap1) xs (fun k => k < W.heap.size) := by
    obtain ⟨fuel, hf⟩ := h1
    exact ints_of_trod hf
  have hT := tab_of_laid hL
  clear hA0 hval0
  refine (walk a0 n0 cap0 is0 a1 n1 cap1 is1 W hn0 w0 hn1 w1 hT).mono fun e W' ⟨he, hoff⟩ => ?_
  have bel : Below W.heap.size W W' := hoff.below (Nat.le_refl _) (fun _ _ c => c)
  subst he
  exact ⟨_, rfl, _, _, _, [], _, [], hW', trodAll_mk1 (shut_bool Tryd.underlying4 _), (trodAll_cons_mk (Below.trod laidOut (by kernel_rfl) (of_decide_eq_true (by kernel_rfl)) k0 bel lt0) (trodAll_cons_mk (Below.trod laidOut (by kernel_rfl) (of_decide_eq_true (by kernel_rfl)) k1 bel lt1) trodAll_mk0)), rfl, bel.frame _, fun h => by cases h⟩

theorem over : Rows.dftMultipliesRow.holds Tryd.pinned (OpenSpec.ofChange Rows.dftMultipliesSpec) :=
  OpenClaim.holds_of_wide 3 Tryd.f3 rfl rfl rfl rfl rfl rfl rfl ⟨rfl, rfl, rfl, rfl, rfl⟩ rfl rfl rfl rfl rfl (by kernel_rfl) Tryd.func3 (by kernel_rfl)
    (of_decide_eq_true (by kernel_rfl)) (by unfold Func.isWrapper; first | (rw [if_pos (by decide +kernel)]; kernel_rfl) | (rw [if_neg (by decide +kernel)]; exact ⟨rfl, rfl⟩))
    (fun os started H enc _ => lifted os started H enc)

theorem proved : Rows.DftMultipliesCardSaid :=
  Claim7.holds_tied_plain_at .later [] [.data, .data, .data] true (true, "a54383ae1ec94b8d7a338044b2fb747fa0409bfe29f2e7e860f0f0d16de69d0e") false
    over (fun _ h => by cases h) (by kernel_rfl) (fun _ h => by cases h) dftMultiplies_row_tie rfl ⟨rfl, rfl⟩ (by kernel_rfl) rfl
    (fun f fn hf hfn => by
      obtain rfl : f = 3 := Option.some.inj ((show Tryd.prog.funcNamed "sharecore/sharecorelaw11.DftMultiplies" = some 3 by kernel_rfl).symm.trans hf) |>.symm
      obtain rfl : fn = Tryd.f3 := (Option.some.inj (Tryd.func3.symm.trans hfn)).symm
      exact ⟨by kernel_rfl, fun j t ht => by
        rw [Tryd.params3] at ht
        have hm : t ∈ [22] := by simpa using Array.mem_of_getElem? ht
        have hall : ([22].all fun u => !Tryd.prog.wantsStandIn u) = true := by kernel_rfl
        exact (show Tryd.prog.wantsStandIn t = false by simpa using List.all_eq_true.1 hall t hm)⟩)
    (by kernel_rfl)
#print axioms proved
end Go.Proofs.YtghacjhempmejaaDoor.dftMultiplies
