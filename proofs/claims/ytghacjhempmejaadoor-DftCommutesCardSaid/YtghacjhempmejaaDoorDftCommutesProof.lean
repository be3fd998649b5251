/-
  For every two lists of integers, the landed Multiply is commutative, and multiplying by the polynomial x shifts the coefficients. Condition: none but the row's own (the tables of the coefficients of math.Sincos lie in memory as the program's text lays them).
-/
import Derived.Test.YtghacjhempmejaaDoorRows
import Derived.Test.YtghacjhempmejaaDoorTie
import Derived.Test.YtghacjhempmejaaDoorCards
import Derived.LaidMore
import Derived.LaidHandle
import Derived.SevenTiedAt
import Derived.Stop.Joined
import Derived.JoinedOf
import Derived.Test.YtghacjhempmejaaDoorIntOpen
import Derived.Test.YtghacjhempmejaaDoorDftTabs
import Derived.Test.YtghacjhempmejaaDoorDftAlive
import Derived.Test.YtghacjhempmejaaDoorDftAlg
import Derived.Test.YtghacjhempmejaaDoorDftApp
import Derived.WalkKit
import Derived.ProofKit
import Derived.OpenShut
import Derived.ShutString
import Derived.ChangeOld
import Derived.Below
namespace Go.Proofs.YtghacjhempmejaaDoor.dftCommutes
open Go.ChangeShapes Go.WideShapes Go.ChangeAt Go.RowKit
set_option linter.unusedVariables false

theorem own : ownKnob Tryd.prog.godebug = none := by kernel_rfl
theorem laidOut : laidOutB Tryd.prog = true := by kernel_rfl

set_option maxRecDepth 100000 in
set_option maxHeartbeats 4000000 in
theorem walk (a0 : Option Addr) (n0 cap0 : Nat) (is0 : List Int) (a1 : Option Addr) (n1 cap1 : Nat) (is1 : List Int) (w : World) (hn0 : n0 = is0.length) (w0 : IvAt w (.slice a0 n0 cap0) is0 (fun k => k < w.heap.size)) (hn1 : n1 = is1.length) (w1 : IvAt w (.slice a1 n1 cap1) is1 (fun k => k < w.heap.size)) (hT : TabAt w) :
    Calls Tryd.prog 7 #[.slice a0 n0 cap0, .slice a1 n1 cap1] w fun e w' => e = .returned (.bool true) ∧ Off (fun _ => False) w w' := by
  have hM1 := mult_full is0 is1 n0 n1 cap0 cap1 a0 a1 hn0 hn1 w (Iv.of w0) (Iv.of w1) hT
  have HM2 := Lib.hid (fun W => mult_full is1 is0 n1 n0 cap1 cap0 a1 a0 hn1 hn0 W)
  have HM3 := Lib.hid (fun b W => mult_full is0 [0, 1] n0 2 cap0 2 a0 (some ⟨b, 0, none⟩) hn0 rfl W)
  have HRf := Lib.hid (fun W => refmul11_any is0 [] n0 0 cap0 0 a0 none hn0 rfl W)
  obtain ⟨E, hE⟩ : ∃ E, E = mulE is0 is1 := ⟨_, rfl⟩
  obtain ⟨E3, hE3⟩ : ∃ E, E = mulE is0 [0, 1] := ⟨_, rfl⟩
  obtain ⟨E4, hE4⟩ : ∃ E, E = mulE is0 [] := ⟨_, rfl⟩
  obtain ⟨P, hP⟩ : ∃ P, P = mulP is0 is1 := ⟨_, rfl⟩
  obtain ⟨P3, hP3⟩ : ∃ P, P = mulP is0 [0, 1] := ⟨_, rfl⟩
  rw [mulE_comm is1 is0, mulP_comm is1 is0] at HM2
  rw [← hE, ← hP] at hM1 HM2
  rw [← hE3, ← hP3] at HM3
  rw [← hE4] at HRf
  have HV := Lib.hid (Iv.of w0)
  have HU := Lib.hid (Iv.of w1)
  have HT := Lib.hid hT
  have HAl := Lib.hid (fun W => alive_any W)
  have hlen : P.length ≤ 100000 := by
    rw [hP]
    unfold mulP
    split
    · simp
    · next c =>
      unfold mulE at c
      by_cases c1 : 64 < is0.length ∨ 64 < is1.length
      · rw [if_pos c1] at c; exact absurd (.inl (by decide)) c
      · unfold cvL; simp; omega
  have HEq := Lib.hid (fun v1 v2 W => intseq_any P hlen v1 v2 W)
  have hbb : ((E == 0) == (E == 0)) = true := by simp
  have hbb2 : decide ((E == 0) = (E == 0)) = true := by simp
  have H34 := Lib.hid (show E4 = 0 → 0 < n0 → E3 = 0 ∧ P3 = 0 :: is0 ∧ is0.length ≤ 64 from fun h p => by
    rw [hE4] at h
    unfold mulE at h
    have c1 : ¬ (64 < is0.length ∨ 64 < ([] : List Int).length) := fun c => by rw [if_pos c] at h; cases h
    rw [if_neg c1] at h
    have c2 : ¬ (oobC is0 = true ∨ oobC [] = true) := fun c => by rw [if_pos c] at h; cases h
    have e3 : mulE is0 [0, 1] = 0 := by
      unfold mulE
      rw [if_neg (by simp at c1 ⊢; omega), if_neg (fun c => c2 (c.elim .inl (fun h => absurd h (by decide))))]
    refine ⟨by rw [hE3, e3], ?_, by simp at c1; omega⟩
    rw [hP3]
    unfold mulP
    rw [e3, if_neg (by simp; intro h; subst h; simp at hn0; omega)]
    exact cvL_shift is0 (by omega))
  have H0 := Lib.hid hn0
  clear w0 w1 hn0 hn1 hT hlen hE hE3 hE4 hP hP3
  go_enter Tryd.func7, Tryd.ntmps7
  go_wp2_with fail
  refine hM1.mono ?_
  rintro r w1 ⟨u1, rfl, hu, hO1⟩
  have HU1 := Lib.hid hu
  have HO1 := Lib.hid hO1
  clear hu hO1 hM1
  go_wp2_with fail
  refine (HM2.out _ (Iv.off HU.out HO1.out) (Iv.off HV.out HO1.out) (HT.out.off HO1.out)).mono ?_
  rintro r w2 ⟨u2, rfl, hu, hO2⟩
  have HU1' := Lib.hid (Iv.off HU1.out hO2)
  have HU2 := Lib.hid hu
  have HO2 := Lib.hid (HO1.out.trans hO2 (fun _ _ c => c))
  clear hu hO2 HM2 HO1 HU1
  go_wp2_with fail
  have o3 : Off (fun _ => False) w (w2.alloc (.cells #[.int .i64 0, .int .i64 1] 3)) := HO2.out.alloc _
  refine (HM3.out _ _ (Iv.off HV.out o3) (iv_lit (L := [0, 1]) (heap_new' rfl _) rfl (by decide) (by decide) (Off.refl _ _)) (HT.out.off o3)).mono ?_
  rintro r w3 ⟨u3, rfl, hu, hO3⟩
  have hO23 : Off (fun _ => False) w2 w3 := ((Off.refl (fun _ => False) w2).alloc _).trans hO3 (fun _ _ c => c)
  have HU1 := Lib.hid (Iv.off HU1'.out hO23)
  have HU2' := Lib.hid (Iv.off HU2.out hO23)
  have HU3 := Lib.hid hu
  have HO3 := Lib.hid (HO2.out.trans hO23 (fun _ _ c => c))
  clear hu hO3 hO23 HM3 HO2 HU1' HU2 o3
  go_wp2_with fail
  refine (HRf.out _ (Iv.off HV.out HO3.out) (Iv.nil _)).mono ?_
  rintro r w4 ⟨u4, rfl, hu, hO4⟩
  have HU1' := Lib.hid (Iv.off HU1.out hO4)
  have HU2 := Lib.hid (Iv.off HU2'.out hO4)
  have HU3' := Lib.hid (Iv.off HU3.out hO4)
  have HO4 := Lib.hid (HO3.out.trans hO4 (fun _ _ c => c))
  clear hu hO4 HRf HO3 HU1 HU2' HU3
  by_cases c4 : E4 = 0
  · by_cases z : n0 = 0
    · subst c4 z
      go_wp2_with fail
      refine (HAl.out _ (HT.out.off HO4.out)).mono ?_
      rintro r w5 ⟨rfl, hO5⟩
      have HO5 := Lib.hid (HO4.out.trans hO5 (fun _ _ c => c))
      clear hO5
      go_wp2
      go_ret
      exact ⟨by first | rfl | simp, HO5.out⟩
    · obtain ⟨e3, p3, l64⟩ := H34.out c4 (by omega)
      subst c4 e3 p3
      have g3 : ((n0 : Int) == 0) = false := by simp; omega
      have b3 : decide ((n0 : Int) = 0) = false := by simp; omega
      go_wp2_with fail
      refine (HAl.out _ (HT.out.off HO4.out)).mono ?_
      rintro r w5 ⟨rfl, hO5⟩
      have HU1 := Lib.hid (Iv.off HU1'.out hO5)
      have HU2' := Lib.hid (Iv.off HU2.out hO5)
      have HU3 := Lib.hid (Iv.off HU3'.out hO5)
      have HO5 := Lib.hid (HO4.out.trans hO5 (fun _ _ c => c))
      clear hO5 HO4 HU1' HU2 HU3'
      go_wp2_with fail
      refine (HEq.out _ _ _ HU1.out HU2'.out).mono ?_
      rintro r w6 ⟨rfl, hO6⟩
      have HU4 := Lib.hid (Iv.off HU3.out hO6)
      have hO6' := HO5.out.trans hO6 (fun _ _ c => c)
      obtain ⟨v', w7, hr, hI, hO7⟩ := app_list (Off.refl _ w6) (Iv.off HV.out hO6') H0.out (by omega) (by have := H0.out; omega)
      have HU5 := Lib.hid (Iv.off HU4.out hO7)
      have HRUN := Lib.hid hr
      have HI := Lib.hid hI
      have HO7 := Lib.hid (hO6'.trans hO7 (fun _ _ c => c))
      clear hO6 hO6' hr hI hO7 HO5 HU3 HU4 HU1 HU2'
      go_wp2_with first | (at_builtin; refine wpList_append_guard _ rfl _ _ _ _ rfl _ _ rfl rfl _ _ HRUN.out ?_) | fail
      refine (intseq_any (0 :: is0) (by simp; omega) _ _ _ HU5.out HI.out).mono ?_
      rintro r w8 ⟨rfl, hO8⟩
      have HO8 := Lib.hid (HO7.out.trans hO8 (fun _ _ c => c))
      clear hO8
      go_wp2
      go_ret
      exact ⟨by first | rfl | simp, HO8.out⟩
  · have g4 : (E4 == 0) = false := by simp [c4]
    have b4 : (E4 != 0) = true := by simp [c4]
    go_wp2_with fail
    refine (HAl.out _ (HT.out.off HO4.out)).mono ?_
    rintro r w5 ⟨rfl, hO5⟩
    have HO5 := Lib.hid (HO4.out.trans hO5 (fun _ _ c => c))
    clear hO5
    go_wp2
    go_ret
    exact ⟨by first | rfl | simp, HO5.out⟩

theorem door_met (os : Os) (args : Array Value) : laidMetH Tryd.prog [("math._sin", Rows.laid_math_sin), ("math._cos", Rows.laid_math_cos), ("math.mPi4", Rows.laid_math_mPi4)] ((World.doorLaid Tryd.prog 400 os).forCall (fun _ _ => 0) ⟨#[], args, []⟩).memory :=
  laidMetH_of_parts3 (fuel := 8) (laidMet_of_run' 8 (by kernel_rfl) (by kernel_rfl)) (by kernel_rfl) (by kernel_rfl)

set_option maxRecDepth 100000 in
theorem lifted (os : Os) (started : os.Started) (H : Type) (enc : TypeId × Value → H) :
    ReturnsInHanded {} Tryd.checked os 7 .any (fun w args => (Rows.dftCommutesSpec.pre enc Tryd.prog Tryd.f7 [] false w args ∧ laidMetH Tryd.prog [("math._sin", Rows.laid_math_sin), ("math._cos", Rows.laid_math_cos), ("math.mPi4", Rows.laid_math_mPi4)] w) ∧ sizedMet enc Tryd.prog Tryd.f7 (OpenSpec.ofChange Rows.dftCommutesSpec) false w args)
      (Rows.dftCommutesSpec.post enc Tryd.prog Tryd.f7 false true false false) := by
  refine returnsInHanded_of_change_and (C := Tryd.checked) (X := fun w _ => laidMetH Tryd.prog [("math._sin", Rows.laid_math_sin), ("math._cos", Rows.laid_math_cos), ("math.mPi4", Rows.laid_math_mPi4)] w) (fun _ _ _ hh h => h.of_heap hh) own started (by kernel_rfl) Tryd.func7
    (ChangeSpec.witness_shaped (enc := enc) (C := Tryd.checked) (os := os) (X := fun w _ => laidMetH Tryd.prog [("math._sin", Rows.laid_math_sin), ("math._cos", Rows.laid_math_cos), ("math.mPi4", Rows.laid_math_mPi4)] w) false (World.doorLaid Tryd.prog 400 os) #[.slice none 0 0, .slice none 0 0] 8 rfl (World.shaped_of_RefB (by kernel_rfl) (by kernel_rfl)) (by kernel_rfl) (by kernel_rfl) (by kernel_rfl) (door_met os _)) ?_
  intro W base args ds gs before hval0 hW _ _ hL _
  have hval : ∀ (j : Nat) t v, Tryd.f7.params[j]? = some t → args[j]? = some v → Value.okWide Tryd.prog W .any base t v := hval0
  have hW' := hW
  obtain ⟨p, q, hA0, hV, rfl, hfz, hnd⟩ := hW
  have hA : DataW.TrodAll enc Tryd.prog W 0 (fun _ => true) true Tryd.f7.params.toList args.toList ds p := hA0
  rw [Tryd.params7] at hA hval
  obtain ⟨v0, vs0, d0, ds0, p0, q0, hargs, rfl, rfl, h0, r0⟩ := trodAll_cons hA
  obtain ⟨v1, vs1, d1, ds1, p1, q1, rfl, rfl, rfl, h1, r1⟩ := trodAll_cons r0
  obtain ⟨rfl, rfl, rfl⟩ := trodAll_nil r1
  obtain rfl : args = #[v0, v1] := by cases args; simp_all
  obtain ⟨rfl, rfl⟩ := trodVars_none hV
  obtain ⟨a0, n0, cap0, rfl⟩ := okWide_slice Tryd.underlying22 (hval 0 22 v0 rfl rfl)
  have k0 := h0
  have lt0 : ∀ x ∈ p0, x.block < W.heap.size := by obtain ⟨m, hm⟩ := k0; exact DataW.trod_lt m _ _ _ hm
  obtain ⟨is0, hn0, w0⟩ : ∃ xs, n0 = xs.length ∧ IvAt W (.slice a0 n0 cap0) xs (fun k => k < W.heap.size) := by
    obtain ⟨fuel, hf⟩ := h0
    exact ints_of_trod hf
  obtain ⟨a1, n1, cap1, rfl⟩ := okWide_slice Tryd.underlying22 (hval 1 22 v1 rfl rfl)
  have k1 := h1
  have lt1 : ∀ x ∈ p1, x.block < W.heap.size := by obtain ⟨m, hm⟩ := k1; exact DataW.trod_lt m _ _ _ hm
  obtain ⟨is1, hn1, w1⟩ : ∃ xs, n1 = xs.length ∧ IvAt W (.slice a1 n1 cap1) xs (fun k => k < W.heap.size) := by
    obtain ⟨fuel, hf⟩ := h1
    exact ints_of_trod hf
  have hT := tab_of_laid hL
  clear hA0 hval0
  refine (walk a0 n0 cap0 is0 a1 n1 cap1 is1 W hn0 w0 hn1 w1 hT).mono fun e W' ⟨he, hoff⟩ => ?_
  have bel : Below W.heap.size W W' := hoff.below (Nat.le_refl _) (fun _ _ c => c)
  subst he
  exact ⟨_, rfl, _, _, _, [], _, [], hW', trodAll_mk1 (shut_bool Tryd.underlying4 _), (trodAll_cons_mk (Below.trod laidOut (by kernel_rfl) (of_decide_eq_true (by kernel_rfl)) k0 bel lt0) (trodAll_cons_mk (Below.trod laidOut (by kernel_rfl) (of_decide_eq_true (by kernel_rfl)) k1 bel lt1) trodAll_mk0)), rfl, bel.frame _, fun h => by cases h⟩

theorem over : Rows.dftCommutesRow.holds Tryd.pinned (OpenSpec.ofChange Rows.dftCommutesSpec) :=
  OpenClaim.holds_of_wide 7 Tryd.f7 rfl rfl rfl rfl rfl rfl rfl ⟨rfl, rfl, rfl, rfl, rfl⟩ rfl rfl rfl rfl rfl (by kernel_rfl) Tryd.func7 (by kernel_rfl)
    (of_decide_eq_true (by kernel_rfl)) (by unfold Func.isWrapper; first | (rw [if_pos (by decide +kernel)]; kernel_rfl) | (rw [if_neg (by decide +kernel)]; exact ⟨rfl, rfl⟩))
    (fun os started H enc _ => lifted os started H enc)

theorem proved : Rows.DftCommutesCardSaid :=
  Claim7.holds_tied_plain_at .later [] [.data, .data, .data] true (true, "a54383ae1ec94b8d7a338044b2fb747fa0409bfe29f2e7e860f0f0d16de69d0e") false
    over (fun _ h => by cases h) (by kernel_rfl) (fun _ h => by cases h) dftCommutes_row_tie rfl ⟨rfl, rfl⟩ (by kernel_rfl) rfl
    (fun f fn hf hfn => by
      obtain rfl : f = 7 := Option.some.inj ((show Tryd.prog.funcNamed "sharecore/sharecorelaw11.DftCommutes" = some 7 by kernel_rfl).symm.trans hf) |>.symm
      obtain rfl : fn = Tryd.f7 := (Option.some.inj (Tryd.func7.symm.trans hfn)).symm
      exact ⟨by kernel_rfl, fun j t ht => by
        rw [Tryd.params7] at ht
        have hm : t ∈ [22] := by simpa using Array.mem_of_getElem? ht
        have hall : ([22].all fun u => !Tryd.prog.wantsStandIn u) = true := by kernel_rfl
        exact (show Tryd.prog.wantsStandIn t = false by simpa using List.all_eq_true.1 hall t hm)⟩)
    (by kernel_rfl)
#print axioms proved
end Go.Proofs.YtghacjhempmejaaDoor.dftCommutes
