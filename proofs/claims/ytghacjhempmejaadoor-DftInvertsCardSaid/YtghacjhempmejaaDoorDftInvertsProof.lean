/-
  For every list of small integers, the landed Inverse inverts the landed Transform up to the accuracy, and both return nothing for other lengths. Condition: none but the row's own (the tables of the coefficients of math.Sincos lie in memory as the program's text lays them).
-/
import Derived.Test.YtghacjhempmejaaDoorRows
import Derived.Test.YtghacjhempmejaaDoorTie
import Derived.Test.YtghacjhempmejaaDoorCards
import Derived.LaidMore
import Derived.LaidHandle
import Derived.SevenTiedAt
import Derived.Stop.Joined
import Derived.JoinedOf
import Derived.Test.YtghacjhempmejaaDoorIntOpen
import Derived.Test.YtghacjhempmejaaDoorI16Open
import Derived.Test.YtghacjhempmejaaDoorDftTabs
import Derived.Test.YtghacjhempmejaaDoorDftBack
import Derived.WalkKit
import Derived.ProofKit
import Derived.OpenShut
import Derived.ShutString
import Derived.ChangeOld
import Derived.Below
namespace Go.Proofs.YtghacjhempmejaaDoor.dftInverts
open Go.ChangeShapes Go.WideShapes Go.ChangeAt Go.RowKit
set_option linter.unusedVariables false

theorem own : ownKnob Tryd.prog.godebug = none := by kernel_rfl
theorem laidOut : laidOutB Tryd.prog = true := by kernel_rfl

set_option maxRecDepth 100000 in
set_option maxHeartbeats 4000000 in
theorem walk (a0 : Option Addr) (n0 cap0 : Nat) (is0 : List Int) (i1 : Int) (i2 : Int) (w : World) (hn0 : n0 = is0.length) (w0 : HvAt w (.slice a0 n0 cap0) is0 (fun k => k < w.heap.size)) (w1 : (Lit.int .u8 i1).wf = true) (w2 : (Lit.int .i64 i2).wf = true) (hT : TabAt w) :
    Calls Tryd.prog 5 #[.slice a0 n0 cap0, .int .u8 i1, .int .i64 i2] w fun e w' => e = .returned (.bool true) ∧ Off (fun _ => False) w w' := by
  have hb1 : 0 ≤ i1 ∧ i1 ≤ 255 := by
    have h := w1
    simp [Lit.wf] at h
    exact ⟨h.1, h.2⟩
  obtain ⟨e, he⟩ : ∃ e, e = i1.toNat % 7 := ⟨_, rfl⟩
  have he9 : e < 9 := by omega
  have hp2 : (2 : Int) ^ e = ((pw e : Nat) : Int) := by unfold pw; push_cast; rfl
  have hn8 := pw_le he9
  have hsh : IntKind.i64.wrap (1 * 2 ^ e) = ((pw e : Nat) : Int) := by rw [Int.one_mul, hp2, IntKind.wrap_i64]; omega
  have hsh2 : IntKind.i64.wrap (2 ^ e) = ((pw e : Nat) : Int) := by rw [hp2, IntKind.wrap_i64]; omega
  have hmod : i1.tmod 7 = (e : Int) := by rw [Int.tmod_eq_emod_of_nonneg hb1.1]; omega
  have hwe : IntKind.u8.wrap (e : Int) = (e : Int) := by rw [IntKind.wrap_u8]; omega
  obtain ⟨t, ht⟩ : ∃ t, t = i2.tmod 300 := ⟨_, rfl⟩
  have htb : -300 < t ∧ t < 300 := by
    have h1 : (i2.tmod 300).natAbs < 300 := by
      rw [Int.natAbs_tmod]
      exact Nat.mod_lt _ (by decide)
    omega
  have ht2 : i2.tmod 300 = t := ht.symm
  have hwt : IntKind.i64.wrap t = t := by rw [IntKind.wrap_i64]; omega
  obtain ⟨m, hm⟩ : ∃ m : Nat, (m : Int) = max t 0 := ⟨(max t 0).toNat, by omega⟩
  have hm300 : m < 300 := by omega
  have hmax : max t 0 = (m : Int) := hm.symm
  clear ht hm
  obtain ⟨b1, b2, b3, b4⟩ := back_near is0 he9
  have hNum := numbers_any is0 n0 (pw e) cap0 a0 hn0 hn8 w (Hv.of w0)
  have HTr := Lib.hid (fun v W c => trans_any e he9 (numsL is0 (pw e)) (by unfold numsL; simp) b1 v W c)
  have HIn := Lib.hid (fun v W c => inverse_any e he9 (fftW e (numsL is0 (pw e))) (fftW_len _ _ (by unfold numsL; simp)) b2 b3 v W c)
  have HAll := Lib.hid (fun v1 v2 W => all_close (numsL is0 (pw e)) (invL e (fftW e (numsL is0 (pw e)))) (by unfold numsL invL; simp) (fun j x y hx hy => by
    have hj : j < pw e := by have := (List.getElem?_eq_some_iff.1 hx).1; unfold numsL at this; simpa using this
    have h := b4 j hj
    rw [List.getD_eq_getElem?_getD, List.getD_eq_getElem?_getD, hx, hy] at h
    exact h) v1 v2 W)
  have HAl := Lib.hid (fun W => alive_any W)
  have HIs := Lib.hid (fun W => refis_any (m : Int) W)
  have hmk := run_make_com m (by omega)
  have HT := Lib.hid hT
  have HLx := Lib.hid (show (numsL is0 (pw e)).length = pw e by unfold numsL; simp)
  have HLf := Lib.hid (show (fftW e (numsL is0 (pw e))).length = pw e from fftW_len _ _ (by unfold numsL; simp))
  have HLi := Lib.hid (show (invL e (fftW e (numsL is0 (pw e)))).length = pw e by unfold invL; simp)
  obtain ⟨X, hX⟩ : ∃ X, X = numsL is0 (pw e) := ⟨_, rfl⟩
  rw [← hX] at hNum HTr HIn HAll HLx HLf HLi
  obtain ⟨F, hF⟩ : ∃ F, F = fftW e X := ⟨_, rfl⟩
  rw [← hF] at HTr HIn HAll HLf HLi
  obtain ⟨I, hI⟩ : ∃ I, I = invL e F := ⟨_, rfl⟩
  rw [← hI] at HIn HAll HLi
  obtain ⟨n, hn⟩ : ∃ n, n = pw e := ⟨_, rfl⟩
  rw [← hn] at hNum HTr HIn HLx HLf HLi hsh hsh2 hn8
  have he64 : ¬ (64 : Int) ≤ (e : Int) := by omega
  clear hX hF hI hn b1 b2 b3 b4 hT w0 w1 w2 hn0 hp2 he he9 hb1
  go_enter Tryd.func5, Tryd.ntmps5
  go_wp2_with fail
  refine hNum.mono ?_
  rintro r w1 ⟨g, rfl, hg, hL1, hO1⟩
  have HX1 := Lib.hid (cs_blk (S := fun _ => True) hL1 HLx.out.symm (by omega) trivial)
  have HO1 := Lib.hid hO1
  clear hg hL1 hO1 hNum
  go_wp2_with fail
  refine (HTr.out _ _ HX1.out (HT.out.off HO1.out)).mono ?_
  rintro r w2 ⟨g2, rfl, hg2, hL2, hO2⟩
  have HX2 := Lib.hid (cs_blk (S := fun _ => True) hL2 HLf.out.symm (by omega) trivial)
  have HX1' := Lib.hid (Cs.off HX1.out hO2)
  have HO2 := Lib.hid (HO1.out.trans hO2 (fun _ _ c => c))
  clear hg2 hL2 hO2 HTr HO1 HX1
  go_wp2_with fail
  refine (HIn.out _ _ HX2.out (HT.out.off HO2.out)).mono ?_
  rintro r w3 ⟨g3, rfl, hg3, hL3, hO3⟩
  have HX3 := Lib.hid (cs_blk (S := fun _ => True) hL3 HLi.out.symm (by omega) trivial)
  have HX1 := Lib.hid (Cs.off HX1'.out hO3)
  have HO3 := Lib.hid (HO2.out.trans hO3 (fun _ _ c => c))
  clear hg3 hL3 hO3 HIn HO2 HX2 HX1'
  have HZ := Lib.hid (show Cs (w3.alloc (.cells (Array.replicate m (Value.complex .f64 0 0)) 34)) (.slice (some ⟨w3.heap.size, 0, none⟩) m m) (List.replicate m (0, 0)) from cs_blk (S := fun _ => True) (show (w3.alloc (.cells (Array.replicate m (Value.complex .f64 0 0)) 34)).heap[w3.heap.size]? = some (.cells (cCells (List.replicate m (0, 0))) 34) by rw [show cCells (List.replicate m (0, 0)) = Array.replicate m (Value.complex .f64 0 0) by simp [cCells]]; exact heap_new' rfl _) (by simp) (by omega) trivial)
  obtain ⟨b, hb⟩ : ∃ b, b = w3.heap.size := ⟨_, rfl⟩
  obtain ⟨W4, hW4⟩ : ∃ W4, W4 = w3.alloc (.cells (Array.replicate m (Value.complex .f64 0 0)) 34) := ⟨_, rfl⟩
  have HO4 := Lib.hid (show Off (fun _ => False) w W4 by rw [hW4]; exact HO3.out.alloc _)
  have HX1' := Lib.hid (show Cs W4 _ X by rw [hW4]; exact Cs.off HX1.out ((Off.refl _ w3).alloc _))
  have HX3' := Lib.hid (show Cs W4 _ I by rw [hW4]; exact Cs.off HX3.out ((Off.refl _ w3).alloc _))
  rw [← hb, ← hW4] at HZ
  have HW4 := Lib.hid hW4
  have Hb := Lib.hid hb
  clear hW4 hb HO3 HX1 HX3
  by_cases hp : isP (m : Int) = true
  · have HI2 := Lib.hid (show ∀ W, Calls Tryd.prog 14 #[.int .i64 (m : Int)] W fun e w' => e = .returned (.bool true) ∧ W = w' from fun W => by have := HIs.out W; rw [hp] at this; exact this)
    obtain ⟨k, hk, hmk2⟩ := isP_some hp
    have hmk3 : m = pw k := by exact_mod_cast hmk2
    rw [hmk3] at HZ
    have hz := zeros_near hk
    have HTz := Lib.hid (fun v W c => trans_any k hk (List.replicate (pw k) (0, 0)) (by simp) hz.1 v W c)
    have HIz := Lib.hid (fun v W c => inverse_any k hk (List.replicate (pw k) (0, 0)) (by simp) hz.1 (okI_of hk (K := 1) (by decide) hz.2) v W c)
    rw [← hmk3] at HZ HTz HIz
    clear hp hmk2 hmk3 hz HIs
    go_wp2_with fail
    rw [← HW4.out, ← Hb.out]
    refine (HI2.out _).mono ?_
    rintro r w' ⟨rfl, rfl⟩
    go_wp2_with fail
    refine (HAl.out _ (HT.out.off HO4.out)).mono ?_
    rintro r w5 ⟨rfl, hO5⟩
    have HX1 := Lib.hid (Cs.off HX1'.out hO5)
    have HX3 := Lib.hid (Cs.off HX3'.out hO5)
    have HZ' := Lib.hid (Cs.off HZ.out hO5)
    have HO5 := Lib.hid (HO4.out.trans hO5 (fun _ _ c => c))
    clear hO5 HO4 HX1' HX3' HZ
    go_wp2_with fail
    refine (HAll.out _ _ _ HX1.out HX3.out).mono ?_
    rintro r w6 ⟨rfl, hO6⟩
    have HZ := Lib.hid (Cs.off HZ'.out hO6)
    have HO6 := Lib.hid (HO5.out.trans hO6 (fun _ _ c => c))
    clear hO6 HO5 HX1 HX3 HZ'
    go_wp2_with fail
    refine (HTz.out _ _ HZ.out (HT.out.off HO6.out)).mono ?_
    rintro r w7 ⟨g7, rfl, hg7, hL7, hO7⟩
    have HZ' := Lib.hid (Cs.off HZ.out hO7)
    have HO7 := Lib.hid (HO6.out.trans hO7 (fun _ _ c => c))
    clear hg7 hL7 hO7 HO6 HZ
    go_wp2_with fail
    refine (HIz.out _ _ HZ'.out (HT.out.off HO7.out)).mono ?_
    rintro r w8 ⟨g8, rfl, hg8, hL8, hO8⟩
    have HO8 := Lib.hid (HO7.out.trans hO8 (fun _ _ c => c))
    clear hg8 hL8 hO8 HO7 HZ'
    go_wp2
    go_ret
    exact ⟨by first | rfl | simp, HO8.out⟩
  · rw [Bool.not_eq_true] at hp
    have HI2 := Lib.hid (show ∀ W, Calls Tryd.prog 14 #[.int .i64 (m : Int)] W fun e w' => e = .returned (.bool false) ∧ W = w' from fun W => by have := HIs.out W; rw [hp] at this; exact this)
    have HTz := Lib.hid (fun a cap W => size_none m hp a cap W)
    have HIz := Lib.hid (fun a cap W => inverse_none m hp a cap W)
    clear hp HIs
    go_wp2_with fail
    rw [← HW4.out, ← Hb.out]
    refine (HI2.out _).mono ?_
    rintro r w' ⟨rfl, rfl⟩
    go_wp2_with fail
    refine (HAl.out _ (HT.out.off HO4.out)).mono ?_
    rintro r w5 ⟨rfl, hO5⟩
    have HX1 := Lib.hid (Cs.off HX1'.out hO5)
    have HX3 := Lib.hid (Cs.off HX3'.out hO5)
    have HO5 := Lib.hid (HO4.out.trans hO5 (fun _ _ c => c))
    clear hO5 HO4 HX1' HX3' HZ
    go_wp2_with fail
    refine (HAll.out _ _ _ HX1.out HX3.out).mono ?_
    rintro r w6 ⟨rfl, hO6⟩
    have HO6 := Lib.hid (HO5.out.trans hO6 (fun _ _ c => c))
    clear hO6 HO5 HX1 HX3
    go_wp2_with fail
    refine (HTz.out _ _ _).mono ?_
    rintro r w7 ⟨rfl, rfl⟩
    go_wp2_with fail
    refine (HIz.out _ _ _).mono ?_
    rintro r w8 ⟨b8, c8, rfl, hO8⟩
    have HO8 := Lib.hid (HO6.out.trans hO8 (fun _ _ c => c))
    clear hO8 HO6
    go_wp2
    go_ret
    exact ⟨by first | rfl | simp, HO8.out⟩

theorem door_met (os : Os) (args : Array Value) : laidMetH Tryd.prog [("math._sin", Rows.laid_math_sin), ("math._cos", Rows.laid_math_cos), ("math.mPi4", Rows.laid_math_mPi4)] ((World.doorLaid Tryd.prog 400 os).forCall (fun _ _ => 0) ⟨#[], args, []⟩).memory :=
  laidMetH_of_parts3 (fuel := 8) (laidMet_of_run' 8 (by kernel_rfl) (by kernel_rfl)) (by kernel_rfl) (by kernel_rfl)

set_option maxRecDepth 100000 in
theorem lifted (os : Os) (started : os.Started) (H : Type) (enc : TypeId × Value → H) :
    ReturnsInHanded {} Tryd.checked os 5 .any (fun w args => (Rows.dftInvertsSpec.pre enc Tryd.prog Tryd.f5 [] false w args ∧ laidMetH Tryd.prog [("math._sin", Rows.laid_math_sin), ("math._cos", Rows.laid_math_cos), ("math.mPi4", Rows.laid_math_mPi4)] w) ∧ sizedMet enc Tryd.prog Tryd.f5 (OpenSpec.ofChange Rows.dftInvertsSpec) false w args)
      (Rows.dftInvertsSpec.post enc Tryd.prog Tryd.f5 false true false false) := by
  refine returnsInHanded_of_change_and (C := Tryd.checked) (X := fun w _ => laidMetH Tryd.prog [("math._sin", Rows.laid_math_sin), ("math._cos", Rows.laid_math_cos), ("math.mPi4", Rows.laid_math_mPi4)] w) (fun _ _ _ hh h => h.of_heap hh) own started (by kernel_rfl) Tryd.func5
    (ChangeSpec.witness_shaped (enc := enc) (C := Tryd.checked) (os := os) (X := fun w _ => laidMetH Tryd.prog [("math._sin", Rows.laid_math_sin), ("math._cos", Rows.laid_math_cos), ("math.mPi4", Rows.laid_math_mPi4)] w) false (World.doorLaid Tryd.prog 400 os) #[.slice none 0 0, .int .u8 0, .int .i64 0] 8 rfl (World.shaped_of_RefB (by kernel_rfl) (by kernel_rfl)) (by kernel_rfl) (by kernel_rfl) (by kernel_rfl) (door_met os _)) ?_
  intro W base args ds gs before hval0 hW _ _ hL _
  have hval : ∀ (j : Nat) t v, Tryd.f5.params[j]? = some t → args[j]? = some v → Value.okWide Tryd.prog W .any base t v := hval0
  have hW' := hW
  obtain ⟨p, q, hA0, hV, rfl, hfz, hnd⟩ := hW
  have hA : DataW.TrodAll enc Tryd.prog W 0 (fun _ => true) true Tryd.f5.params.toList args.toList ds p := hA0
  rw [Tryd.params5] at hA hval
  obtain ⟨v0, vs0, d0, ds0, p0, q0, hargs, rfl, rfl, h0, r0⟩ := trodAll_cons hA
  obtain ⟨v1, vs1, d1, ds1, p1, q1, rfl, rfl, rfl, h1, r1⟩ := trodAll_cons r0
  obtain ⟨v2, vs2, d2, ds2, p2, q2, rfl, rfl, rfl, h2, r2⟩ := trodAll_cons r1
  obtain ⟨rfl, rfl, rfl⟩ := trodAll_nil r2
  obtain rfl : args = #[v0, v1, v2] := by cases args; simp_all
  obtain ⟨rfl, rfl⟩ := trodVars_none hV
  obtain ⟨a0, n0, cap0, rfl⟩ := okWide_slice Tryd.underlying36 (hval 0 36 v0 rfl rfl)
  have k0 := h0
  have lt0 : ∀ x ∈ p0, x.block < W.heap.size := by obtain ⟨m, hm⟩ := k0; exact DataW.trod_lt m _ _ _ hm
  obtain ⟨is0, hn0, w0⟩ : ∃ xs, n0 = xs.length ∧ HvAt W (.slice a0 n0 cap0) xs (fun k => k < W.heap.size) := by
    obtain ⟨fuel, hf⟩ := h0
    exact i16_of_trod hf
  obtain ⟨i1, rfl, rfl, rfl, w1⟩ := open_int Tryd.underlying5 (hval 1 5 v1 rfl rfl) h1
  obtain ⟨i2, rfl, rfl, rfl, w2⟩ := open_int Tryd.underlying3 (hval 2 3 v2 rfl rfl) h2
  have hT := tab_of_laid hL
  clear hA0 hval0
  refine (walk a0 n0 cap0 is0 i1 i2 W hn0 w0 w1 w2 hT).mono fun e W' ⟨he, hoff⟩ => ?_
  have bel : Below W.heap.size W W' := hoff.below (Nat.le_refl _) (fun _ _ c => c)
  subst he
  exact ⟨_, rfl, _, _, _, [], _, [], hW', trodAll_mk1 (shut_bool Tryd.underlying4 _), (trodAll_cons_mk (Below.trod laidOut (by kernel_rfl) (of_decide_eq_true (by kernel_rfl)) k0 bel lt0) (trodAll_cons_mk (shut_int Tryd.underlying5 w1) (trodAll_cons_mk (shut_int Tryd.underlying3 w2) trodAll_mk0))), rfl, bel.frame _, fun h => by cases h⟩

theorem over : Rows.dftInvertsRow.holds Tryd.pinned (OpenSpec.ofChange Rows.dftInvertsSpec) :=
  OpenClaim.holds_of_wide 5 Tryd.f5 rfl rfl rfl rfl rfl rfl rfl ⟨rfl, rfl, rfl, rfl, rfl⟩ rfl rfl rfl rfl rfl (by kernel_rfl) Tryd.func5 (by kernel_rfl)
    (of_decide_eq_true (by kernel_rfl)) (by unfold Func.isWrapper; first | (rw [if_pos (by decide +kernel)]; kernel_rfl) | (rw [if_neg (by decide +kernel)]; exact ⟨rfl, rfl⟩))
    (fun os started H enc _ => lifted os started H enc)

theorem proved : Rows.DftInvertsCardSaid :=
  Claim7.holds_tied_plain_at .later [] [.data, .data, .data] true (true, "a54383ae1ec94b8d7a338044b2fb747fa0409bfe29f2e7e860f0f0d16de69d0e") false
    over (fun _ h => by cases h) (by kernel_rfl) (fun _ h => by cases h) dftInverts_row_tie rfl ⟨rfl, rfl⟩ (by kernel_rfl) rfl
    (fun f fn hf hfn => by
      obtain rfl : f = 5 := Option.some.inj ((show Tryd.prog.funcNamed "sharecore/sharecorelaw11.DftInverts" = some 5 by kernel_rfl).symm.trans hf) |>.symm
      obtain rfl : fn = Tryd.f5 := (Option.some.inj (Tryd.func5.symm.trans hfn)).symm
      exact ⟨by kernel_rfl, fun j t ht => by
        rw [Tryd.params5] at ht
        have hm : t ∈ [36, 5, 3] := by simpa using Array.mem_of_getElem? ht
        have hall : ([36, 5, 3].all fun u => !Tryd.prog.wantsStandIn u) = true := by kernel_rfl
        exact (show Tryd.prog.wantsStandIn t = false by simpa using List.all_eq_true.1 hall t hm)⟩)
    (by kernel_rfl)
#print axioms proved
end Go.Proofs.YtghacjhempmejaaDoor.dftInverts
