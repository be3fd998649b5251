/-
  For every list of small integers, the first element of the landed Transform is nearly the sum of the list, and the transform of a list of ones has one element that is not near 0. Condition: none but the row's own (the tables of the coefficients of math.Sincos lie in memory as the program's text lays them).
-/
import Derived.Test.YtghacjhempmejaaDoorRows
import Derived.Test.YtghacjhempmejaaDoorTie
import Derived.Test.YtghacjhempmejaaDoorCards
import Derived.LaidMore
import Derived.LaidHandle
import Derived.SevenTiedAt
import Derived.Stop.Joined
import Derived.JoinedOf
import Derived.Test.YtghacjhempmejaaDoorIntOpen
import Derived.Test.YtghacjhempmejaaDoorI16Open
import Derived.Test.YtghacjhempmejaaDoorDftTabs
import Derived.Test.YtghacjhempmejaaDoorDftLin
import Derived.WalkKit
import Derived.ProofKit
import Derived.OpenShut
import Derived.ShutString
import Derived.ChangeOld
import Derived.Below
namespace Go.Proofs.YtghacjhempmejaaDoor.dftIsLinear
open Go.ChangeShapes Go.WideShapes Go.ChangeAt Go.RowKit
set_option linter.unusedVariables false

theorem own : ownKnob Tryd.prog.godebug = none := by kernel_rfl
theorem laidOut : laidOutB Tryd.prog = true := by kernel_rfl

set_option linter.unusedSimpArgs false
attribute [local go_sem] run_store_com
set_option maxRecDepth 100000 in
set_option maxHeartbeats 4000000 in
theorem walk (a0 : Option Addr) (n0 cap0 : Nat) (is0 : List Int) (i1 : Int) (w : World) (hn0 : n0 = is0.length) (w0 : HvAt w (.slice a0 n0 cap0) is0 (fun k => k < w.heap.size)) (w1 : (Lit.int .u8 i1).wf = true) (hT : TabAt w) :
    Calls Tryd.prog 6 #[.slice a0 n0 cap0, .int .u8 i1] w fun e w' => e = .returned (.bool true) ∧ Off (fun _ => False) w w' := by
  have hb1 : 0 ≤ i1 ∧ i1 ≤ 255 := by
    have h := w1
    simp [Lit.wf] at h
    exact ⟨h.1, h.2⟩
  obtain ⟨e, he⟩ : ∃ e, e = i1.toNat % 5 := ⟨_, rfl⟩
  have he5 : e < 5 := by omega
  have he9 : e < 9 := by omega
  have hp2 : (2 : Int) ^ e = ((pw e : Nat) : Int) := by unfold pw; push_cast; rfl
  have hn0' := pw_pos e
  have hn16 : pw e ≤ 16 := Nat.pow_le_pow_right (n := 2) (i := e) (j := 4) (by omega) (by omega)
  have hsh : IntKind.i64.wrap (1 * 2 ^ e) = ((pw e : Nat) : Int) := by rw [Int.one_mul, hp2, IntKind.wrap_i64]; omega
  have hsh2 : IntKind.i64.wrap (2 ^ e) = ((pw e : Nat) : Int) := by rw [hp2, IntKind.wrap_i64]; omega
  have hmod : i1.tmod 5 = (e : Int) := by rw [Int.tmod_eq_emod_of_nonneg hb1.1]; omega
  have hwe : IntKind.u8.wrap (e : Int) = (e : Int) := by rw [IntKind.wrap_u8]; omega
  obtain ⟨b1, _, _, _⟩ := back_near is0 he9
  obtain ⟨c1, c2, c3, c4⟩ := lin_near is0 he5
  have hNum := numbers_any is0 n0 (pw e) cap0 a0 hn0 (by omega) w (Hv.of w0)
  have HTr := Lib.hid (fun v W c => trans_any e he9 (numsL is0 (pw e)) (by unfold numsL; simp) b1 v W c)
  have HTo := Lib.hid (fun v W c => trans_any e he9 (List.replicate (pw e) (4607182418800017408, 0)) (by simp) c2 v W c)
  have HSum := Lib.hid (fun k (h : k < pw e) => sumw_ok is0 (pw e) hn16 k h)
  have HAl := Lib.hid (fun W => alive_any W)
  have HT := Lib.hid hT
  have HLx := Lib.hid (show (numsL is0 (pw e)).length = pw e by unfold numsL; simp)
  have HLf := Lib.hid (show (fftW e (numsL is0 (pw e))).length = pw e from fftW_len _ _ (by unfold numsL; simp))
  have HLo := Lib.hid (show (fftW e (List.replicate (pw e) (4607182418800017408, 0))).length = pw e from fftW_len _ _ (by simp))
  obtain ⟨X, hX⟩ : ∃ X, X = numsL is0 (pw e) := ⟨_, rfl⟩
  rw [← hX] at hNum HTr HLx HLf HSum c1
  obtain ⟨F, hF⟩ : ∃ F, F = fftW e X := ⟨_, rfl⟩
  rw [← hF] at HTr HLf c1
  obtain ⟨O, hO⟩ : ∃ O, O = fftW e (List.replicate (pw e) (4607182418800017408, 0)) := ⟨_, rfl⟩
  rw [← hO] at HTo HLo c3 c4
  obtain ⟨n, hn⟩ : ∃ n, n = pw e := ⟨_, rfl⟩
  rw [← hn] at hNum HTr HTo HLx HLf HLo HSum c1 c3 c4 hsh hsh2 hn16 hn0'
  have HRep := Lib.hid (fun a cap W c => repeat_c (4607182418800017408, 0) n hn0' (by omega) a cap W c)
  have HC1 := Lib.hid c1
  have HC3 := Lib.hid c3
  have HC4 := Lib.hid c4
  have he64 : ¬ (64 : Int) ≤ (e : Int) := by omega
  clear hX hF hO hn b1 c1 c2 c3 c4 hT w0 w1 hn0 hp2 he he9 he5 hb1
  go_enter Tryd.func6, Tryd.ntmps6
  go_wp2_with fail
  refine hNum.mono ?_
  rintro r w1 ⟨g, rfl, hg, hL1, hO1⟩
  have HL1 := Lib.hid hL1
  have HX1 := Lib.hid (cs_blk (S := fun _ => True) hL1 HLx.out.symm (by omega) trivial)
  have HO1 := Lib.hid hO1
  clear hg hL1 hO1 hNum
  go_wp2_with fail
  go_loopw [7, 22] (fun s i wr => ∃ k : Nat, k ≤ n ∧ i = .int .i64 (k : Int) ∧ s = .complex .f64 (sumW X k).1 (sumW X k).2 ∧ Off (fun _ => False) w1 wr) (fun _ i _ => n - (intOf i).toNat)
  case atStart => exact ⟨0, Nat.zero_le _, rfl, rfl, Off.refl _ _⟩
  case round =>
    obtain ⟨k, hk, rfl, rfl, hOk⟩ := hrel
    by_cases hkn : k < n
    · have hki : (k : Int) < (n : Int) := by omega
      have hwk : IntKind.i64.wrap ((k : Int) + 1) = (k : Int) + 1 := by rw [IntKind.wrap_i64]; omega
      obtain ⟨x, hx⟩ : ∃ x, X[k]? = some x := ⟨_, List.getElem?_eq_getElem (by have := HLx.out; omega)⟩
      have q1 := HSum.out k hkn
      rw [show X.getD k (0, 0) = x by rw [List.getD_eq_getElem?_getD, hx]; rfl] at q1
      have m1 := cell_c (hOk.heap HL1.out (fun c => c)) hx
      obtain ⟨s1, hs1⟩ : ∃ s, Hid (s = sumW X k) := ⟨_, Lib.hid rfl⟩
      obtain ⟨s2, hs2⟩ : ∃ s, Hid (s = sumW X (k + 1)) := ⟨_, Lib.hid rfl⟩
      rw [← hs1.out] at q1 ⊢
      rw [← hs2.out] at q1
      have E1 := fun (W : World) (t : TypeId) => run_complex_sum (P := Tryd.prog) W .add (.inl rfl) t .f64 s1.1 s1.2 x.1 x.2 _ _ q1
      have HO2 := Lib.hid hOk
      clear hOk q1 hx
      go_wp2
      go_roundw
      case rel => exact ⟨k + 1, by omega, by simp, by rw [hs2.out], HO2.out⟩
      case measure => simp [intOf] <;> omega
    · obtain rfl : n = k := by omega
      have hki : ¬ ((n : Nat) : Int) < (n : Int) := by omega
      obtain ⟨s, hs⟩ : ∃ s, Hid (s = sumW X n) := ⟨_, Lib.hid rfl⟩
      rw [← hs.out]
      have HX2 := Lib.hid (Cs.off HX1.out hOk)
      have HO2 := Lib.hid (HO1.out.trans hOk (fun _ _ c => c))
      clear hOk
      go_wp2_with fail
      refine (HTr.out _ _ HX2.out (HT.out.off HO2.out)).mono ?_
      rintro r w2 ⟨g2, rfl, hg2, hL2, hO2⟩
      have HL2 := Lib.hid hL2
      have HO3 := Lib.hid (HO2.out.trans hO2 (fun _ _ c => c))
      clear hg2 hL2 hO2 HO2 HX2 HX1 HTr
      go_wp2_with fail
      obtain ⟨w3, hw3⟩ : ∃ w3, w3 = w2.alloc (.cells #[.complex .f64 4607182418800017408 0] 34) := ⟨_, rfl⟩
      have hc1 : w3.cell? ⟨w2.heap.size, 0, none⟩ = some (.complex .f64 4607182418800017408 0) := by rw [hw3, cell_of_heap (heap_new' rfl _)]; rfl
      have o23 : Off (fun _ => False) w2 w3 := by rw [hw3]; exact (Off.refl _ w2).alloc _
      rw [← hw3]
      refine (HRep.out ⟨w2.heap.size, 0, none⟩ 1 w3 hc1).mono ?_
      rintro r w4 ⟨g4, rfl, hg4, hL4, hO4⟩
      have HX4 := Lib.hid (cs_blk (n := n) (L := List.replicate n (4607182418800017408, 0)) (S := fun _ => True) hL4 (by simp) (by omega) trivial)
      have HL2' := Lib.hid ((o23.trans hO4 (fun _ _ c => c)).heap HL2.out (fun c => c))
      have HO4 := Lib.hid (HO3.out.trans (o23.trans hO4 (fun _ _ c => c)) (fun _ _ c => c))
      clear hg4 hL4 hO4 HO3 HL2 hc1 o23 hw3 HRep
      go_wp2_with fail
      refine (HTo.out _ _ HX4.out (HT.out.off HO4.out)).mono ?_
      rintro r w5 ⟨g5, rfl, hg5, hL5, hO5⟩
      have HL5 := Lib.hid hL5
      have HL2 := Lib.hid (hO5.heap HL2'.out (fun c => c))
      have HO5 := Lib.hid (HO4.out.trans hO5 (fun _ _ c => c))
      obtain ⟨y0, hy0⟩ : ∃ y, F[0]? = some y := ⟨_, List.getElem?_eq_getElem (by have := HLf.out; omega)⟩
      obtain ⟨z0, hz0⟩ : ∃ z, O[0]? = some z := ⟨_, List.getElem?_eq_getElem (by have := HLo.out; omega)⟩
      have m1 := cell_c HL2.out hy0
      have m2 := cell_c HL5.out hz0
      have k1 := HC1.out
      rw [show F.getD 0 (0, 0) = y0 by rw [List.getD_eq_getElem?_getD, hy0]; rfl, ← hs.out] at k1
      have k3 := HC3.out
      rw [show O.getD 0 (0, 0) = z0 by rw [List.getD_eq_getElem?_getD, hz0]; rfl] at k3
      have HN1 := Lib.hid (fun W => near_close k1 W)
      have HN3 := Lib.hid (fun W => near_close k3 W)
      have hnn : ((n : Int) != (n : Int)) = false := by simp
      clear hg5 hL5 hO5 HO4 HX4 HTo HL2' hy0 hz0 k1 k3
      go_wp2_with fail
      refine (HN1.out _).mono ?_
      rintro r w6 ⟨rfl, hO6⟩
      have m3 := hO6.cell m2 (fun c => c)
      have HL6 := Lib.hid (hO6.heap HL5.out (fun c => c))
      have HO6 := Lib.hid (HO5.out.trans hO6 (fun _ _ c => c))
      clear hO6 HO5 m1 m2 HL5 HL2
      go_wp2_with fail
      refine (HN3.out _).mono ?_
      rintro r w7 ⟨rfl, hO7⟩
      have HL7 := Lib.hid (hO7.heap HL6.out (fun c => c))
      have HO7 := Lib.hid (HO6.out.trans hO7 (fun _ _ c => c))
      clear hO7 HO6 m3 HL6
      obtain ⟨at', ct, hsl, hat⟩ := slice_tail g5 n hn0' (by omega)
      have HAt := Lib.hid hat
      clear hat
      go_wp2_with fail
      obtain ⟨m, hm⟩ : ∃ m, m = n - 1 := ⟨_, rfl⟩
      have Hm := Lib.hid hm
      rw [← hm]
      clear hsl hm
      go_loopw [67] (fun i wr => ∃ k : Nat, k ≤ m ∧ i = .int .i64 (k : Int) ∧ Off (fun _ => False) w7 wr) (fun i _ => m - (intOf i).toNat)
      case atStart => exact ⟨0, Nat.zero_le _, rfl, Off.refl _ _⟩
      case round =>
        obtain ⟨k, hk, rfl, hO8⟩ := hrel
        by_cases hkm : k < m
        · have hki : (k : Int) < (m : Int) := by omega
          have hwk : IntKind.i64.wrap ((k : Int) + 1) = (k : Int) + 1 := by have h1 := Hm.out; rw [IntKind.wrap_i64]; omega
          obtain rfl := HAt.out (by have := Hm.out; omega)
          obtain ⟨z, hz⟩ : ∃ z, O[k + 1]? = some z := ⟨_, List.getElem?_eq_getElem (by have := HLo.out; have := Hm.out; omega)⟩
          have mz := cell_c (hO8.heap HL7.out (fun c => c)) hz
          rw [Nat.add_comm k 1] at mz
          have kz := HC4.out (k + 1) (by omega) (by have := Hm.out; omega)
          rw [show O.getD (k + 1) (0, 0) = z by rw [List.getD_eq_getElem?_getD, hz]; rfl] at kz
          have HNz := Lib.hid (fun W => near_close kz W)
          have HO8 := Lib.hid hO8
          clear hO8 hz kz
          go_wp2_with fail
          refine (HNz.out _).mono ?_
          rintro r w9 ⟨rfl, hO9⟩
          have HO9 := Lib.hid (HO8.out.trans hO9 (fun _ _ c => c))
          clear hO9 HO8 mz
          go_wp2
          go_roundw
          case rel => exact ⟨k + 1, by omega, by simp, HO9.out⟩
          case measure => simp [intOf] <;> omega
        · have hki : ¬ (k : Int) < (m : Int) := by omega
          have HO8 := Lib.hid (HO7.out.trans hO8 (fun _ _ c => c))
          clear hO8
          go_wp2_with fail
          refine (HAl.out _ (HT.out.off HO8.out)).mono ?_
          rintro r w9 ⟨rfl, hO9⟩
          have HO9 := Lib.hid (HO8.out.trans hO9 (fun _ _ c => c))
          clear hO9
          go_wp2
          go_ret
          exact ⟨rfl, HO9.out⟩

theorem door_met (os : Os) (args : Array Value) : laidMetH Tryd.prog [("math._sin", Rows.laid_math_sin), ("math._cos", Rows.laid_math_cos), ("math.mPi4", Rows.laid_math_mPi4)] ((World.doorLaid Tryd.prog 400 os).forCall (fun _ _ => 0) ⟨#[], args, []⟩).memory :=
  laidMetH_of_parts3 (fuel := 8) (laidMet_of_run' 8 (by kernel_rfl) (by kernel_rfl)) (by kernel_rfl) (by kernel_rfl)

set_option maxRecDepth 100000 in
theorem lifted (os : Os) (started : os.Started) (H : Type) (enc : TypeId × Value → H) :
    ReturnsInHanded {} Tryd.checked os 6 .any (fun w args => (Rows.dftIsLinearSpec.pre enc Tryd.prog Tryd.f6 [] false w args ∧ laidMetH Tryd.prog [("math._sin", Rows.laid_math_sin), ("math._cos", Rows.laid_math_cos), ("math.mPi4", Rows.laid_math_mPi4)] w) ∧ sizedMet enc Tryd.prog Tryd.f6 (OpenSpec.ofChange Rows.dftIsLinearSpec) false w args)
      (Rows.dftIsLinearSpec.post enc Tryd.prog Tryd.f6 false true false false) := by
  refine returnsInHanded_of_change_and (C := Tryd.checked) (X := fun w _ => laidMetH Tryd.prog [("math._sin", Rows.laid_math_sin), ("math._cos", Rows.laid_math_cos), ("math.mPi4", Rows.laid_math_mPi4)] w) (fun _ _ _ hh h => h.of_heap hh) own started (by kernel_rfl) Tryd.func6
    (ChangeSpec.witness_shaped (enc := enc) (C := Tryd.checked) (os := os) (X := fun w _ => laidMetH Tryd.prog [("math._sin", Rows.laid_math_sin), ("math._cos", Rows.laid_math_cos), ("math.mPi4", Rows.laid_math_mPi4)] w) false (World.doorLaid Tryd.prog 400 os) #[.slice none 0 0, .int .u8 0] 8 rfl (World.shaped_of_RefB (by kernel_rfl) (by kernel_rfl)) (by kernel_rfl) (by kernel_rfl) (by kernel_rfl) (door_met os _)) ?_
  intro W base args ds gs before hval0 hW _ _ hL _
  have hval : ∀ (j : Nat) t v, Tryd.f6.params[j]? = some t → args[j]? = some v → Value.okWide Tryd.prog W .any base t v := hval0
  have hW' := hW
  obtain ⟨p, q, hA0, hV, rfl, hfz, hnd⟩ := hW
  have hA : DataW.TrodAll enc Tryd.prog W 0 (fun _ => true) true Tryd.f6.params.toList args.toList ds p := hA0
  rw [Tryd.params6] at hA hval
  obtain ⟨v0, vs0, d0, ds0, p0, q0, hargs, rfl, rfl, h0, r0⟩ := trodAll_cons hA
  obtain ⟨v1, vs1, d1, ds1, p1, q1, rfl, rfl, rfl, h1, r1⟩ := trodAll_cons r0
  obtain ⟨rfl, rfl, rfl⟩ := trodAll_nil r1
  obtain rfl : args = #[v0, v1] := by cases args; simp_all
  obtain ⟨rfl, rfl⟩ := trodVars_none hV
  obtain ⟨a0, n0, cap0, rfl⟩ := okWide_slice Tryd.underlying36 (hval 0 36 v0 rfl rfl)
  have k0 := h0
  have lt0 : ∀ x ∈ p0, x.block < W.heap.size := by obtain ⟨m, hm⟩ := k0; exact DataW.trod_lt m _ _ _ hm
  obtain ⟨is0, hn0, w0⟩ : ∃ xs, n0 = xs.length ∧ HvAt W (.slice a0 n0 cap0) xs (fun k => k < W.heap.size) := by
    obtain ⟨fuel, hf⟩ := h0
    exact i16_of_trod hf
  obtain ⟨i1, rfl, rfl, rfl, w1⟩ := open_int Tryd.underlying5 (hval 1 5 v1 rfl rfl) h1
  have hT := tab_of_laid hL
  clear hA0 hval0
  refine (walk a0 n0 cap0 is0 i1 W hn0 w0 w1 hT).mono fun e W' ⟨he, hoff⟩ => ?_
  have bel : Below W.heap.size W W' := hoff.below (Nat.le_refl _) (fun _ _ c => c)
  subst he
  exact ⟨_, rfl, _, _, _, [], _, [], hW', trodAll_mk1 (shut_bool Tryd.underlying4 _), (trodAll_cons_mk (Below.trod laidOut (by kernel_rfl) (of_decide_eq_true (by kernel_rfl)) k0 bel lt0) (trodAll_cons_mk (shut_int Tryd.underlying5 w1) trodAll_mk0)), rfl, bel.frame _, fun h => by cases h⟩

theorem over : Rows.dftIsLinearRow.holds Tryd.pinned (OpenSpec.ofChange Rows.dftIsLinearSpec) :=
  OpenClaim.holds_of_wide 6 Tryd.f6 rfl rfl rfl rfl rfl rfl rfl ⟨rfl, rfl, rfl, rfl, rfl⟩ rfl rfl rfl rfl rfl (by kernel_rfl) Tryd.func6 (by kernel_rfl)
    (of_decide_eq_true (by kernel_rfl)) (by unfold Func.isWrapper; first | (rw [if_pos (by decide +kernel)]; kernel_rfl) | (rw [if_neg (by decide +kernel)]; exact ⟨rfl, rfl⟩))
    (fun os started H enc _ => lifted os started H enc)

theorem proved : Rows.DftIsLinearCardSaid :=
  Claim7.holds_tied_plain_at .later [] [.data, .data, .data] true (true, "a54383ae1ec94b8d7a338044b2fb747fa0409bfe29f2e7e860f0f0d16de69d0e") false
    over (fun _ h => by cases h) (by kernel_rfl) (fun _ h => by cases h) dftIsLinear_row_tie rfl ⟨rfl, rfl⟩ (by kernel_rfl) rfl
    (fun f fn hf hfn => by
      obtain rfl : f = 6 := Option.some.inj ((show Tryd.prog.funcNamed "sharecore/sharecorelaw11.DftIsLinear" = some 6 by kernel_rfl).symm.trans hf) |>.symm
      obtain rfl : fn = Tryd.f6 := (Option.some.inj (Tryd.func6.symm.trans hfn)).symm
      exact ⟨by kernel_rfl, fun j t ht => by
        rw [Tryd.params6] at ht
        have hm : t ∈ [36, 5] := by simpa using Array.mem_of_getElem? ht
        have hall : ([36, 5].all fun u => !Tryd.prog.wantsStandIn u) = true := by kernel_rfl
        exact (show Tryd.prog.wantsStandIn t = false by simpa using List.all_eq_true.1 hall t hm)⟩)
    (by kernel_rfl)
#print axioms proved
end Go.Proofs.YtghacjhempmejaaDoor.dftIsLinear
