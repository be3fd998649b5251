/-
  For every list of shares and every index, Column returns the elements of the reference, and Indices the indices: the statement of P15.5. No condition.
-/
import Derived.Test.YtmokaikofcbboaaDoorRows
import Derived.Test.YtmokaikofcbboaaDoorTie
import Derived.Test.YtmokaikofcbboaaDoorCards
import Derived.LaidMore
import Derived.LaidHandle
import Derived.SevenTiedAt
import Derived.Stop.Joined
import Derived.JoinedOf
import Derived.Test.YtmokaikofcbboaaDoorLimbOpen
import Derived.Test.YtmokaikofcbboaaDoorFieldTab
import Derived.Test.YtmokaikofcbboaaDoorParOpen
import Derived.Test.YtmokaikofcbboaaDoorParAlive
import Derived.Test.YtmokaikofcbboaaDoorParRefL
import Derived.Test.YtmokaikofcbboaaDoorParLarge
import Derived.WalkKit
import Derived.ProofKit
import Derived.OpenShut
import Derived.ShutString
import Derived.ChangeOld
import Derived.Below
namespace Go.Proofs.YtmokaikofcbboaaDoor.paramsColumns
open Go.ChangeShapes Go.WideShapes Go.ChangeAt Go.RowKit
set_option linter.unusedVariables false

theorem own : ownKnob Tryd.prog.godebug = none := by kernel_rfl
theorem laidOut : laidOutB Tryd.prog = true := by kernel_rfl

theorem eqin_same (x : Nat) (hx : x < R256) (W : World) : (Op.equalIn 10000 45 (.agg #[.int .u64 (wd x 0 : Int), .int .u64 (wd x 1 : Int), .int .u64 (wd x 2 : Int), .int .u64 (wd x 3 : Int)]) (.agg #[.int .u64 (wd x 0 : Int), .int .u64 (wd x 1 : Int), .int .u64 (wd x 2 : Int), .int .u64 (wd x 3 : Int)])).run Tryd.prog W = .ok true W := by
  have h := equalIn_num hx hx W
  rw [show eqN x x = true by unfold eqN; simp] at h
  exact h
set_option maxRecDepth 100000 in
set_option maxHeartbeats 4000000 in
theorem walk (a0 : Option Addr) (n0 cap0 : Nat) (l0 : List Sh) (i1 : Int) (w : World) (hn0 : n0 = l0.length) (w0 : ShsAt w (.slice a0 n0 cap0) l0 (fun k => k < w.heap.size)) (w1 : (Lit.int .i64 i1).wf = true) (hT : TabAt w) :
    Calls Tryd.prog 6 #[.slice a0 n0 cap0, .int .i64 i1] w fun e w' => e = .returned (.bool true) ∧ Off (fun _ => False) w w' := by
  have FAL : Hid (∀ W, TabAt W → Calls Tryd.prog 9 #[] W fun e w' => e = .returned (.bool true) ∧ Off (fun _ => False) W w') := Lib.hid (fun W hT => alive15_any W hT)
  have HT := Lib.hid hT
  clear hT
  obtain ⟨c, hc⟩ : ∃ c, c = lrgN l0 := ⟨_, rfl⟩
  have HZ := Lib.hid (show c = 0 → l0.length ≤ 300 ∧ ∀ s ∈ l0, s.pl.length ≤ 5000 from fun h => lrg_zero (hc.symm.trans h))
  have hc01 := lrg_cases l0
  rw [← hc] at hc01
  have FL := Lib.hid (large_any l0 a0 n0 cap0 hn0 (fun k => k < w.heap.size) w w0)
  rw [← hc] at FL
  have HN := Lib.hid hn0
  have HL := Lib.hid w0
  clear hc hn0 w0
  by_cases hbig : c = 1
  · subst hbig
    clear hc01
    go_enter Tryd.func6, Tryd.ntmps6
    go_wp2_with fail
    refine FL.out.mono ?_
    rintro e u ⟨rfl, hO⟩
    have HOl := Lib.hid hO
    clear hO
    go_wp2_with fail
    refine (FAL.out _ (HT.out.off HOl.out)).mono ?_
    rintro e u ⟨rfl, hO⟩
    have HOf := Lib.hid (HOl.out.trans hO (fun _ _ c => c))
    clear hO
    go_wp2
    go_ret
    exact ⟨rfl, HOf.out⟩
  · obtain rfl : c = 0 := by omega
    have hz := HZ.out rfl
    have hl3 : n0 ≤ 300 := by rw [HN.out]; exact hz.1
    have hp5 := hz.2
    clear hbig hc01 hz HZ
    have FC := Lib.hid (fun W (hO : Off (fun _ => False) w W) => column_par l0 a0 n0 cap0 HN.out (by omega) i1 w1 (fun k => k < w.heap.size) W (HL.out.off hO (fun _ _ _ c => c)))
    have FR := Lib.hid (fun W (hO : Off (fun _ => False) w W) => refcolumn_any l0 a0 n0 cap0 HN.out (by omega) i1 (fun k => k < w.heap.size) W (HL.out.off hO (fun _ _ _ c => c)))
    have FX := Lib.hid (fun W (hO : Off (fun _ => False) w W) => indices_par l0 a0 n0 cap0 HN.out (by omega) (fun k => k < w.heap.size) W (HL.out.off hO (fun _ _ _ c => c)))
    obtain ⟨cs, hcs⟩ : ∃ cs, cs = colN l0 i1 := ⟨_, rfl⟩
    rw [← hcs] at FC FR
    have HCl := Lib.hid (show cs.length = n0 by rw [hcs, colN_length, HN.out])
    have HCb := Lib.hid (show ∀ x ∈ cs, x < R256 by
      rw [hcs]
      intro x hx
      obtain ⟨s, hs, rfl⟩ := List.mem_map.1 hx
      obtain ⟨k, hk⟩ := List.getElem?_of_mem hs
      have hlt : k < n0 := by rw [HN.out]; exact (List.getElem?_eq_some_iff.1 hk).1
      obtain ⟨s', b, off, hx', hok, _⟩ := HL.out.at hlt
      rw [hk] at hx'
      cases hx'
      split
      · rw [List.getD_eq_getElem?_getD]
        cases hq : s.pl[i1.toNat]? with
        | none => exact (by decide : 0 < R256)
        | some y => exact hok.2.2.2.2 y (List.mem_of_getElem? hq)
      · exact (by decide : 0 < R256))
    have HXl := Lib.hid (show (ixs l0).length = n0 by rw [ixs, List.length_map, HN.out])
    have HB3 := Lib.hid hl3
    clear hcs hp5 hl3 w1
    have HOz := Lib.hid (Off.refl (fun _ => False) w)
    go_enter Tryd.func6, Tryd.ntmps6
    go_wp2_with fail
    refine (FL.out).mono ?_
    rintro e u1 ⟨rfl, hO⟩
    have HO1 := Lib.hid (HOz.out.trans hO (fun _ _ c => c))
    clear hO
    go_wp2_with fail
    refine (FC.out _ HO1.out).mono ?_
    rintro e u2 ⟨v2, rfl, hv, hO⟩
    have HO2 := Lib.hid (HO1.out.trans hO (fun _ _ c => c))
    have HV2 := Lib.hid (Ls.of hv)
    clear hO hv
    go_wp2_with fail
    refine (FR.out _ HO2.out).mono ?_
    rintro e u3 ⟨a3, c3, rfl, hv, hO⟩
    have HO3 := Lib.hid (HO2.out.trans hO (fun _ _ c => c))
    have HV2 := Lib.hid (HV2.out.off hO)
    have HV3 := Lib.hid (Ls.of (ls_of_own hv HCl.out.symm (by have := HB3.out; omega)))
    clear hO hv
    go_wp2_with fail
    refine (FX.out _ HO3.out).mono ?_
    rintro e u4 ⟨v4, rfl, hv, hO⟩
    have HO4 := Lib.hid (HO3.out.trans hO (fun _ _ c => c))
    have HV2 := Lib.hid (HV2.out.off hO)
    have HV3 := Lib.hid (HV3.out.off hO)
    have HV4 := Lib.hid (Iv.of hv)
    clear hO hv
    obtain ⟨a2, c2, rfl, _⟩ := HV2.out.open
    obtain ⟨a4, c4, rfl, _⟩ := HV4.out.open
    rw [HCl.out] at HV2 ⊢
    rw [HXl.out] at HV4 ⊢
    have j1 : ((n0 : Int) != (n0 : Int)) = false := by simp
    go_wp2
    go_loopw [35] (fun i wr => ∃ k : Nat, k ≤ n0 ∧ i = .int .i64 (k : Int) ∧ Off (fun _ => False) u4 wr) (fun i _ => n0 - (intOf i).toNat)
    case atStart => exact ⟨0, Nat.zero_le _, rfl, Off.refl _ _⟩
    case round =>
      obtain ⟨k, hk, rfl, hO⟩ := hrel
      by_cases hlt : k < n0
      · obtain ⟨x, hx⟩ : ∃ x, cs[k]? = some x := ⟨_, List.getElem?_eq_getElem (by rw [HCl.out]; exact hlt)⟩
        have hxr := HCb.out x (List.mem_of_getElem? hx)
        obtain ⟨b2, o2, rfl, _, p0, p1, p2, p3⟩ := (HV2.out.off hO).get hx
        obtain ⟨b3, o3, rfl, _, q0, q1, q2, q3⟩ := (HV3.out.off hO).get hx
        obtain ⟨z, b4, o4, hz, rfl, r0, _⟩ := (HV4.out.off hO).lt.at hlt
        obtain ⟨s, b5, o5, hs, hok, rfl, _, c0, c1, c2', _⟩ := (HL.out.off (HO4.out.trans hO (fun _ _ c => c)) (fun _ _ _ c => c)).at hlt
        have hzs : z = s.ix := by
          unfold ixs at hz
          rw [List.getElem?_map, hs] at hz
          simpa using hz.symm
        rw [hzs] at r0
        obtain ⟨y, hy⟩ : ∃ y, y = s.ix := ⟨_, rfl⟩
        rw [← hy] at r0 c2'
        have j2 : ((y : Int) != y) = false := by simp
        have j3 := fun W => eqin_same x hxr W
        have hkn : (k : Int) < (n0 : Int) := by omega
        have w2 : IntKind.i64.wrap ((k : Int) + 1) = (k : Int) + 1 := by rw [IntKind.wrap_i64]; have := HB3.out; omega
        have HO := Lib.hid hO
        clear hO hx hz hs hok hzs hy c0 c1
        go_wp2
        go_quiet (fail)
        go_wp2
        go_roundw
        case rel => exact ⟨k + 1, by omega, by simp, HO.out.drewP _⟩
        case measure => simp [intOf]; omega
      · obtain rfl : k = n0 := by omega
        have hkn : ¬ (k : Int) < (k : Int) := by omega
        have HO5 := Lib.hid (HO4.out.trans hO (fun _ _ c => c))
        clear hO
        go_wp2_with fail
        refine (FAL.out _ (HT.out.off HO5.out)).mono ?_
        rintro e u6 ⟨rfl, hO⟩
        have HO6 := Lib.hid (HO5.out.trans hO (fun _ _ c => c))
        clear hO
        go_wp2
        go_ret
        exact ⟨rfl, HO6.out⟩

theorem door_met (os : Os) (args : Array Value) : laidMetH Tryd.prog [("sharecore/field.fields", Rows.laid_sharecore_field_fields)] ((World.doorLaid Tryd.prog 400 os).forCall (fun _ _ => 0) ⟨#[], args, []⟩).memory :=
  laidMetH_of_parts3 (fuel := 8) (laidMet_of_run' 8 (by kernel_rfl) (by kernel_rfl)) (by kernel_rfl) (by kernel_rfl)

set_option maxRecDepth 100000 in
theorem lifted (os : Os) (started : os.Started) (H : Type) (enc : TypeId × Value → H) :
    ReturnsInHanded {} Tryd.checked os 6 .any (fun w args => (Rows.paramsColumnsSpec.pre enc Tryd.prog Tryd.f6 [] false w args ∧ laidMetH Tryd.prog [("sharecore/field.fields", Rows.laid_sharecore_field_fields)] w) ∧ sizedMet enc Tryd.prog Tryd.f6 (OpenSpec.ofChange Rows.paramsColumnsSpec) false w args)
      (Rows.paramsColumnsSpec.post enc Tryd.prog Tryd.f6 false true false false) := by
  refine returnsInHanded_of_change_and (C := Tryd.checked) (X := fun w _ => laidMetH Tryd.prog [("sharecore/field.fields", Rows.laid_sharecore_field_fields)] w) (fun _ _ _ hh h => h.of_heap hh) own started (by kernel_rfl) Tryd.func6
    (ChangeSpec.witness_shaped (enc := enc) (C := Tryd.checked) (os := os) (X := fun w _ => laidMetH Tryd.prog [("sharecore/field.fields", Rows.laid_sharecore_field_fields)] w) false (World.doorLaid Tryd.prog 400 os) #[.slice none 0 0, .int .i64 0] 8 rfl (World.shaped_of_RefB (by kernel_rfl) (by kernel_rfl)) (by kernel_rfl) (by kernel_rfl) (by kernel_rfl) (door_met os _)) ?_
  intro W base args ds gs before hval0 hW _ hsz hL _
  have hval : ∀ (j : Nat) t v, Tryd.f6.params[j]? = some t → args[j]? = some v → Value.okWide Tryd.prog W .any base t v := hval0
  have hW' := hW
  obtain ⟨p, q, hA0, hV, rfl, hfz, hnd⟩ := hW
  have hA : DataW.TrodAll enc Tryd.prog W 0 (fun _ => true) true Tryd.f6.params.toList args.toList ds p := hA0
  rw [Tryd.params6] at hA hval
  obtain ⟨v0, vs0, d0, ds0, p0, q0, hargs, rfl, rfl, h0, r0⟩ := trodAll_cons hA
  obtain ⟨v1, vs1, d1, ds1, p1, q1, rfl, rfl, rfl, h1, r1⟩ := trodAll_cons r0
  obtain ⟨rfl, rfl, rfl⟩ := trodAll_nil r1
  obtain rfl : args = #[v0, v1] := by cases args; simp_all
  obtain ⟨rfl, rfl⟩ := trodVars_none hV
  obtain ⟨a0, n0, cap0, rfl⟩ := okWide_slice Tryd.underlying33 (hval 0 33 v0 rfl rfl)
  have k0 := h0
  have lt0 : ∀ x ∈ p0, x.block < W.heap.size := by obtain ⟨m, hm⟩ := k0; exact DataW.trod_lt m _ _ _ hm
  obtain ⟨l0, hn0, w0⟩ : ∃ l, n0 = l.length ∧ ShsAt W (.slice a0 n0 cap0) l (fun k => k < W.heap.size) := by
    obtain ⟨fuel, hf⟩ := h0
    exact shares_of_trod hf
  obtain ⟨i1, rfl, rfl, rfl, w1⟩ := open_int Tryd.underlying3 (hval 1 3 v1 rfl rfl) h1
  have hT := tab_of_laid hL
  clear hA0 hval0
  refine (walk a0 n0 cap0 l0 i1 W hn0 w0 w1 hT).mono fun e W' ⟨he, hoff⟩ => ?_
  have bel : Below W.heap.size W W' := hoff.below (Nat.le_refl _) (fun _ _ c => c)
  subst he
  exact ⟨_, rfl, _, _, _, [], _, [], hW', trodAll_mk1 (shut_bool Tryd.underlying4 _), (trodAll_cons_mk (Below.trod laidOut (by kernel_rfl) (of_decide_eq_true (by kernel_rfl)) k0 bel lt0) (trodAll_cons_mk (shut_int Tryd.underlying3 w1) trodAll_mk0)), rfl, bel.frame _, fun h => by cases h⟩

theorem over : Rows.paramsColumnsRow.holds Tryd.pinned (OpenSpec.ofChange Rows.paramsColumnsSpec) :=
  OpenClaim.holds_of_wide 6 Tryd.f6 rfl rfl rfl rfl rfl rfl rfl ⟨rfl, rfl, rfl, rfl, rfl⟩ rfl rfl rfl rfl rfl (by kernel_rfl) Tryd.func6 (by kernel_rfl)
    (of_decide_eq_true (by kernel_rfl)) (by unfold Func.isWrapper; first | (rw [if_pos (by decide +kernel)]; kernel_rfl) | (rw [if_neg (by decide +kernel)]; exact ⟨rfl, rfl⟩))
    (fun os started H enc _ => lifted os started H enc)

theorem proved : Rows.ParamsColumnsCardSaid :=
  Claim7.holds_tied_plain_at .later [] [.data] true (true, "ea8bdea48650b0fa9e78c562e70f8a09a96d303cc992c6aef33c8898e21f7be9") false
    over (fun _ h => by cases h) (by kernel_rfl) (fun _ h => by cases h) paramsColumns_row_tie rfl ⟨rfl, rfl⟩ (by kernel_rfl) rfl
    (fun f fn hf hfn => by
      obtain rfl : f = 6 := Option.some.inj ((show Tryd.prog.funcNamed "sharecore/sharecorelaw15.ParamsColumns" = some 6 by kernel_rfl).symm.trans hf) |>.symm
      obtain rfl : fn = Tryd.f6 := (Option.some.inj (Tryd.func6.symm.trans hfn)).symm
      exact ⟨by kernel_rfl, fun j t ht => by
        rw [Tryd.params6] at ht
        have hm : t ∈ [33, 3] := by simpa using Array.mem_of_getElem? ht
        have hall : ([33, 3].all fun u => !Tryd.prog.wantsStandIn u) = true := by kernel_rfl
        exact (show Tryd.prog.wantsStandIn t = false by simpa using List.all_eq_true.1 hall t hm)⟩)
    (by kernel_rfl)
#print axioms proved
end Go.Proofs.YtmokaikofcbboaaDoor.paramsColumns
