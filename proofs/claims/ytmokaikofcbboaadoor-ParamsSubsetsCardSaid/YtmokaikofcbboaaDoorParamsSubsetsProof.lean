/-
  Each list of enough accepted shares is accepted, and each shorter one has too few: the statement of P15.4. No condition.
-/
import Derived.Test.YtmokaikofcbboaaDoorRows
import Derived.Test.YtmokaikofcbboaaDoorTie
import Derived.Test.YtmokaikofcbboaaDoorCards
import Derived.LaidMore
import Derived.LaidHandle
import Derived.SevenTiedAt
import Derived.Stop.Joined
import Derived.JoinedOf
import Derived.Test.YtmokaikofcbboaaDoorLimbOpen
import Derived.Test.YtmokaikofcbboaaDoorFieldTab
import Derived.Test.YtmokaikofcbboaaDoorParOpen
import Derived.Test.YtmokaikofcbboaaDoorParAlive
import Derived.Test.YtmokaikofcbboaaDoorParRefL
import Derived.Test.YtmokaikofcbboaaDoorParLarge
import Derived.Test.YtmokaikofcbboaaDoorParPerm
import Derived.WalkKit
import Derived.ProofKit
import Derived.OpenShut
import Derived.ShutString
import Derived.ChangeOld
import Derived.Below
namespace Go.Proofs.YtmokaikofcbboaaDoor.paramsSubsets
open Go.ChangeShapes Go.WideShapes Go.ChangeAt Go.RowKit
set_option linter.unusedVariables false

theorem own : ownKnob Tryd.prog.godebug = none := by kernel_rfl
theorem laidOut : laidOutB Tryd.prog = true := by kernel_rfl

set_option maxRecDepth 100000 in
set_option maxHeartbeats 4000000 in
theorem walk (a0 : Option Addr) (n0 cap0 : Nat) (l0 : List Sh) (i1 : Int) (w : World) (hn0 : n0 = l0.length) (w0 : ShsAt w (.slice a0 n0 cap0) l0 (fun k => k < w.heap.size)) (w1 : (Lit.int .u32 i1).wf = true) (hT : TabAt w) :
    Calls Tryd.prog 8 #[.slice a0 n0 cap0, .int .u32 i1] w fun e w' => e = .returned (.bool true) ∧ Off (fun _ => False) w w' := by
  have FAL : Hid (∀ W, TabAt W → Calls Tryd.prog 9 #[] W fun e w' => e = .returned (.bool true) ∧ Off (fun _ => False) W w') := Lib.hid (fun W hT => alive15_any W hT)
  have HT := Lib.hid hT
  clear hT
  obtain ⟨c, hc⟩ : ∃ c, c = lrgN l0 := ⟨_, rfl⟩
  have HZ := Lib.hid (show c = 0 → l0.length ≤ 300 ∧ ∀ s ∈ l0, s.pl.length ≤ 5000 from fun h => lrg_zero (hc.symm.trans h))
  have hc01 := lrg_cases l0
  rw [← hc] at hc01
  have FL := Lib.hid (large_any l0 a0 n0 cap0 hn0 (fun k => k < w.heap.size) w w0)
  rw [← hc] at FL
  have HN := Lib.hid hn0
  have HL := Lib.hid w0
  clear hc hn0 w0
  by_cases hbig : c = 1
  · subst hbig
    clear hc01
    go_enter Tryd.func8, Tryd.ntmps8
    go_wp2_with fail
    refine FL.out.mono ?_
    rintro e u ⟨rfl, hO⟩
    have HOl := Lib.hid hO
    clear hO
    go_wp2_with fail
    refine (FAL.out _ (HT.out.off HOl.out)).mono ?_
    rintro e u ⟨rfl, hO⟩
    have HOf := Lib.hid (HOl.out.trans hO (fun _ _ c => c))
    clear hO
    go_wp2
    go_ret
    exact ⟨rfl, HOf.out⟩
  · obtain rfl : c = 0 := by omega
    have hz := HZ.out rfl
    have hl3 : n0 ≤ 300 := by rw [HN.out]; exact hz.1
    have hp5 := hz.2
    clear hbig hc01 hz HZ
    by_cases hbad : shsN l0 ≠ 0
    · obtain ⟨r, hr⟩ : ∃ r, r = shsN l0 := ⟨_, rfl⟩
      have FR := Lib.hid (fun W (hO : Off (fun _ => False) w W) => refshares_any l0 a0 n0 cap0 HN.out (fun k => k < w.heap.size) W (HL.out.off hO (fun _ _ _ c => c)))
      rw [← hr] at FR hbad
      have j0 : ((r : Int) != 0) = true := by simp; omega
      clear hr hl3 hp5
      have HOz := Lib.hid (Off.refl (fun _ => False) w)
      go_enter Tryd.func8, Tryd.ntmps8
      go_wp2_with fail
      refine (FL.out).mono ?_
      rintro e u1 ⟨rfl, hO⟩
      have HO1 := Lib.hid (HOz.out.trans hO (fun _ _ c => c))
      clear hO
      go_wp2_with fail
      refine (FR.out _ HO1.out).mono ?_
      rintro e u2 ⟨rfl, hO⟩
      have HOl := Lib.hid (HO1.out.trans hO (fun _ _ c => c))
      clear hO
      go_wp2_with fail
      refine (FAL.out _ (HT.out.off HOl.out)).mono ?_
      rintro e u ⟨rfl, hO⟩
      have HOf := Lib.hid (HOl.out.trans hO (fun _ _ c => c))
      clear hO
      go_wp2
      go_ret
      exact ⟨rfl, HOf.out⟩
    · have hok : shsN l0 = 0 := by omega
      obtain ⟨L, hLm, hnL, hmax, hSv, hPl⟩ := HL.out.lift
      have HLm := Lib.hid hLm
      have HNL := Lib.hid hnL
      have HSv := Lib.hid hSv
      have HPl := Lib.hid hPl
      unfold maxLen at hmax
      have HOz := Lib.hid (Off.refl (fun _ => False) w)
      have FR := Lib.hid (fun W (hO : Off (fun _ => False) w W) => refshares_any l0 a0 n0 cap0 HN.out (fun k => k < w.heap.size) W (HL.out.off hO (fun _ _ _ c => c)))
      rw [hok] at FR
      have HOK := Lib.hid hok
      have HP5 := Lib.hid hp5
      clear hnL hLm hSv hPl hok hbad hp5
      go_enter Tryd.func8, Tryd.ntmps8
      go_wp2_with fail
      refine (FL.out).mono ?_
      rintro e u1 ⟨rfl, hO⟩
      have HO1 := Lib.hid (HOz.out.trans hO (fun _ _ c => c))
      clear hO
      go_wp2_with fail
      refine (FR.out _ HO1.out).mono ?_
      rintro e u2 ⟨rfl, hO⟩
      have HO2 := Lib.hid (HO1.out.trans hO (fun _ _ c => c))
      clear hO
      go_wp2
      go_loopw [5, 20] (fun v i wr => ∃ (k : Nat) (M : List ShV), k ≤ n0 ∧ i = .int .i64 (k : Int) ∧ M.Sublist (L.take k) ∧ RowS w.heap.size wr v M ∧ Off (fun _ => False) w wr) (fun _ i _ => n0 - (intOf i).toNat)
      case atStart => exact ⟨0, [], Nat.zero_le _, rfl, List.Sublist.refl _, World.ownsRow_nil _ _ _ _, HO2.out⟩
      case round =>
        rename_i v i wr
        obtain ⟨k, M, hk, rfl, hM, hr, hO⟩ := hrel
        by_cases hlt : k < n0
        · obtain ⟨x, hx⟩ : ∃ x, L[k]? = some x := ⟨_, List.getElem?_eq_getElem (by rw [← HNL.out]; exact hlt)⟩
          obtain ⟨aa, ac, eS, hcc, hat⟩ := HSv.out.off hO (fun _ _ _ c => c)
          simp at eS
          obtain ⟨rfl, en, rfl⟩ := eS
          clear en
          obtain ⟨b, off, rfl, hSb, hat⟩ := hat (by rw [← HNL.out]; omega)
          have c0 := hat k x 0 _ hx rfl
          have c1 := hat k x 1 _ hx rfl
          have c2 := hat k x 2 _ hx rfl
          have c3 := hat k x 3 _ hx rfl
          have c4 := hat k x 4 _ hx rfl
          rw [Nat.add_zero] at c0
          have hlb : b < wr.heap.size := World.block_lt_of_cell? wr _ c0
          obtain ⟨W1, hW1⟩ : ∃ W1, W1 = (wr.alloc (.cells #[.int .i64 x.sh.fd, .int .i64 x.sh.th, .int .i64 x.sh.ix, .int .i64 x.sh.ln, .slice x.pa x.sh.pl.length x.pc] 31)).alloc (.cells #[.int .i64 x.sh.fd, .int .i64 x.sh.th, .int .i64 x.sh.ix, .int .i64 x.sh.ln, .slice x.pa x.sh.pl.length x.pc] 31) := ⟨_, rfl⟩
          have hO1 : Off (fun _ => False) wr W1 := by rw [hW1]; exact ((Off.refl _ wr).alloc _).alloc _
          have g1 : W1.heap[wr.heap.size + 1]? = some (.cells #[.int .i64 x.sh.fd, .int .i64 x.sh.th, .int .i64 x.sh.ix, .int .i64 x.sh.ln, .slice x.pa x.sh.pl.length x.pc] 31 (0, 0)) := by rw [hW1]; exact heap_new' (by simp) _
          have hx1 : SvsAt W1 (.slice (some ⟨wr.heap.size + 1, 0, none⟩) 1 1) [x] (fun _ => True) := ⟨_, _, rfl, Nat.le_refl _, fun _ => ⟨_, _, rfl, trivial, fun j y i u hj hu => by
            match j, hj with
            | 0, hj =>
              simp at hj; subst hj
              exact cells5_of (o := 0 + 0 * 5) (cell_of_heap g1 0) (cell_of_heap g1 1) (cell_of_heap g1 2) (cell_of_heap g1 3) (cell_of_heap g1 4) hu⟩⟩
          obtain ⟨v', w1, hrun, hr1, hO2⟩ := app_shs (hO.trans hO1 (fun _ _ c => c)) (hr.off hO1) hx1 (by have := hM.length_le; rw [List.length_take] at this; simp; omega)
          rw [hW1] at hrun
          have HRun := Lib.hid hrun
          have HR1 := Lib.hid hr1
          have HO2 := Lib.hid hO2
          have HM1 := Lib.hid (show (M ++ [x]).Sublist (L.take (k + 1)) by rw [List.take_add_one, hx]; exact hM.append_right _)
          have HM0 := Lib.hid (show M.Sublist (L.take (k + 1)) by rw [List.take_add_one]; exact hM.trans (List.sublist_append_left _ _))
          have HOa := Lib.hid (hO.alloc (.cells #[.int .i64 x.sh.fd, .int .i64 x.sh.th, .int .i64 x.sh.ix, .int .i64 x.sh.ln, .slice x.pa x.sh.pl.length x.pc] 31))
          have HRa := Lib.hid (hr.off ((Off.refl (fun _ => False) wr).alloc (.cells #[.int .i64 x.sh.fd, .int .i64 x.sh.th, .int .i64 x.sh.ix, .int .i64 x.sh.ln, .slice x.pa x.sh.pl.length x.pc] 31)))
          have hkn : (k : Int) < (n0 : Int) := by omega
          have w2 : IntKind.i64.wrap ((k : Int) + 1) = (k : Int) + 1 := by rw [IntKind.wrap_i64]; omega
          have hkk : 0 ≤ (k : Int) := by omega
          clear hx hO hW1 hO1 hr g1 hx1 hrun hr1 hO2 hM hSb hat hcc
          go_wp2_with first | (at_builtin; refine Go.Lib.wpList_append_run _ rfl _ _ _ _ rfl _ _ rfl rfl _ _ HRun.out ?_) | fail
          · exact ⟨⟨k + 1, M ++ [x], by omega, by simp, HM1.out, HR1.out, HO2.out⟩, by simp [intOf]; omega⟩
          · exact ⟨⟨k + 1, M, by omega, by simp, HM0.out, HRa.out, HOa.out⟩, by simp [intOf]; omega⟩
        · obtain rfl : n0 = k := by omega
          rw [List.take_of_length_le (by rw [← HNL.out]; exact Nat.le_refl _)] at hM
          have hlen := hM.length_le
          rw [← HNL.out] at hlen
          have hsub : (M.map ShV.sh).Sublist l0 := by rw [← HLm.out]; exact hM.map _
          obtain ⟨s, b, off, hs0, _, rfl, _, z0, z1, _⟩ := (HL.out.off hO (fun _ _ _ c => c)).at (show 0 < n0 by
            rcases Nat.eq_zero_or_pos n0 with h | h
            · have : l0 = [] := List.eq_nil_of_length_eq_zero (by rw [← HN.out]; exact h)
              have h2 := HOK.out
              rw [this, shsN_nil] at h2
              exact absurd h2 (by decide)
            · exact h)
          rw [show off + 0 * 5 = off by omega] at z1
          have hwant := shsN_sub HOK.out hsub hs0
          rw [List.length_map] at hwant
          have HS := Lib.hid (hr.shs (by unfold maxLen; omega) (fun x hx => HPl.out x (hM.subset hx)) hO (fun _ _ c => c))
          obtain ⟨a, cap, rfl, _⟩ := hr.svs
          obtain ⟨m, hm⟩ : ∃ m, m = M.length := ⟨_, rfl⟩
          rw [← hm] at HS hwant hlen ⊢
          have hp5m : ∀ s ∈ M.map ShV.sh, s.pl.length ≤ 5000 := fun s hs => HP5.out s (hsub.subset hs)
          have FC := Lib.hid (fun W (hO : Off (fun _ => False) wr W) hT => shares_par (M.map ShV.sh) a m cap (by rw [List.length_map, hm]) (by omega) hp5m (fun _ => True) W (HS.out.off hO (fun _ _ _ c => c)) hT)
          obtain ⟨r, hr3⟩ : ∃ r, r = shsN (M.map ShV.sh) := ⟨_, rfl⟩
          rw [← hr3] at FC hwant
          obtain ⟨th, hth⟩ : ∃ th, th = s.th := ⟨_, rfl⟩
          rw [← hth] at z1 hwant
          have HO := Lib.hid hO
          have HTr := Lib.hid (HT.out.off hO)
          have hn0 : 0 < n0 := by
            rcases Nat.eq_zero_or_pos n0 with h | h
            · have h1 := (List.getElem?_eq_some_iff.1 hs0).1
              rw [← HN.out] at h1; exact h1
            · exact h
          have hnn : ¬ (n0 : Int) < (n0 : Int) := by omega
          have HOz := Lib.hid (Off.refl (fun _ => False) wr)
          clear hr hO hM hsub hs0 z0 hm hp5m hr3 hth hlt hk
          by_cases hw : (m : Int) < th
          · have q1 : decide ((m : Int) < th) = true := decide_eq_true hw
            obtain rfl : r = 16 := by rw [hwant, if_pos hw]
            clear hwant
            go_wp2_with fail
            refine (FAL.out _ HTr.out).mono ?_
            rintro e u6 ⟨rfl, hO⟩
            have HO6 := Lib.hid hO
            clear hO
            go_wp2_with fail
            refine (FC.out _ HO6.out (HTr.out.off HO6.out)).mono ?_
            rintro e u7 ⟨rfl, hO⟩
            have HO7 := Lib.hid (HO.out.trans (HO6.out.trans hO (fun _ _ c => c)) (fun _ _ c => c))
            clear hO
            go_wp2
            go_ret
            exact ⟨rfl, HO7.out⟩
          · have q1 : decide ((m : Int) < th) = false := decide_eq_false hw
            obtain rfl : r = 0 := by rw [hwant, if_neg hw]
            clear hwant
            go_wp2_with fail
            refine (FAL.out _ HTr.out).mono ?_
            rintro e u6 ⟨rfl, hO⟩
            have HO6 := Lib.hid hO
            clear hO
            go_wp2_with fail
            refine (FC.out _ HO6.out (HTr.out.off HO6.out)).mono ?_
            rintro e u7 ⟨rfl, hO⟩
            have HO7 := Lib.hid (HO.out.trans (HO6.out.trans hO (fun _ _ c => c)) (fun _ _ c => c))
            clear hO
            go_wp2
            go_ret
            exact ⟨rfl, HO7.out⟩

theorem door_met (os : Os) (args : Array Value) : laidMetH Tryd.prog [("sharecore/field.fields", Rows.laid_sharecore_field_fields)] ((World.doorLaid Tryd.prog 400 os).forCall (fun _ _ => 0) ⟨#[], args, []⟩).memory :=
  laidMetH_of_parts3 (fuel := 8) (laidMet_of_run' 8 (by kernel_rfl) (by kernel_rfl)) (by kernel_rfl) (by kernel_rfl)

set_option maxRecDepth 100000 in
theorem lifted (os : Os) (started : os.Started) (H : Type) (enc : TypeId × Value → H) :
    ReturnsInHanded {} Tryd.checked os 8 .any (fun w args => (Rows.paramsSubsetsSpec.pre enc Tryd.prog Tryd.f8 [] false w args ∧ laidMetH Tryd.prog [("sharecore/field.fields", Rows.laid_sharecore_field_fields)] w) ∧ sizedMet enc Tryd.prog Tryd.f8 (OpenSpec.ofChange Rows.paramsSubsetsSpec) false w args)
      (Rows.paramsSubsetsSpec.post enc Tryd.prog Tryd.f8 false true false false) := by
  refine returnsInHanded_of_change_and (C := Tryd.checked) (X := fun w _ => laidMetH Tryd.prog [("sharecore/field.fields", Rows.laid_sharecore_field_fields)] w) (fun _ _ _ hh h => h.of_heap hh) own started (by kernel_rfl) Tryd.func8
    (ChangeSpec.witness_shaped (enc := enc) (C := Tryd.checked) (os := os) (X := fun w _ => laidMetH Tryd.prog [("sharecore/field.fields", Rows.laid_sharecore_field_fields)] w) false (World.doorLaid Tryd.prog 400 os) #[.slice none 0 0, .int .u32 0] 8 rfl (World.shaped_of_RefB (by kernel_rfl) (by kernel_rfl)) (by kernel_rfl) (by kernel_rfl) (by kernel_rfl) (door_met os _)) ?_
  intro W base args ds gs before hval0 hW _ hsz hL _
  have hval : ∀ (j : Nat) t v, Tryd.f8.params[j]? = some t → args[j]? = some v → Value.okWide Tryd.prog W .any base t v := hval0
  have hW' := hW
  obtain ⟨p, q, hA0, hV, rfl, hfz, hnd⟩ := hW
  have hA : DataW.TrodAll enc Tryd.prog W 0 (fun _ => true) true Tryd.f8.params.toList args.toList ds p := hA0
  rw [Tryd.params8] at hA hval
  obtain ⟨v0, vs0, d0, ds0, p0, q0, hargs, rfl, rfl, h0, r0⟩ := trodAll_cons hA
  obtain ⟨v1, vs1, d1, ds1, p1, q1, rfl, rfl, rfl, h1, r1⟩ := trodAll_cons r0
  obtain ⟨rfl, rfl, rfl⟩ := trodAll_nil r1
  obtain rfl : args = #[v0, v1] := by cases args; simp_all
  obtain ⟨rfl, rfl⟩ := trodVars_none hV
  obtain ⟨a0, n0, cap0, rfl⟩ := okWide_slice Tryd.underlying33 (hval 0 33 v0 rfl rfl)
  have k0 := h0
  have lt0 : ∀ x ∈ p0, x.block < W.heap.size := by obtain ⟨m, hm⟩ := k0; exact DataW.trod_lt m _ _ _ hm
  obtain ⟨l0, hn0, w0⟩ : ∃ l, n0 = l.length ∧ ShsAt W (.slice a0 n0 cap0) l (fun k => k < W.heap.size) := by
    obtain ⟨fuel, hf⟩ := h0
    exact shares_of_trod hf
  obtain ⟨i1, rfl, rfl, rfl, w1⟩ := open_int Tryd.underlying51 (hval 1 51 v1 rfl rfl) h1
  have hT := tab_of_laid hL
  clear hA0 hval0
  refine (walk a0 n0 cap0 l0 i1 W hn0 w0 w1 hT).mono fun e W' ⟨he, hoff⟩ => ?_
  have bel : Below W.heap.size W W' := hoff.below (Nat.le_refl _) (fun _ _ c => c)
  subst he
  exact ⟨_, rfl, _, _, _, [], _, [], hW', trodAll_mk1 (shut_bool Tryd.underlying4 _), (trodAll_cons_mk (Below.trod laidOut (by kernel_rfl) (of_decide_eq_true (by kernel_rfl)) k0 bel lt0) (trodAll_cons_mk (shut_int Tryd.underlying51 w1) trodAll_mk0)), rfl, bel.frame _, fun h => by cases h⟩

theorem over : Rows.paramsSubsetsRow.holds Tryd.pinned (OpenSpec.ofChange Rows.paramsSubsetsSpec) :=
  OpenClaim.holds_of_wide 8 Tryd.f8 rfl rfl rfl rfl rfl rfl rfl ⟨rfl, rfl, rfl, rfl, rfl⟩ rfl rfl rfl rfl rfl (by kernel_rfl) Tryd.func8 (by kernel_rfl)
    (of_decide_eq_true (by kernel_rfl)) (by unfold Func.isWrapper; first | (rw [if_pos (by decide +kernel)]; kernel_rfl) | (rw [if_neg (by decide +kernel)]; exact ⟨rfl, rfl⟩))
    (fun os started H enc _ => lifted os started H enc)

theorem proved : Rows.ParamsSubsetsCardSaid :=
  Claim7.holds_tied_plain_at .later [] [.data] true (true, "ea8bdea48650b0fa9e78c562e70f8a09a96d303cc992c6aef33c8898e21f7be9") false
    over (fun _ h => by cases h) (by kernel_rfl) (fun _ h => by cases h) paramsSubsets_row_tie rfl ⟨rfl, rfl⟩ (by kernel_rfl) rfl
    (fun f fn hf hfn => by
      obtain rfl : f = 8 := Option.some.inj ((show Tryd.prog.funcNamed "sharecore/sharecorelaw15.ParamsSubsets" = some 8 by kernel_rfl).symm.trans hf) |>.symm
      obtain rfl : fn = Tryd.f8 := (Option.some.inj (Tryd.func8.symm.trans hfn)).symm
      exact ⟨by kernel_rfl, fun j t ht => by
        rw [Tryd.params8] at ht
        have hm : t ∈ [33, 51] := by simpa using Array.mem_of_getElem? ht
        have hall : ([33, 51].all fun u => !Tryd.prog.wantsStandIn u) = true := by kernel_rfl
        exact (show Tryd.prog.wantsStandIn t = false by simpa using List.all_eq_true.1 hall t hm)⟩)
    (by kernel_rfl)
#print axioms proved
end Go.Proofs.YtmokaikofcbboaaDoor.paramsSubsets
