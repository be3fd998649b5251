/-
  For all bytes and every two places, the examples of the chapter hold, and the sum of the bytes written in three parts is the sum of the reference, and Len is their number: the statement of P12.2 and P12.3. No condition but the row's own (the tables of the constants and of the first state lie in memory as the program's text lays them).
-/
import Derived.Test.YthjfhgnmaepafaaDoorRows
import Derived.Test.YthjfhgnmaepafaaDoorTie
import Derived.Test.YthjfhgnmaepafaaDoorCards
import Derived.LaidMore
import Derived.LaidHandle
import Derived.SevenTiedAt
import Derived.Stop.Joined
import Derived.JoinedOf
import Derived.Test.YthjfhgnmaepafaaDoorBytOpen
import Derived.Test.YthjfhgnmaepafaaDoorShaTabs
import Derived.Test.YthjfhgnmaepafaaDoorShaAlive
import Derived.Test.YthjfhgnmaepafaaDoorShaPart
import Derived.WalkKit
import Derived.ProofKit
import Derived.OpenShut
import Derived.ShutString
import Derived.ChangeOld
import Derived.Below
namespace Go.Proofs.YthjfhgnmaepafaaDoor.shaParts
open Go.ChangeShapes Go.WideShapes Go.ChangeAt Go.RowKit
set_option linter.unusedVariables false

theorem own : ownKnob Tryd.prog.godebug = none := by kernel_rfl
theorem laidOut : laidOutB Tryd.prog = true := by kernel_rfl

set_option linter.unusedSimpArgs false
set_option maxRecDepth 100000 in
set_option maxHeartbeats 4000000 in
theorem walk (a0 : Option Addr) (n0 cap0 : Nat) (bs0 : List Nat) (i1 : Int) (i2 : Int) (w : World) (hn0 : n0 = bs0.length) (hc0 : n0 ≤ cap0) (hs0 : Small bs0) (w0 : BsAt w a0 bs0 (fun k => k < w.heap.size)) (w1 : (Lit.int .u16 i1).wf = true) (w2 : (Lit.int .u16 i2).wf = true) (hT : TabAt w) :
    Calls Tryd.prog 4 #[.slice a0 n0 cap0, .int .u16 i1, .int .u16 i2] w fun e w' => e = .returned (.bool true) ∧ Off (fun _ => False) w w' := by
  have FAL := Lib.hid (fun W (h : Off (fun _ => False) w W) => alive_any W (hT.off h))
  by_cases hbig : 2000 < n0
  · have i1 : (2000 : Int) < (n0 : Int) := by omega
    have i2 : decide ((2000 : Int) < (n0 : Int)) = true := by simp; omega
    clear hn0 hc0 hs0 w0 w1 w2 hT hbig
    go_enter Tryd.func4, Tryd.ntmps4
    go_wp2_with fail
    refine (FAL.out _ (Off.refl _ w)).mono ?_
    rintro e u0 ⟨rfl, hO⟩
    have HO := Lib.hid hO
    clear hO FAL
    go_wp2_with fail
    go_ret
    exact ⟨rfl, HO.out⟩
  · have j1 : ¬ ((2000 : Int) < (n0 : Int)) := by omega
    have j2 : decide ((2000 : Int) < (n0 : Int)) = false := by simp; omega
    obtain ⟨I, rfl⟩ : ∃ I : Nat, i1 = (I : Int) := Int.eq_ofNat_of_zero_le (bounds_u16 w1).1
    obtain ⟨K, rfl⟩ : ∃ K : Nat, i2 = (K : Int) := Int.eq_ofNat_of_zero_le (bounds_u16 w2).1
    have hI : I ≤ 65535 := by have := (bounds_u16 w1).2; omega
    have hK : K ≤ 65535 := by have := (bounds_u16 w2).2; omega
    have FS0 := Lib.hid (fun W (h : Off (fun _ => False) w W) => sum_any a0 n0 cap0 bs0 (fun _ => True) W ((w0.off h (fun _ _ _ c => c)).mono (fun _ _ _ => trivial)) hn0 hc0 hs0 (by omega) (hT.off h))
    have FR0 := Lib.hid (fun W (h : Off (fun _ => False) w W) => refsum_any a0 n0 cap0 bs0 (fun _ => True) W ((w0.off h (fun _ _ _ c => c)).mono (fun _ _ _ => trivial)) hn0 hs0 (by omega))
    have FNW := Lib.hid (new_any w hT)
    obtain ⟨m1, hm1⟩ : ∃ m, m = n0 + 1 := ⟨_, rfl⟩
    obtain ⟨x, hx⟩ : ∃ x, x = I % m1 := ⟨_, rfl⟩
    have hxm : x < m1 := hx ▸ Nat.mod_lt _ (by omega)
    have hxn : x ≤ n0 := by omega
    obtain ⟨d, hd⟩ : ∃ d, d = n0 - x := ⟨_, rfl⟩
    obtain ⟨m2, hm2⟩ : ∃ m, m = d + 1 := ⟨_, rfl⟩
    obtain ⟨r2, hr2⟩ : ∃ r, r = K % m2 := ⟨_, rfl⟩
    have hrm : r2 < m2 := hr2 ▸ Nat.mod_lt _ (by omega)
    obtain ⟨y, hy⟩ : ∃ y, y = x + r2 := ⟨_, rfl⟩
    have hxy : x ≤ y := by omega
    have hyn : y ≤ n0 := by omega
    have c1 : IntKind.i64.wrap (I : Int) = (I : Int) := by rw [IntKind.wrap_i64]; omega
    have c2 : IntKind.i64.wrap (K : Int) = (K : Int) := by rw [IntKind.wrap_i64]; omega
    have c3 : IntKind.i64.wrap ((n0 : Int) + 1) = (m1 : Int) := by rw [IntKind.wrap_i64]; omega
    have c4 : (I : Int) % (m1 : Int) = (x : Int) := by rw [hx]; simp
    have c4' : (I : Int).tmod (m1 : Int) = (x : Int) := by rw [Int.tmod_eq_emod_of_nonneg (by omega)]; exact c4
    have c5 : IntKind.i64.wrap ((n0 : Int) - (x : Int)) = (d : Int) := by rw [IntKind.wrap_i64]; omega
    have c6 : IntKind.i64.wrap ((d : Int) + 1) = (m2 : Int) := by rw [IntKind.wrap_i64]; omega
    have c7 : (K : Int) % (m2 : Int) = (r2 : Int) := by rw [hr2]; simp
    have c7' : (K : Int).tmod (m2 : Int) = (r2 : Int) := by rw [Int.tmod_eq_emod_of_nonneg (by omega)]; exact c7
    have c8 : IntKind.i64.wrap ((x : Int) + (r2 : Int)) = (y : Int) := by rw [IntKind.wrap_i64]; omega
    have z1 : ¬ ((m1 : Int) = 0) := by omega
    have z2 : ¬ ((m2 : Int) = 0) := by omega
    have z3 : ((m1 : Int) == 0) = false := by simp; omega
    have z4 : ((m2 : Int) == 0) = false := by simp; omega
    obtain ⟨a1, hsl1, hb1⟩ := part_h a0 n0 cap0 x bs0 hn0 hxn hc0
    obtain ⟨a2, hsl2, hb2⟩ := part_lh a0 n0 cap0 x y bs0 hn0 hxy hyn hc0
    obtain ⟨a3, hsl3, hb3⟩ := part_l a0 n0 cap0 y bs0 hn0 hyn hc0
    have hbb : ((bs0.take x ++ (bs0.drop x).take (y - x)) ++ bs0.drop y) = bs0 := by
      rw [← List.take_add, Nat.add_sub_cancel' hxy, List.take_append_drop]
    obtain ⟨A, hA⟩ : ∃ A, A = ((shaN bs0).map u8v).toArray := ⟨_, rfl⟩
    rw [← hA] at FR0
    have heq : ∀ W, (Op.equalIn 10000 25 (.agg A) (.agg A)).run Tryd.prog W = .ok true W := fun W => by
      rw [hA, equalIn_32 _ _ (shaN_length _) (shaN_length _)]; simp
    have HA := Lib.hid hA
    have HN := Lib.hid hn0
    have HC := Lib.hid hc0
    have HSm := Lib.hid hs0
    have HW := Lib.hid w0
    have HT := Lib.hid hT
    have HB1 := Lib.hid hb1
    have HB2 := Lib.hid hb2
    have HB3 := Lib.hid hb3
    have HBB := Lib.hid hbb
    have HXY := Lib.hid hxy
    have HXN := Lib.hid hxn
    have HYN := Lib.hid hyn
    have HBG := Lib.hid hbig
    have k1 : (x : Int) ≤ (cap0 : Int) := by omega
    have k2 : (0 : Int) ≤ (x : Int) := by omega
    have k3 : (x : Int) ≤ (y : Int) := by omega
    have k4 : (y : Int) ≤ (cap0 : Int) := by omega
    have k5 : (y : Int) ≤ (n0 : Int) := by omega
    clear FS0 hA hn0 hc0 hs0 w0 w1 w2 hT hb1 hb2 hb3 hbb hxy hxn hyn hbig hm1 hx hxm hd hm2 hr2 hrm hy hI hK
    go_enter Tryd.func4, Tryd.ntmps4
    go_wp2_with fail
    refine (FNW.out).mono ?_
    rintro e u0 ⟨p, rfl, hh, ho, hp⟩
    have HH0 := Lib.hid hh
    have HO0 := Lib.hid ho
    have HT0 := Lib.hid (HT.out.off ho)
    have HNT := Lib.hid (NoTab.new HT.out (Nat.le_of_eq hp.symm))
    have HPW := Lib.hid hp
    clear hh ho hp FNW
    go_wp2_with fail
    refine (write_any p ([]) (bs0.take x) a1 (x) (cap0) (fun k => k < w.heap.size) u0 HH0.out (HB1.out _ _ (HW.out.off HO0.out (fun _ _ _ c => c))) (by have := HPW.out; omega) (by rw [List.length_take]; have := HN.out; have := HXN.out; omega) (by have := HXN.out; have := HC.out; omega) (HSm.out.take x) (by have := HXN.out; have := HBG.out; simp; omega) HT0.out HNT.out).mono ?_
    rintro e u1 ⟨rfl, hh, ho⟩
    have HH1 := Lib.hid hh
    have HS1 := Lib.hid ho
    have HT1 := Lib.hid (HT0.out.offp HNT.out ho)
    have HO1 := Lib.hid (show Off (fun _ => False) w u1 from HO0.out.trans ho (fun k hk e => by have := HPW.out; omega))
    clear hh ho
    go_wp2_with fail
    refine (write_any p ([] ++ bs0.take x) ((bs0.drop x).take (y - x)) a2 (y - x) (cap0 - x) (fun k => k < w.heap.size) u1 HH1.out (HB2.out _ _ (HW.out.off HO1.out (fun _ _ _ c => c))) (by have := HPW.out; omega) (by rw [List.length_take, List.length_drop]; have := HN.out; have := HYN.out; omega) (by have := HYN.out; have := HC.out; omega) ((HSm.out.drop x).take _) (by have := HXN.out; have := HYN.out; have := HBG.out; have := HN.out; simp; omega) HT1.out HNT.out).mono ?_
    rintro e u2 ⟨rfl, hh, ho⟩
    have HH2 := Lib.hid hh
    have HS2 := Lib.hid ho
    have HT2 := Lib.hid (HT1.out.offp HNT.out ho)
    have HO2 := Lib.hid (show Off (fun _ => False) w u2 from HO1.out.trans ho (fun k hk e => by have := HPW.out; omega))
    clear hh ho
    go_wp2_with fail
    refine (write_any p (([] ++ bs0.take x) ++ (bs0.drop x).take (y - x)) (bs0.drop y) a3 (n0 - y) (cap0 - y) (fun k => k < w.heap.size) u2 HH2.out (HB3.out _ _ (HW.out.off HO2.out (fun _ _ _ c => c))) (by have := HPW.out; omega) (by rw [List.length_drop, HN.out]) (by have := HYN.out; have := HC.out; omega) (HSm.out.drop y) (by have := HXN.out; have := HYN.out; have := HBG.out; have := HN.out; simp; omega) HT2.out HNT.out).mono ?_
    rintro e u3 ⟨rfl, hh, ho⟩
    have HH3 := Lib.hid hh
    have HS3 := Lib.hid ho
    have HT3 := Lib.hid (HT2.out.offp HNT.out ho)
    have HO3 := Lib.hid (show Off (fun _ => False) w u3 from HO2.out.trans ho (fun k hk e => by have := HPW.out; omega))
    rw [List.nil_append, HBB.out] at hh
    have HHf := Lib.hid hh
    clear hh ho
    go_wp2_with fail
    refine (FAL.out _ HO3.out).mono ?_
    rintro e u4 ⟨rfl, ho⟩
    have HO4 := Lib.hid (HO3.out.trans ho (fun _ _ c => c))
    have HT4 := Lib.hid (HT3.out.off ho)
    have HH4 := Lib.hid (HHf.out.off ho (fun c => c))
    clear ho
    go_wp2_with fail
    refine (hsum_any p bs0 u4 HH4.out (by have := HBG.out; have := HN.out; omega) HT4.out).mono ?_
    rw [← HA.out]
    rintro e u5 ⟨rfl, ho⟩
    have HO5 := Lib.hid (HO4.out.trans ho (fun _ _ c => c))
    have HH5 := Lib.hid (HH4.out.off ho (fun c => c))
    clear ho
    go_wp2_with fail
    refine (FR0.out _ HO5.out).mono ?_
    rintro e u6 ⟨rfl, ho⟩
    have HO6 := Lib.hid (HO5.out.trans ho (fun _ _ c => c))
    have HH6 := Lib.hid (HH5.out.off ho (fun c => c))
    clear ho
    go_wp2_with fail
    refine (len_any p bs0 u6 HH6.out).mono ?_
    rw [← HN.out]
    rintro e u7 ⟨rfl, rfl⟩
    go_wp2_with fail
    go_ret
    exact ⟨rfl, HO6.out⟩

theorem door_met (os : Os) (args : Array Value) : laidMetH Tryd.prog [("sharecore/sha.constants", Rows.laid_sharecore_sha_constants), ("sharecore/sha.initial", Rows.laid_sharecore_sha_initial)] ((World.doorLaid Tryd.prog 400 os).forCall (fun _ _ => 0) ⟨#[], args, []⟩).memory :=
  laidMetH_of_parts3 (fuel := 8) (laidMet_of_run' 8 (by kernel_rfl) (by kernel_rfl)) (by kernel_rfl) (by kernel_rfl)

set_option maxRecDepth 100000 in
theorem lifted (os : Os) (started : os.Started) (H : Type) (enc : TypeId × Value → H) :
    ReturnsInHanded {} Tryd.checked os 4 .any (fun w args => (Rows.shaPartsSpec.pre enc Tryd.prog Tryd.f4 [] false w args ∧ laidMetH Tryd.prog [("sharecore/sha.constants", Rows.laid_sharecore_sha_constants), ("sharecore/sha.initial", Rows.laid_sharecore_sha_initial)] w) ∧ sizedMet enc Tryd.prog Tryd.f4 (OpenSpec.ofChange Rows.shaPartsSpec) false w args)
      (Rows.shaPartsSpec.post enc Tryd.prog Tryd.f4 false true false false) := by
  refine returnsInHanded_of_change_and (C := Tryd.checked) (X := fun w _ => laidMetH Tryd.prog [("sharecore/sha.constants", Rows.laid_sharecore_sha_constants), ("sharecore/sha.initial", Rows.laid_sharecore_sha_initial)] w) (fun _ _ _ hh h => h.of_heap hh) own started (by kernel_rfl) Tryd.func4
    (ChangeSpec.witness_shaped (enc := enc) (C := Tryd.checked) (os := os) (X := fun w _ => laidMetH Tryd.prog [("sharecore/sha.constants", Rows.laid_sharecore_sha_constants), ("sharecore/sha.initial", Rows.laid_sharecore_sha_initial)] w) false (World.doorLaid Tryd.prog 400 os) #[.slice none 0 0, .int .u16 0, .int .u16 0] 8 rfl (World.shaped_of_RefB (by kernel_rfl) (by kernel_rfl)) (by kernel_rfl) (by kernel_rfl) (by kernel_rfl) (door_met os _)) ?_
  intro W base args ds gs before hval0 hW _ _ hL _
  have hval : ∀ (j : Nat) t v, Tryd.f4.params[j]? = some t → args[j]? = some v → Value.okWide Tryd.prog W .any base t v := hval0
  have hW' := hW
  obtain ⟨p, q, hA0, hV, rfl, hfz, hnd⟩ := hW
  have hA : DataW.TrodAll enc Tryd.prog W 0 (fun _ => true) true Tryd.f4.params.toList args.toList ds p := hA0
  rw [Tryd.params4] at hA hval
  obtain ⟨v0, vs0, d0, ds0, p0, q0, hargs, rfl, rfl, h0, r0⟩ := trodAll_cons hA
  obtain ⟨v1, vs1, d1, ds1, p1, q1, rfl, rfl, rfl, h1, r1⟩ := trodAll_cons r0
  obtain ⟨v2, vs2, d2, ds2, p2, q2, rfl, rfl, rfl, h2, r2⟩ := trodAll_cons r1
  obtain ⟨rfl, rfl, rfl⟩ := trodAll_nil r2
  obtain rfl : args = #[v0, v1, v2] := by cases args; simp_all
  obtain ⟨rfl, rfl⟩ := trodVars_none hV
  obtain ⟨a0, n0, cap0, rfl⟩ := okWide_slice Tryd.underlying22 (hval 0 22 v0 rfl rfl)
  have k0 := h0
  have lt0 : ∀ x ∈ p0, x.block < W.heap.size := by obtain ⟨m, hm⟩ := k0; exact DataW.trod_lt m _ _ _ hm
  obtain ⟨bs0, hn0, hc0, hs0, w0⟩ : ∃ bs, n0 = bs.length ∧ n0 ≤ cap0 ∧ Small bs ∧ BsAt W a0 bs (fun k => k < W.heap.size) := by
    obtain ⟨fuel, hf⟩ := h0
    exact bytes_of_trod hf
  obtain ⟨i1, rfl, rfl, rfl, w1⟩ := open_int Tryd.underlying29 (hval 1 29 v1 rfl rfl) h1
  obtain ⟨i2, rfl, rfl, rfl, w2⟩ := open_int Tryd.underlying29 (hval 2 29 v2 rfl rfl) h2
  have hT := tab_of_laid hL
  clear hA0 hval0
  refine (walk a0 n0 cap0 bs0 i1 i2 W hn0 hc0 hs0 w0 w1 w2 hT).mono fun e W' ⟨he, hoff⟩ => ?_
  have bel : Below W.heap.size W W' := hoff.below (Nat.le_refl _) (fun _ _ c => c)
  subst he
  exact ⟨_, rfl, _, _, _, [], _, [], hW', trodAll_mk1 (shut_bool Tryd.underlying4 _), (trodAll_cons_mk (Below.trod laidOut (by kernel_rfl) (of_decide_eq_true (by kernel_rfl)) k0 bel lt0) (trodAll_cons_mk (shut_int Tryd.underlying29 w1) (trodAll_cons_mk (shut_int Tryd.underlying29 w2) trodAll_mk0))), rfl, bel.frame _, fun h => by cases h⟩

theorem over : Rows.shaPartsRow.holds Tryd.pinned (OpenSpec.ofChange Rows.shaPartsSpec) :=
  OpenClaim.holds_of_wide 4 Tryd.f4 rfl rfl rfl rfl rfl rfl rfl ⟨rfl, rfl, rfl, rfl, rfl⟩ rfl rfl rfl rfl rfl (by kernel_rfl) Tryd.func4 (by kernel_rfl)
    (of_decide_eq_true (by kernel_rfl)) (by unfold Func.isWrapper; first | (rw [if_pos (by decide +kernel)]; kernel_rfl) | (rw [if_neg (by decide +kernel)]; exact ⟨rfl, rfl⟩))
    (fun os started H enc _ => lifted os started H enc)

theorem proved : Rows.ShaPartsCardSaid :=
  Claim7.holds_tied_plain_at .later [] [.data, .data] true (true, "cea195b8e4b1cc889c1d1eca119c860888cfb8d83522847ae16b7d8c1e6b5c42") false
    over (fun _ h => by cases h) (by kernel_rfl) (fun _ h => by cases h) shaParts_row_tie rfl ⟨rfl, rfl⟩ (by kernel_rfl) rfl
    (fun f fn hf hfn => by
      obtain rfl : f = 4 := Option.some.inj ((show Tryd.prog.funcNamed "sharecore/sharecorelaw12.ShaParts" = some 4 by kernel_rfl).symm.trans hf) |>.symm
      obtain rfl : fn = Tryd.f4 := (Option.some.inj (Tryd.func4.symm.trans hfn)).symm
      exact ⟨by kernel_rfl, fun j t ht => by
        rw [Tryd.params4] at ht
        have hm : t ∈ [22, 29] := by simpa using Array.mem_of_getElem? ht
        have hall : ([22, 29].all fun u => !Tryd.prog.wantsStandIn u) = true := by kernel_rfl
        exact (show Tryd.prog.wantsStandIn t = false by simpa using List.all_eq_true.1 hall t hm)⟩)
    (by kernel_rfl)
#print axioms proved
end Go.Proofs.YthjfhgnmaepafaaDoor.shaParts
