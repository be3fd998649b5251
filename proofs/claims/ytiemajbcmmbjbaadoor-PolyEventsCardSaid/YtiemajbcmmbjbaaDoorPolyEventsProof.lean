/-
  For every field and two polynomials, the examples of the chapter hold, and the events are those of the reference for the numbers of elements: the statement of P8.4. No condition.
-/
import Derived.Test.YtiemajbcmmbjbaaDoorRows
import Derived.Test.YtiemajbcmmbjbaaDoorTie
import Derived.Test.YtiemajbcmmbjbaaDoorCards
import Derived.LaidMore
import Derived.LaidHandle
import Derived.SevenTiedAt
import Derived.Stop.Joined
import Derived.JoinedOf
import Derived.Test.YtiemajbcmmbjbaaDoorLimbWords
import Derived.Test.YtiemajbcmmbjbaaDoorVecOpen
import Derived.Test.YtiemajbcmmbjbaaDoorFieldTab
import Derived.Test.YtiemajbcmmbjbaaDoorFieldHeld
import Derived.Test.YtiemajbcmmbjbaaDoorPolAlive
import Derived.Test.YtiemajbcmmbjbaaDoorPolEv
import Derived.Test.YtiemajbcmmbjbaaDoorTapeMore
import Derived.WalkKit
import Derived.ProofKit
import Derived.OpenShut
import Derived.ShutString
import Derived.ChangeOld
import Derived.Below
namespace Go.Proofs.YtiemajbcmmbjbaaDoor.polyEvents
open Go.ChangeShapes Go.WideShapes Go.ChangeAt Go.RowKit
set_option linter.unusedVariables false

theorem own : ownKnob Tryd.prog.godebug = none := by kernel_rfl
theorem laidOut : laidOutB Tryd.prog = true := by kernel_rfl

theorem fld_odd {id : Int} {p i r s : Nat} (hF : Fld id p i r s) : p % 2 = 1 := by
  rcases modN_of hF.mp.one hF.mod with ⟨_, h⟩ | ⟨_, h⟩ <;> rw [h] <;> decide +kernel
theorem mods_lt {p : Nat} (h : 0 < p) (xs : List Nat) : ∀ v ∈ xs.map (· % p), v < p := by
  intro v hv
  obtain ⟨x, _, rfl⟩ := List.mem_map.1 hv
  exact Nat.mod_lt _ h
set_option maxRecDepth 100000 in
set_option maxHeartbeats 4000000 in
theorem walk (i0 : Bool) (a1 : Option Addr) (n1 cap1 : Nat) (xs1 : List Nat) (a2 : Option Addr) (n2 cap2 : Nat) (xs2 : List Nat) (w : World) (w0 : True) (hn1 : n1 = xs1.length) (w1 : VsAt w (.slice a1 n1 cap1) xs1 (fun k => k < w.heap.size)) (hn2 : n2 = xs2.length) (w2 : VsAt w (.slice a2 n2 cap2) xs2 (fun k => k < w.heap.size)) (hT : TabAt w) :
    Calls Tryd.prog 7 #[.bool i0, .slice a1 n1 cap1, .slice a2 n2 cap2] w fun e w' => e = .returned (.bool true) ∧ Off (fun _ => False) w w' := by
  obtain ⟨id, p, i, r, s, hF, hid⟩ := fld_of i0
  have hp := hF.mp.lt
  have h1 := hF.mp.one
  have hp0 : 0 < p := by omega
  have FG := Lib.hid (fun W hT => get8_any i0 hF hid W hT)
  have FAL : Hid (∀ W, TabAt W → Calls Tryd.prog 9 #[] W fun e w' => e = .returned (.bool true) ∧ Off (fun _ => False) W w') := Lib.hid (fun W hT => alive8_any W hT)
  obtain ⟨hnl1, hnm1, hxs1⟩ := w1.len
  obtain ⟨hnl2, hnm2, hxs2⟩ := w2.len
  by_cases hbig : 12 < n1
  · have hbi : decide ((12 : Int) < (n1 : Int)) = true := by simp; omega
    have hbp : (12 : Int) < (n1 : Int) := by omega
    clear hn1 hnl1 hnm1 hxs1 hn2 hnl2 hnm2 hxs2 hF hid hp h1 hp0 FG hbig
    go_enter Tryd.func7, Tryd.ntmps7
    go_wp2_with fail
    refine (FAL.out _ (hT.off (Off.refl _ w))).mono ?_
    rintro e u0 ⟨rfl, hO⟩
    have HO := Lib.hid ((Off.refl _ w : Off (fun _ => False) w _).trans hO (fun _ _ c => c))
    clear hO
    go_wp2
    go_ret
    exact ⟨rfl, HO.out⟩
  · have hbi : decide ((12 : Int) < (n1 : Int)) = false := by simp; omega
    have hbp : ¬ (12 : Int) < (n1 : Int) := by omega
    by_cases hbig2 : 12 < n2
    · have hbi2 : decide ((12 : Int) < (n2 : Int)) = true := by simp; omega
      have hbp2 : (12 : Int) < (n2 : Int) := by omega
      clear hn1 hnl1 hnm1 hxs1 hn2 hnl2 hnm2 hxs2 hF hid hp h1 hp0 FG hbig hbig2
      go_enter Tryd.func7, Tryd.ntmps7
      go_wp2_with fail
      refine (FAL.out _ (hT.off (Off.refl _ w))).mono ?_
      rintro e u0 ⟨rfl, hO⟩
      have HO := Lib.hid ((Off.refl _ w : Off (fun _ => False) w _).trans hO (fun _ _ c => c))
      clear hO
      go_wp2
      go_ret
      exact ⟨rfl, HO.out⟩
    · have hbi2 : decide ((12 : Int) < (n2 : Int)) = false := by simp; omega
      have hbp2 : ¬ (12 : Int) < (n2 : Int) := by omega
      obtain ⟨vs, hvs⟩ : ∃ l, l = xs1.map (· % p) := ⟨_, rfl⟩
      have hvsl : vs.length = n1 := by rw [hvs, List.length_map]; exact hnl1.symm
      have hvsp : ∀ v ∈ vs, v < p := by rw [hvs]; exact mods_lt hp0 xs1
      have FV1 := Lib.hid (show ∀ W v, Ls W v xs1 → Calls Tryd.prog 11 #[V p, v] W fun e w' => ∃ z1 z2, e = .returned (.tuple #[z1, z2]) ∧ Ls w' z1 vs ∧ Ls w' z2 (vs.map (fm p)) ∧ Off (fun _ => False) W w' from fun W v h => by rw [hvs]; exact values_any hp h1 xs1 hxs1 (by omega) v W h)
      have HL1 := Lib.hid (ls_of_vs w1 (by omega))
      obtain ⟨us, hus⟩ : ∃ l, l = xs2.map (· % p) := ⟨_, rfl⟩
      have husl : us.length = n2 := by rw [hus, List.length_map]; exact hnl2.symm
      have husp : ∀ v ∈ us, v < p := by rw [hus]; exact mods_lt hp0 xs2
      have FV2 := Lib.hid (show ∀ W v, Ls W v xs2 → Calls Tryd.prog 11 #[V p, v] W fun e w' => ∃ z1 z2, e = .returned (.tuple #[z1, z2]) ∧ Ls w' z1 us ∧ Ls w' z2 (us.map (fm p)) ∧ Off (fun _ => False) W w' from fun W v h => by rw [hus]; exact values_any hp h1 xs2 hxs2 (by omega) v W h)
      have HL2 := Lib.hid (ls_of_vs w2 (by omega))
      have HF := Lib.hid hF
      have HVl := Lib.hid hvsl
      have HUl := Lib.hid husl
      have hn12 : n1 ≤ 12 := by omega
      have hm12 : n2 ≤ 12 := by omega
      have HTw := Lib.hid hT
      clear hvs hus hF hid hxs1 hnm1 hn1 hnl1 hvsl hvsp hxs2 hnm2 hn2 hnl2 husl husp hbig hbig2
      go_enter Tryd.func7, Tryd.ntmps7
      go_wp2_with fail
      refine (FG.out _ (hT.off (Off.refl _ w))).mono ?_
      rintro e u0 ⟨rfl, hO1⟩
      have hO0 : Off (fun _ => False) w u0 := (Off.refl _ w : Off (fun _ => False) w _).trans hO1 (fun _ _ c => c)
      obtain ⟨W1, hW1⟩ : ∃ W1, W1 = (u0.alloc (.cells #[.int .i64 id, .int .u64 (wd p 0 : Int), .int .u64 (wd p 1 : Int), .int .u64 (wd p 2 : Int), .int .u64 (wd p 3 : Int), .int .u64 (i : Int), .int .u64 (wd r 0 : Int), .int .u64 (wd r 1 : Int), .int .u64 (wd r 2 : Int), .int .u64 (wd r 3 : Int), .int .u64 (wd s 0 : Int), .int .u64 (wd s 1 : Int), .int .u64 (wd s 2 : Int), .int .u64 (wd s 3 : Int)] 28)).alloc (.cells #[.int .u64 (wd p 0 : Int), .int .u64 (wd p 1 : Int), .int .u64 (wd p 2 : Int), .int .u64 (wd p 3 : Int)] 24) := ⟨_, rfl⟩
      have o1 : Off (fun _ => False) u0 W1 := by rw [hW1]; exact ((Off.refl _ u0).alloc _).alloc _
      have g_F : W1.heap[u0.heap.size]? = some (.cells #[.int .i64 id, .int .u64 (wd p 0 : Int), .int .u64 (wd p 1 : Int), .int .u64 (wd p 2 : Int), .int .u64 (wd p 3 : Int), .int .u64 (i : Int), .int .u64 (wd r 0 : Int), .int .u64 (wd r 1 : Int), .int .u64 (wd r 2 : Int), .int .u64 (wd r 3 : Int), .int .u64 (wd s 0 : Int), .int .u64 (wd s 1 : Int), .int .u64 (wd s 2 : Int), .int .u64 (wd s 3 : Int)] 28 (0, 0)) := by rw [hW1]; exact heap_old' (heap_new' rfl _) _
      have g_P : W1.heap[u0.heap.size + 1]? = some (.cells #[.int .u64 (wd p 0 : Int), .int .u64 (wd p 1 : Int), .int .u64 (wd p 2 : Int), .int .u64 (wd p 3 : Int)] 24 (0, 0)) := by rw [hW1]; exact heap_new' (by simp) _
      obtain ⟨fb, hfb⟩ : ∃ fb, fb = u0.heap.size := ⟨_, rfl⟩
      obtain ⟨pb, hpb⟩ : ∃ pb, pb = u0.heap.size + 1 := ⟨_, rfl⟩
      rw [← hfb] at g_F
      rw [← hpb] at g_P
      have hOw := hO0.trans o1 (fun _ _ c => c)
      clear hO1 hO0 o1
      rw [hW1] at hOw g_F g_P
      go_wp2_with fail
      rw [← hW1] at hOw g_F g_P ⊢
      rw [← hpb, ← hfb]
      refine (FV1.out _ _ (HL1.out.off hOw)).mono ?_
      rintro e u1 ⟨z1, z2, rfl, h_z1, h_z2, hO1⟩
      have g_F := hO1.heap g_F (fun c => c)
      have g_P := hO1.heap g_P (fun c => c)
      have hOw := hOw.trans hO1 (fun _ _ c => c)
      clear hW1 hfb hpb
      obtain ⟨p0, p1, p2, p3⟩ := cells4 g_P
      have GF := Lib.hid g_F
      have GP := Lib.hid g_P
      have H_z1 := Lib.hid h_z1
      have H_z2 := Lib.hid h_z2
      have HOw := Lib.hid hOw
      clear g_F g_P h_z1 h_z2 hOw hO1
      go_wp2_with fail
      clear p0 p1 p2 p3
      refine (FV2.out _ _ (HL2.out.off HOw.out)).mono ?_
      rintro e u2 ⟨z3, z4, rfl, h_z3, h_z4, hO2⟩
      have g_F := hO2.heap GF.out (fun c => c)
      have g_P := hO2.heap GP.out (fun c => c)
      have h_z1 := H_z1.out.off hO2
      have h_z2 := H_z2.out.off hO2
      have hOw := HOw.out.trans hO2 (fun _ _ c => c)
      have HOw := Lib.hid hOw
      have HTW := Lib.hid (fun W (h : Off (fun _ => False) u2 W) => HTw.out.off (hOw.trans h (fun _ _ c => c)))
      clear hO2 hOw GF GP H_z1 H_z2
      obtain ⟨az, capz, hz2e, hzl⟩ := Ls.open h_z2
      obtain ⟨aw, capw, hz4e, hwl⟩ := Ls.open h_z4
      rw [List.length_map, HVl.out] at hz2e hzl
      rw [List.length_map, HUl.out] at hz4e hwl
      subst hz2e
      subst hz4e
      have GF := Lib.hid g_F
      have GP := Lib.hid g_P
      have HZ := Lib.hid (hzl.mono (fun _ _ c => c.1) : LsAt u2 (.slice az n1 capz) (vs.map (fm p)) (fun k => k < u2.heap.size))
      have HW := Lib.hid (hwl.mono (fun _ _ c => c.1) : LsAt u2 (.slice aw n2 capw) (us.map (fm p)) (fun k => k < u2.heap.size))
      have hNew := fun W => new_tp W
      clear g_F g_P h_z1 h_z2 h_z3 h_z4 hzl hwl
      go_wp2_with fail
      refine (new_tp _).mono ?_
      rintro e u3 ⟨rfl, hT3, hO3⟩
      have HT3 := Lib.hid hT3
      have HO3 := Lib.hid hO3
      clear hT3 hO3
      go_wp2_with fail
      refine (new_tp _).mono ?_
      rintro e u4 ⟨rfl, hT4, hO4⟩
      have h23 : u2.heap.size ≤ u3.heap.size := HO3.out.size
      have h34 : u3.heap.size < u4.heap.size := by
        rcases hT4.1 with ⟨e, _⟩ | ⟨b, e, ht⟩
        · cases e
        · have h := hT4.2 b (by obtain ⟨_, _, _, _, hs⟩ := ht.bh; exact hs)
          have e2 : u3.heap.size = b := by simpa using e
          omega
      have hC : PevC u2 u4 u3.heap.size u4.heap.size id p i r s fb az n1 capz vs aw n2 capw us (some ⟨u2.heap.size, 0, none⟩) (some ⟨u3.heap.size, 0, none⟩) [] [] := by
        have hO24 := HO3.out.trans hO4 (fun _ _ c => c)
        exact ⟨hO24.heap GF.out (fun c => c), heap_lt GF.out, HZ.out.off hO24 (fun _ _ _ c => c), HW.out.off hO24 (fun _ _ _ c => c), ⟨_, HT3.out.off0 hO4, fun k c => .inl c⟩, ⟨_, hT4, fun k c => c⟩, hO24, h23, Nat.le_refl _⟩
      have HN34 := Lib.hid h34
      have ext_some : ∀ (b : Nat) (l1 l2 : List Ev), ext (some ⟨b, 0, none⟩) l1 l2 = l1 ++ l2 := fun b l1 l2 => by simp [ext]
      have HC := Lib.hid hC
      clear hC hT4 hO4 HT3 HO3 h23 h34 GF GP HZ HW hNew
      obtain ⟨f0, f1, f2, f3, f4, f5, f6, f7, f8, f9, f10, f11, f12, f13⟩ := fv_cells HC.out.F
      go_wp2_with fail
      clear f0 f1 f2 f3 f4 f5 f6 f7 f8 f9 f10 f11 f12 f13
      refine (ev_eval HF.out HC.out (Nat.le_of_lt HN34.out) HVl.out.symm (by omega) (by simp)).mono ?_
      rintro e v5 ⟨⟨v, rfl⟩, hC⟩
      rw [ext_some] at hC
      clear HC
      have HC := Lib.hid hC
      clear hC
      obtain ⟨f0, f1, f2, f3, f4, f5, f6, f7, f8, f9, f10, f11, f12, f13⟩ := fv_cells HC.out.F
      go_wp2_with fail
      clear f0 f1 f2 f3 f4 f5 f6 f7 f8 f9 f10 f11 f12 f13
      refine (ev_quot HF.out HC.out (Nat.le_of_lt HN34.out) HVl.out.symm (by omega) (by simp [coefD_length]; omega)).mono ?_
      rintro e v6 ⟨⟨v, rfl⟩, hC⟩
      rw [ext_some] at hC
      clear HC
      have HC := Lib.hid hC
      clear hC
      obtain ⟨f0, f1, f2, f3, f4, f5, f6, f7, f8, f9, f10, f11, f12, f13⟩ := fv_cells HC.out.F
      go_wp2_with fail
      clear f0 f1 f2 f3 f4 f5 f6 f7 f8 f9 f10 f11 f12 f13
      refine (ev_scale HF.out HC.out (Nat.le_of_lt HN34.out) HVl.out.symm (by omega) (by simp [coefD_length]; omega)).mono ?_
      rintro e v7 ⟨⟨v, rfl⟩, hC⟩
      rw [ext_some] at hC
      clear HC
      have HC := Lib.hid hC
      clear hC
      obtain ⟨f0, f1, f2, f3, f4, f5, f6, f7, f8, f9, f10, f11, f12, f13⟩ := fv_cells HC.out.F
      go_wp2_with fail
      clear f0 f1 f2 f3 f4 f5 f6 f7 f8 f9 f10 f11 f12 f13
      refine (ev_add HF.out HC.out (Nat.le_of_lt HN34.out) HVl.out.symm HUl.out.symm (by omega) (by omega) (by simp [coefD_length, coefU_length]; omega)).mono ?_
      rintro e v8 ⟨⟨v, rfl⟩, hC⟩
      rw [ext_some] at hC
      clear HC
      have HC := Lib.hid hC
      clear hC
      obtain ⟨f0, f1, f2, f3, f4, f5, f6, f7, f8, f9, f10, f11, f12, f13⟩ := fv_cells HC.out.F
      go_wp2_with fail
      clear f0 f1 f2 f3 f4 f5 f6 f7 f8 f9 f10 f11 f12 f13
      refine (ev_mul HF.out HC.out HVl.out.symm HUl.out.symm (by omega) (by omega) (by simp)).mono ?_
      rintro e u9 ⟨⟨v, rfl⟩, ht1, ht2, hO9⟩
      rw [ext_some, List.nil_append] at ht2
      obtain ⟨L1, hL1⟩ : ∃ l, l = coefD n1 (List.range n1) ++ (coefD n1 (List.range n1) ++ (upE n1 ++ upE (max n1 n2))) := ⟨_, rfl⟩
      obtain ⟨T1, ht1⟩ := ht1
      rw [show [] ++ coefD n1 (List.range n1) ++ coefD n1 (List.range n1) ++ coefU n1 (List.range n1) ++ upE (max n1 n2) = L1 by rw [hL1, coefU_up]; simp] at ht1
      obtain ⟨T2, ht2⟩ := ht2
      obtain ⟨N, hN⟩ : ∃ N, N = max n1 n2 := ⟨_, rfl⟩
      have hmx : max (n1 : Int) (n2 : Int) = (N : Int) := by omega
      have hN12 : N ≤ 12 := by omega
      have HT1 := Lib.hid ht1
      have HT2 := Lib.hid ht2
      have HL1 := Lib.hid hL1
      have HNN := Lib.hid hN
      have HO9 := Lib.hid hO9
      clear ht1 ht2 hO9 hL1 hN HC HF
      go_wp2_with fail
      refine (down_any n1 (by omega) _).mono ?_
      rintro e a1w ⟨d1, rfl, hd1, hOd1⟩
      have HD1 := Lib.hid (evs_of_own hd1)
      have HA1 := Lib.hid hOd1
      clear hd1 hOd1
      go_wp2_with fail
      refine (up_any n1 (by omega) _).mono ?_
      rintro e a2w ⟨d2, rfl, hd2, hOd2⟩
      have he1 := HD1.out.off hOd2 (fun _ _ _ c => c)
      have he2 := evs_of_own hd2
      obtain ⟨x1, y1, hx1, _⟩ := he1
      obtain ⟨x2, y2, hx2, _⟩ := he2
      have k1 : (coefD n1 (List.range n1)).length = n1 := by rw [coefD_length, List.length_range]
      have k2 : (upE n1).length = n1 := upE_length n1
      rw [k1] at hx1
      rw [k2] at hx2
      subst hx1
      subst hx2
      have HE1 := Lib.hid (HD1.out.off hOd2 (fun _ _ _ c => c))
      have HE2 := Lib.hid (evs_of_own hd2)
      have hOa := HO9.out.trans (HA1.out.trans hOd2 (fun _ _ c => c)) (fun _ _ c => c)
      have HOa := Lib.hid hOa
      have HT1a := Lib.hid (HT1.out.off0 (HA1.out.trans hOd2 (fun _ _ c => c)))
      have HT2a := Lib.hid (HT2.out.off0 (HA1.out.trans hOd2 (fun _ _ c => c)))
      clear k1 k2 hd2 hOd2 hOa HD1 HA1 HT1 HT2 HO9
      go_wp2_with fail
      refine (FAL.out _ (HTW.out _ HOa.out)).mono ?_
      rintro e a3 ⟨rfl, hO⟩
      have HT1b := Lib.hid (HT1a.out.off0 hO)
      have HT2b := Lib.hid (HT2a.out.off0 hO)
      have HE1b := Lib.hid (HE1.out.off hO (fun _ _ _ c => c))
      have HE2b := Lib.hid (HE2.out.off hO (fun _ _ _ c => c))
      have HOb := Lib.hid (HOa.out.trans hO (fun _ _ c => c))
      clear hO HT1a HT2a HE1 HE2 HOa
      go_wp2_with fail
      refine (events_any _ _ _ _ HT1b.out.1 (by rw [HL1.out]; simp [coefD_length, upE_length]; omega)).mono ?_
      rintro e a4 ⟨g1, rfl, hg1, hO⟩
      have HG1 := Lib.hid hg1
      have HT2c := Lib.hid (HT2b.out.off0 hO)
      have HE1c := Lib.hid (HE1b.out.off hO (fun _ _ _ c => c))
      have HE2c := Lib.hid (HE2b.out.off hO (fun _ _ _ c => c))
      have HOc := Lib.hid (HOb.out.trans hO (fun _ _ c => c))
      clear hO hg1 HT1b HT2b HE1b HE2b HOb
      go_wp2_with fail
      refine (up_any N (by omega) _).mono ?_
      rintro e a5 ⟨d3, rfl, hd3, hO⟩
      have he3 := evs_of_own hd3
      obtain ⟨x3, y3, hx3, _⟩ := he3
      rw [upE_length] at hx3
      subst hx3
      have HE3 := Lib.hid (evs_of_own hd3)
      have HG1d := Lib.hid (HG1.out.off hO (fun _ _ _ c => c))
      have HT2d := Lib.hid (HT2c.out.off0 hO)
      have HE1d := Lib.hid (HE1c.out.off hO (fun _ _ _ c => c))
      have HE2d := Lib.hid (HE2c.out.off hO (fun _ _ _ c => c))
      have HOd := Lib.hid (HOc.out.trans hO (fun _ _ c => c))
      clear hO hd3 HG1 HT2c HE1c HE2c HOc
      go_wp2_with fail
      obtain ⟨a6, ha6⟩ : ∃ u, u = a5.alloc (.cells #[.slice x1 n1 y1, .slice x1 n1 y1, .slice x2 n1 y2, .slice x3 N y3] 49) := ⟨_, rfl⟩
      have hO6 : Off (fun _ => False) a5 a6 := by rw [ha6]; exact (Off.refl _ a5).alloc _
      have hB6 : a6.heap[a5.heap.size]? = some (.cells #[.slice x1 n1 y1, .slice x1 n1 y1, .slice x2 n1 y2, .slice x3 N y3] 49 (0, 0)) := by rw [ha6]; exact heap_new' rfl _
      rw [← ha6]
      have hcat := concat_list a5.heap.size 4 (fun j => if j = 0 then .slice x1 n1 y1 else if j = 1 then .slice x1 n1 y1 else if j = 2 then .slice x2 n1 y2 else .slice x3 N y3) (fun j => if j = 0 then coefD n1 (List.range n1) else if j = 1 then coefD n1 (List.range n1) else if j = 2 then upE n1 else upE N) (fun _ => True) a6 (by omega)
        (fun j hj => by
          have hj4 : j = 0 ∨ j = 1 ∨ j = 2 ∨ j = 3 := by omega
          rcases hj4 with rfl | rfl | rfl | rfl <;> exact cell_of_heap hB6 _)
        (fun j hj => by
          have hj4 : j = 0 ∨ j = 1 ∨ j = 2 ∨ j = 3 := by omega
          rcases hj4 with rfl | rfl | rfl | rfl
          · exact (HE1d.out.off hO6 (fun _ _ _ c => c)).mono (fun _ _ _ => trivial)
          · exact (HE1d.out.off hO6 (fun _ _ _ c => c)).mono (fun _ _ _ => trivial)
          · exact (HE2d.out.off hO6 (fun _ _ _ c => c)).mono (fun _ _ _ => trivial)
          · exact (HE3.out.off hO6 (fun _ _ _ c => c)).mono (fun _ _ _ => trivial))
        (by simp [totE, coefD_length, upE_length]; omega)
      rw [show catE (fun j => if j = 0 then coefD n1 (List.range n1) else if j = 1 then coefD n1 (List.range n1) else if j = 2 then upE n1 else upE N) 4 = L1 by rw [HL1.out, HNN.out]; simp [catE]] at hcat
      refine hcat.mono ?_
      rintro e a7 ⟨g2, rfl, hg2, hO⟩
      have hO57 := hO6.trans hO (fun _ _ c => c)
      have HG2 := Lib.hid (evs_of_own hg2)
      have HG1e := Lib.hid (HG1d.out.off hO57 (fun _ _ _ c => c))
      have HT2e := Lib.hid (HT2d.out.off0 hO57)
      have HOe := Lib.hid (HOd.out.trans hO57 (fun _ _ c => c))
      have hLL : L1.length ≤ 100 := by rw [HL1.out]; simp [coefD_length, upE_length]; omega
      clear hO hO6 hB6 ha6 hg2 hO57 hcat HE1d HE2d HE3 HG1d HT2d HOd
      go_wp2_with fail
      have hsm := same_any g1 g2 L1 L1 _ _ a7 HG1e.out HG2.out (by omega) (by omega)
      rw [decide_eq_true (rfl : L1 = L1)] at hsm
      refine hsm.mono ?_
      rintro e a8 ⟨rfl, hO⟩
      have HT2f := Lib.hid (HT2e.out.off0 hO)
      have HOf := Lib.hid (HOe.out.trans hO (fun _ _ c => c))
      clear hO hsm HG1e HG2 HT2e HOe
      go_wp2_with fail
      refine (events_any _ _ _ _ HT2f.out.1 (by rw [prE_length]; have := Nat.mul_le_mul hn12 hm12; omega)).mono ?_
      rintro e a9 ⟨g3, rfl, hg3, hO⟩
      have HG3 := Lib.hid hg3
      have HOg := Lib.hid (HOf.out.trans hO (fun _ _ c => c))
      clear hO hg3 HT2f HOf
      go_wp2_with fail
      refine (pairs_any n1 n2 (by omega) (by omega) _).mono ?_
      rintro e a10 ⟨g4, rfl, hg4, hO⟩
      have HG4 := Lib.hid (evs_of_own hg4)
      have HG3b := Lib.hid (HG3.out.off hO (fun _ _ _ c => c))
      have HOh := Lib.hid (HOg.out.trans hO (fun _ _ c => c))
      have hPL : (prE n2 n1).length ≤ 1000 := by rw [prE_length]; have := Nat.mul_le_mul hn12 hm12; omega
      clear hO hg4 HG3 HOg
      go_wp2_with fail
      have hsm := same_any g3 g4 (prE n2 n1) (prE n2 n1) _ _ a10 HG3b.out HG4.out (by omega) (by omega)
      rw [decide_eq_true (rfl : prE n2 n1 = prE n2 n1)] at hsm
      refine hsm.mono ?_
      rintro e a11 ⟨rfl, hO⟩
      have HOi := Lib.hid (HOw.out.trans (HOh.out.trans hO (fun _ _ c => c)) (fun _ _ c => c))
      clear hO hsm HG3b HG4 HOh
      go_wp2
      go_ret
      exact ⟨rfl, HOi.out⟩

theorem door_met (os : Os) (args : Array Value) : laidMetH Tryd.prog [("sharecore/field.fields", Rows.laid_sharecore_field_fields)] ((World.doorLaid Tryd.prog 400 os).forCall (fun _ _ => 0) ⟨#[], args, []⟩).memory :=
  laidMetH_of_parts3 (fuel := 8) (laidMet_of_run' 8 (by kernel_rfl) (by kernel_rfl)) (by kernel_rfl) (by kernel_rfl)

set_option maxRecDepth 100000 in
theorem lifted (os : Os) (started : os.Started) (H : Type) (enc : TypeId × Value → H) :
    ReturnsInHanded {} Tryd.checked os 7 .any (fun w args => (Rows.polyEventsSpec.pre enc Tryd.prog Tryd.f7 [] false w args ∧ laidMetH Tryd.prog [("sharecore/field.fields", Rows.laid_sharecore_field_fields)] w) ∧ sizedMet enc Tryd.prog Tryd.f7 (OpenSpec.ofChange Rows.polyEventsSpec) false w args)
      (Rows.polyEventsSpec.post enc Tryd.prog Tryd.f7 false true false false) := by
  refine returnsInHanded_of_change_and (C := Tryd.checked) (X := fun w _ => laidMetH Tryd.prog [("sharecore/field.fields", Rows.laid_sharecore_field_fields)] w) (fun _ _ _ hh h => h.of_heap hh) own started (by kernel_rfl) Tryd.func7
    (ChangeSpec.witness_shaped (enc := enc) (C := Tryd.checked) (os := os) (X := fun w _ => laidMetH Tryd.prog [("sharecore/field.fields", Rows.laid_sharecore_field_fields)] w) false (World.doorLaid Tryd.prog 400 os) #[.bool false, .slice none 0 0, .slice none 0 0] 8 rfl (World.shaped_of_RefB (by kernel_rfl) (by kernel_rfl)) (by kernel_rfl) (by kernel_rfl) (by kernel_rfl) (door_met os _)) ?_
  intro W base args ds gs before hval0 hW _ _ hL _
  have hval : ∀ (j : Nat) t v, Tryd.f7.params[j]? = some t → args[j]? = some v → Value.okWide Tryd.prog W .any base t v := hval0
  have hW' := hW
  obtain ⟨p, q, hA0, hV, rfl, hfz, hnd⟩ := hW
  have hA : DataW.TrodAll enc Tryd.prog W 0 (fun _ => true) true Tryd.f7.params.toList args.toList ds p := hA0
  rw [Tryd.params7] at hA hval
  obtain ⟨v0, vs0, d0, ds0, p0, q0, hargs, rfl, rfl, h0, r0⟩ := trodAll_cons hA
  obtain ⟨v1, vs1, d1, ds1, p1, q1, rfl, rfl, rfl, h1, r1⟩ := trodAll_cons r0
  obtain ⟨v2, vs2, d2, ds2, p2, q2, rfl, rfl, rfl, h2, r2⟩ := trodAll_cons r1
  obtain ⟨rfl, rfl, rfl⟩ := trodAll_nil r2
  obtain rfl : args = #[v0, v1, v2] := by cases args; simp_all
  obtain ⟨rfl, rfl⟩ := trodVars_none hV
  obtain ⟨i0, rfl, rfl, rfl⟩ := open_bool Tryd.underlying4 (hval 0 4 v0 rfl rfl) h0
  have w0 := trivial
  obtain ⟨a1, n1, cap1, rfl⟩ := okWide_slice Tryd.underlying22 (hval 1 22 v1 rfl rfl)
  have k1 := h1
  have lt1 : ∀ x ∈ p1, x.block < W.heap.size := by obtain ⟨m, hm⟩ := k1; exact DataW.trod_lt m _ _ _ hm
  obtain ⟨xs1, hn1, w1⟩ : ∃ xs, n1 = xs.length ∧ VsAt W (.slice a1 n1 cap1) xs (fun k => k < W.heap.size) := by
    obtain ⟨fuel, hf⟩ := h1
    exact vecs_of_trod hf
  obtain ⟨a2, n2, cap2, rfl⟩ := okWide_slice Tryd.underlying22 (hval 2 22 v2 rfl rfl)
  have k2 := h2
  have lt2 : ∀ x ∈ p2, x.block < W.heap.size := by obtain ⟨m, hm⟩ := k2; exact DataW.trod_lt m _ _ _ hm
  obtain ⟨xs2, hn2, w2⟩ : ∃ xs, n2 = xs.length ∧ VsAt W (.slice a2 n2 cap2) xs (fun k => k < W.heap.size) := by
    obtain ⟨fuel, hf⟩ := h2
    exact vecs_of_trod hf
  have hT := tab_of_laid hL
  clear hA0 hval0
  refine (walk i0 a1 n1 cap1 xs1 a2 n2 cap2 xs2 W w0 hn1 w1 hn2 w2 hT).mono fun e W' ⟨he, hoff⟩ => ?_
  have bel : Below W.heap.size W W' := hoff.below (Nat.le_refl _) (fun _ _ c => c)
  subst he
  exact ⟨_, rfl, _, _, _, [], _, [], hW', trodAll_mk1 (shut_bool Tryd.underlying4 _), (trodAll_cons_mk (shut_bool Tryd.underlying4 _) (trodAll_cons_mk (Below.trod laidOut (by kernel_rfl) (of_decide_eq_true (by kernel_rfl)) k1 bel lt1) (trodAll_cons_mk (Below.trod laidOut (by kernel_rfl) (of_decide_eq_true (by kernel_rfl)) k2 bel lt2) trodAll_mk0))), rfl, bel.frame _, fun h => by cases h⟩

theorem over : Rows.polyEventsRow.holds Tryd.pinned (OpenSpec.ofChange Rows.polyEventsSpec) :=
  OpenClaim.holds_of_wide 7 Tryd.f7 rfl rfl rfl rfl rfl rfl rfl ⟨rfl, rfl, rfl, rfl, rfl⟩ rfl rfl rfl rfl rfl (by kernel_rfl) Tryd.func7 (by kernel_rfl)
    (of_decide_eq_true (by kernel_rfl)) (by unfold Func.isWrapper; first | (rw [if_pos (by decide +kernel)]; kernel_rfl) | (rw [if_neg (by decide +kernel)]; exact ⟨rfl, rfl⟩))
    (fun os started H enc _ => lifted os started H enc)

theorem proved : Rows.PolyEventsCardSaid :=
  Claim7.holds_tied_plain_at .later [] [.data] true (true, "3d840ffc59f1f7eb92e6625ecf38349f13a4c620ea70c2d1380fae53a4373fdd") false
    over (fun _ h => by cases h) (by kernel_rfl) (fun _ h => by cases h) polyEvents_row_tie rfl ⟨rfl, rfl⟩ (by kernel_rfl) rfl
    (fun f fn hf hfn => by
      obtain rfl : f = 7 := Option.some.inj ((show Tryd.prog.funcNamed "sharecore/sharecorelaw08.PolyEvents" = some 7 by kernel_rfl).symm.trans hf) |>.symm
      obtain rfl : fn = Tryd.f7 := (Option.some.inj (Tryd.func7.symm.trans hfn)).symm
      exact ⟨by kernel_rfl, fun j t ht => by
        rw [Tryd.params7] at ht
        have hm : t ∈ [4, 22] := by simpa using Array.mem_of_getElem? ht
        have hall : ([4, 22].all fun u => !Tryd.prog.wantsStandIn u) = true := by kernel_rfl
        exact (show Tryd.prog.wantsStandIn t = false by simpa using List.all_eq_true.1 hall t hm)⟩)
    (by kernel_rfl)
#print axioms proved
end Go.Proofs.YtiemajbcmmbjbaaDoor.polyEvents
