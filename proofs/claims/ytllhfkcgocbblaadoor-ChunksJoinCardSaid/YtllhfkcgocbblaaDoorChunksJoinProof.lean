/-
  For every field, list of values and length, the examples of the chapter hold, and Join returns the same secret, or the same error, as the reference: the statement of P13.3. No condition.
-/
import Derived.Test.YtllhfkcgocbblaaDoorRows
import Derived.Test.YtllhfkcgocbblaaDoorTie
import Derived.Test.YtllhfkcgocbblaaDoorCards
import Derived.LaidMore
import Derived.LaidHandle
import Derived.SevenTiedAt
import Derived.Stop.Joined
import Derived.JoinedOf
import Derived.Test.YtllhfkcgocbblaaDoorLimbOpen
import Derived.Test.YtllhfkcgocbblaaDoorFieldTab
import Derived.Test.YtllhfkcgocbblaaDoorFieldHeld
import Derived.Test.YtllhfkcgocbblaaDoorVecRow
import Derived.Test.YtllhfkcgocbblaaDoorValsRow
import Derived.Test.YtllhfkcgocbblaaDoorChkAlive
import Derived.WalkKit
import Derived.ProofKit
import Derived.OpenShut
import Derived.ShutString
import Derived.ChangeOld
import Derived.Below
namespace Go.Proofs.YtllhfkcgocbblaaDoor.chunksJoin
open Go.ChangeShapes Go.WideShapes Go.ChangeAt Go.RowKit
set_option linter.unusedVariables false

theorem own : ownKnob Tryd.prog.godebug = none := by kernel_rfl
theorem laidOut : laidOutB Tryd.prog = true := by kernel_rfl

set_option maxRecDepth 100000 in
set_option maxHeartbeats 4000000 in
theorem walk (i0 : Bool) (a1 : Option Addr) (n1 cap1 : Nat) (xs1 : List Nat) (i2 : Int) (w : World) (w0 : True) (hn1 : n1 = xs1.length) (w1 : VsAt w (.slice a1 n1 cap1) xs1 (fun k => k < w.heap.size)) (w2 : (Lit.int .i64 i2).wf = true) (hT : TabAt w) :
    Calls Tryd.prog 5 #[.bool i0, .slice a1 n1 cap1, .int .i64 i2] w fun e w' => e = .returned (.bool true) ∧ Off (fun _ => False) w w' := by
  obtain ⟨id, p, i, r, s, hF, hid⟩ := fld_of i0
  have hp := hF.mp.lt
  have h1 := hF.mp.one
  have FG := Lib.hid (fun W hT => get13_any i0 hF hid W hT)
  have FAL : Hid (∀ W, TabAt W → Calls Tryd.prog 9 #[] W fun e w' => e = .returned (.bool true) ∧ Off (fun _ => False) W w') := Lib.hid (fun W hT => alive13_any W hT)
  have HT := Lib.hid hT
  clear hT hid
  by_cases hbig : 40 < n1
  · have j1 : (40 : Int) < (n1 : Int) := by omega
    clear FG
    go_enter Tryd.func5, Tryd.ntmps5
    go_wp2_with fail
    refine (FAL.out _ HT.out).mono ?_
    rintro e u ⟨rfl, hO⟩
    have HOf := Lib.hid hO
    clear hO
    go_wp2
    go_ret
    exact ⟨rfl, HOf.out⟩
  · have j1 : ¬ (40 : Int) < (n1 : Int) := by omega
    obtain ⟨hnl, hnm, hxr⟩ := w1.len
    obtain ⟨ys, hys⟩ : ∃ ys, ys = xs1.map (· % p) := ⟨_, rfl⟩
    have hyl : ys.length = n1 := by rw [hys, List.length_map, ← hn1]
    have hyp : ∀ y ∈ ys, y < p := fun y h => by
      rw [hys] at h
      obtain ⟨x, _, rfl⟩ := List.mem_map.1 h
      exact Nat.mod_lt _ (by omega)
    have FV := Lib.hid (fun (W : World) (h : Off (fun _ => False) w W) => (show Calls Tryd.prog 18 #[V p, .slice a1 n1 cap1] W fun e w' => ∃ z1 c1 z2 c2, e = .returned (.tuple #[.slice z1 n1 c1, .slice z2 n1 c2]) ∧ Ls w' (.slice z1 n1 c1) ys ∧ Ls w' (.slice z2 n1 c2) (ys.map (fm p)) ∧ Off (fun _ => False) W w' from by
      refine (values_own hp h1 xs1 hxr (by omega) _ W ((ls_of_vs w1 (by omega)).off h)).mono ?_
      rintro e w' ⟨z1, c1, z2, c2, rfl, r1, r2, hO⟩
      rw [← hys] at r1 r2
      rw [← hn1] at r1 r2 ⊢
      exact ⟨z1, c1, z2, c2, rfl, Ls.of (ls_of_own r1 hyl.symm (by omega)), Ls.of (ls_of_own r2 (by rw [List.length_map]; exact hyl.symm) (by omega)), hO⟩))
    have hJ := fun (W : World) (v : Value) (hV : Ls W v (ys.map (fm p))) => join_any hF ys hyp v i2 w2 W hV
    have hR := fun (W : World) (v : Value) (hV : Ls W v ys) => refjoin_any ys v i2 w2 W hV
    obtain ⟨R, hR0⟩ : ∃ R, R = joinV ys i2 := ⟨_, rfl⟩
    rw [← hR0] at hJ hR
    obtain ⟨bs, er⟩ := R
    dsimp only at hJ hR
    have FJ := Lib.hid hJ
    have FR := Lib.hid hR
    clear hJ hR hR0 hF hp h1 w1 hn1 hxr hyl hyp hys hbig w2 hnl hnm
    go_enter Tryd.func5, Tryd.ntmps5
    go_wp2_with fail
    refine (FG.out _ HT.out).mono ?_
    rintro e u0 ⟨rfl, hO⟩
    have HK : Hid (∀ W, Off (fun _ => False) ((u0.alloc (.cells #[.int .i64 id, .int .u64 (wd p 0 : Int), .int .u64 (wd p 1 : Int), .int .u64 (wd p 2 : Int), .int .u64 (wd p 3 : Int), .int .u64 (i : Int), .int .u64 (wd r 0 : Int), .int .u64 (wd r 1 : Int), .int .u64 (wd r 2 : Int), .int .u64 (wd r 3 : Int), .int .u64 (wd s 0 : Int), .int .u64 (wd s 1 : Int), .int .u64 (wd s 2 : Int), .int .u64 (wd s 3 : Int)] 30)).alloc (.cells #[.int .u64 (wd p 0 : Int), .int .u64 (wd p 1 : Int), .int .u64 (wd p 2 : Int), .int .u64 (wd p 3 : Int)] 27)) W → W.heap[u0.heap.size]? = some (.cells #[.int .i64 id, .int .u64 (wd p 0 : Int), .int .u64 (wd p 1 : Int), .int .u64 (wd p 2 : Int), .int .u64 (wd p 3 : Int), .int .u64 (i : Int), .int .u64 (wd r 0 : Int), .int .u64 (wd r 1 : Int), .int .u64 (wd r 2 : Int), .int .u64 (wd r 3 : Int), .int .u64 (wd s 0 : Int), .int .u64 (wd s 1 : Int), .int .u64 (wd s 2 : Int), .int .u64 (wd s 3 : Int)] 30) ∧ W.heap[u0.heap.size + 1]? = some (.cells #[.int .u64 (wd p 0 : Int), .int .u64 (wd p 1 : Int), .int .u64 (wd p 2 : Int), .int .u64 (wd p 3 : Int)] 27)) := Lib.hid (fun W h => ⟨h.heap (heap_old' (heap_new' rfl _) _) (fun c => c), h.heap (heap_new' (by simp) _) (fun c => c)⟩)
    have HO0 : Hid (∀ W, Off (fun _ => False) ((u0.alloc (.cells #[.int .i64 id, .int .u64 (wd p 0 : Int), .int .u64 (wd p 1 : Int), .int .u64 (wd p 2 : Int), .int .u64 (wd p 3 : Int), .int .u64 (i : Int), .int .u64 (wd r 0 : Int), .int .u64 (wd r 1 : Int), .int .u64 (wd r 2 : Int), .int .u64 (wd r 3 : Int), .int .u64 (wd s 0 : Int), .int .u64 (wd s 1 : Int), .int .u64 (wd s 2 : Int), .int .u64 (wd s 3 : Int)] 30)).alloc (.cells #[.int .u64 (wd p 0 : Int), .int .u64 (wd p 1 : Int), .int .u64 (wd p 2 : Int), .int .u64 (wd p 3 : Int)] 27)) W → Off (fun _ => False) w W) := Lib.hid (fun W h => (hO.trans (((Off.refl (fun _ => False) u0).alloc _).alloc _) (fun _ _ c => c)).trans h (fun _ _ c => c))
    obtain ⟨b0, hb0⟩ : ∃ b0, b0 = u0.heap.size := ⟨_, rfl⟩
    clear hO FG
    obtain ⟨p0, p1, p2, p3⟩ := cells4 (HK.out _ (Off.refl _ _)).2
    have hlt := heap_lt (HK.out _ (Off.refl _ _)).2
    go_wp2_with fail
    refine (FV.out _ (HO0.out _ (Off.refl _ _))).mono ?_
    rintro e u1 ⟨z1, c1, z2, c2, rfl, hl1, hl2, hO1⟩
    have HO1 := Lib.hid (hO1)
    have HV1 := Lib.hid hl1
    have HV2 := Lib.hid hl2
    clear hl1 hl2
    clear hO1
    clear p0 p1 p2 p3 hlt
    obtain ⟨f0, f1, f2, f3, f4, f5, f6, f7, f8, f9, f10, f11, f12, f13⟩ := fv_cells (HK.out _ HO1.out).1
    have hlt := heap_lt (HK.out _ HO1.out).1
    go_wp2_with fail
    refine (FJ.out _ _ HV2.out).mono ?_
    rintro e u2 ⟨sv, rfl, hsv, hO2⟩
    have HO2 := Lib.hid (HO1.out.trans hO2 (fun _ _ c => c))
    have HSv := Lib.hid hsv
    have HV12 := Lib.hid (HV1.out.off hO2)
    clear hsv
    clear hO2
    clear f0 f1 f2 f3 f4 f5 f6 f7 f8 f9 f10 f11 f12 f13 hlt
    go_wp2_with fail
    refine (FR.out _ _ HV12.out).mono ?_
    rintro e u3 ⟨su, rfl, hsu, hO3⟩
    have HO3 := Lib.hid (HO2.out.trans hO3 (fun _ _ c => c))
    have HSu := Lib.hid hsu
    have HSv3 := Lib.hid (HSv.out.off hO3)
    clear hsu
    clear hO3
    go_wp2_with fail
    refine (FAL.out _ (HT.out.off (HO0.out _ HO3.out))).mono ?_
    rintro e u4 ⟨rfl, hO4⟩
    have HO4 := Lib.hid (HO3.out.trans hO4 (fun _ _ c => c))
    have HQ := Lib.hid (bequal_sv (HSv3.out.off hO4) (HSu.out.off hO4))
    clear hO4
    go_wp2_with fail
    refine (HQ.out).mono ?_
    rintro e u5 ⟨rfl, hO5⟩
    have HO5 := Lib.hid (HO4.out.trans hO5 (fun _ _ c => c))
    clear hO5
    go_wp2
    go_ret
    exact ⟨rfl, HO0.out _ HO5.out⟩

theorem door_met (os : Os) (args : Array Value) : laidMetH Tryd.prog [("sharecore/field.fields", Rows.laid_sharecore_field_fields)] ((World.doorLaid Tryd.prog 400 os).forCall (fun _ _ => 0) ⟨#[], args, []⟩).memory :=
  laidMetH_of_parts3 (fuel := 8) (laidMet_of_run' 8 (by kernel_rfl) (by kernel_rfl)) (by kernel_rfl) (by kernel_rfl)

set_option maxRecDepth 100000 in
theorem lifted (os : Os) (started : os.Started) (H : Type) (enc : TypeId × Value → H) :
    ReturnsInHanded {} Tryd.checked os 5 .any (fun w args => (Rows.chunksJoinSpec.pre enc Tryd.prog Tryd.f5 [] false w args ∧ laidMetH Tryd.prog [("sharecore/field.fields", Rows.laid_sharecore_field_fields)] w) ∧ sizedMet enc Tryd.prog Tryd.f5 (OpenSpec.ofChange Rows.chunksJoinSpec) false w args)
      (Rows.chunksJoinSpec.post enc Tryd.prog Tryd.f5 false true false false) := by
  refine returnsInHanded_of_change_and (C := Tryd.checked) (X := fun w _ => laidMetH Tryd.prog [("sharecore/field.fields", Rows.laid_sharecore_field_fields)] w) (fun _ _ _ hh h => h.of_heap hh) own started (by kernel_rfl) Tryd.func5
    (ChangeSpec.witness_shaped (enc := enc) (C := Tryd.checked) (os := os) (X := fun w _ => laidMetH Tryd.prog [("sharecore/field.fields", Rows.laid_sharecore_field_fields)] w) false (World.doorLaid Tryd.prog 400 os) #[.bool false, .slice none 0 0, .int .i64 0] 8 rfl (World.shaped_of_RefB (by kernel_rfl) (by kernel_rfl)) (by kernel_rfl) (by kernel_rfl) (by kernel_rfl) (door_met os _)) ?_
  intro W base args ds gs before hval0 hW _ hsz hL _
  have hval : ∀ (j : Nat) t v, Tryd.f5.params[j]? = some t → args[j]? = some v → Value.okWide Tryd.prog W .any base t v := hval0
  have hW' := hW
  obtain ⟨p, q, hA0, hV, rfl, hfz, hnd⟩ := hW
  have hA : DataW.TrodAll enc Tryd.prog W 0 (fun _ => true) true Tryd.f5.params.toList args.toList ds p := hA0
  rw [Tryd.params5] at hA hval
  obtain ⟨v0, vs0, d0, ds0, p0, q0, hargs, rfl, rfl, h0, r0⟩ := trodAll_cons hA
  obtain ⟨v1, vs1, d1, ds1, p1, q1, rfl, rfl, rfl, h1, r1⟩ := trodAll_cons r0
  obtain ⟨v2, vs2, d2, ds2, p2, q2, rfl, rfl, rfl, h2, r2⟩ := trodAll_cons r1
  obtain ⟨rfl, rfl, rfl⟩ := trodAll_nil r2
  obtain rfl : args = #[v0, v1, v2] := by cases args; simp_all
  obtain ⟨rfl, rfl⟩ := trodVars_none hV
  obtain ⟨i0, rfl, rfl, rfl⟩ := open_bool Tryd.underlying4 (hval 0 4 v0 rfl rfl) h0
  have w0 := trivial
  obtain ⟨a1, n1, cap1, rfl⟩ := okWide_slice Tryd.underlying38 (hval 1 38 v1 rfl rfl)
  have k1 := h1
  have lt1 : ∀ x ∈ p1, x.block < W.heap.size := by obtain ⟨m, hm⟩ := k1; exact DataW.trod_lt m _ _ _ hm
  obtain ⟨xs1, hn1, w1⟩ : ∃ xs, n1 = xs.length ∧ VsAt W (.slice a1 n1 cap1) xs (fun k => k < W.heap.size) := by
    obtain ⟨fuel, hf⟩ := h1
    exact vecs_of_trod hf
  obtain ⟨i2, rfl, rfl, rfl, w2⟩ := open_int Tryd.underlying3 (hval 2 3 v2 rfl rfl) h2
  have hT := tab_of_laid hL
  clear hA0 hval0
  refine (walk i0 a1 n1 cap1 xs1 i2 W w0 hn1 w1 w2 hT).mono fun e W' ⟨he, hoff⟩ => ?_
  have bel : Below W.heap.size W W' := hoff.below (Nat.le_refl _) (fun _ _ c => c)
  subst he
  exact ⟨_, rfl, _, _, _, [], _, [], hW', trodAll_mk1 (shut_bool Tryd.underlying4 _), (trodAll_cons_mk (shut_bool Tryd.underlying4 _) (trodAll_cons_mk (Below.trod laidOut (by kernel_rfl) (of_decide_eq_true (by kernel_rfl)) k1 bel lt1) (trodAll_cons_mk (shut_int Tryd.underlying3 w2) trodAll_mk0))), rfl, bel.frame _, fun h => by cases h⟩

theorem over : Rows.chunksJoinRow.holds Tryd.pinned (OpenSpec.ofChange Rows.chunksJoinSpec) :=
  OpenClaim.holds_of_wide 5 Tryd.f5 rfl rfl rfl rfl rfl rfl rfl ⟨rfl, rfl, rfl, rfl, rfl⟩ rfl rfl rfl rfl rfl (by kernel_rfl) Tryd.func5 (by kernel_rfl)
    (of_decide_eq_true (by kernel_rfl)) (by unfold Func.isWrapper; first | (rw [if_pos (by decide +kernel)]; kernel_rfl) | (rw [if_neg (by decide +kernel)]; exact ⟨rfl, rfl⟩))
    (fun os started H enc _ => lifted os started H enc)

theorem proved : Rows.ChunksJoinCardSaid :=
  Claim7.holds_tied_plain_at .later [] [.data] true (true, "d8e20a016fafaace6175f6d9e5d60023c0e074faa7681e5f86b48efa10aad964") false
    over (fun _ h => by cases h) (by kernel_rfl) (fun _ h => by cases h) chunksJoin_row_tie rfl ⟨rfl, rfl⟩ (by kernel_rfl) rfl
    (fun f fn hf hfn => by
      obtain rfl : f = 5 := Option.some.inj ((show Tryd.prog.funcNamed "sharecore/sharecorelaw13.ChunksJoin" = some 5 by kernel_rfl).symm.trans hf) |>.symm
      obtain rfl : fn = Tryd.f5 := (Option.some.inj (Tryd.func5.symm.trans hfn)).symm
      exact ⟨by kernel_rfl, fun j t ht => by
        rw [Tryd.params5] at ht
        have hm : t ∈ [4, 38, 3] := by simpa using Array.mem_of_getElem? ht
        have hall : ([4, 38, 3].all fun u => !Tryd.prog.wantsStandIn u) = true := by kernel_rfl
        exact (show Tryd.prog.wantsStandIn t = false by simpa using List.all_eq_true.1 hall t hm)⟩)
    (by kernel_rfl)
#print axioms proved
end Go.Proofs.YtllhfkcgocbblaaDoor.chunksJoin
