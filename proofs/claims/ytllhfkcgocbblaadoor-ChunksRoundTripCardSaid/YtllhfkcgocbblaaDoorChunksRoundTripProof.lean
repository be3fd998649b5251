/-
  For every field and secret, the examples of the chapter hold, and Join of Split's elements is the secret, and there are as many elements as Count says: the statement of P13.2 to P13.4. No condition.
-/
import Derived.Test.YtllhfkcgocbblaaDoorRows
import Derived.Test.YtllhfkcgocbblaaDoorTie
import Derived.Test.YtllhfkcgocbblaaDoorCards
import Derived.LaidMore
import Derived.LaidHandle
import Derived.SevenTiedAt
import Derived.Stop.Joined
import Derived.JoinedOf
import Derived.Test.YtllhfkcgocbblaaDoorLimbOpen
import Derived.Test.YtllhfkcgocbblaaDoorFieldTab
import Derived.Test.YtllhfkcgocbblaaDoorFieldHeld
import Derived.Test.YtllhfkcgocbblaaDoorBytOpen
import Derived.Test.YtllhfkcgocbblaaDoorChkAlive
import Derived.Test.YtllhfkcgocbblaaDoorRowByte
import Derived.WalkKit
import Derived.ProofKit
import Derived.OpenShut
import Derived.ShutString
import Derived.ChangeOld
import Derived.Below
namespace Go.Proofs.YtllhfkcgocbblaaDoor.chunksRoundTrip
open Go.ChangeShapes Go.WideShapes Go.ChangeAt Go.RowKit
set_option linter.unusedVariables false

theorem own : ownKnob Tryd.prog.godebug = none := by kernel_rfl
theorem laidOut : laidOutB Tryd.prog = true := by kernel_rfl

set_option maxRecDepth 100000 in
set_option maxHeartbeats 4000000 in
theorem walk (i0 : Bool) (a1 : Option Addr) (n1 cap1 : Nat) (bs1 : List Nat) (w : World) (w0 : True) (hn1 : n1 = bs1.length) (hc1 : n1 ≤ cap1) (hs1 : Small bs1) (w1 : BsAt w a1 bs1 (fun k => k < w.heap.size)) (hT : TabAt w) :
    Calls Tryd.prog 6 #[.bool i0, .slice a1 n1 cap1] w fun e w' => e = .returned (.bool true) ∧ Off (fun _ => False) w w' := by
  obtain ⟨id, p, i, r, s, hF, hid⟩ := fld_of i0
  have hp := hF.mp.lt
  have h1 := hF.mp.one
  have FG := Lib.hid (fun W hT => get13_any i0 hF hid W hT)
  have FAL : Hid (∀ W, TabAt W → Calls Tryd.prog 9 #[] W fun e w' => e = .returned (.bool true) ∧ Off (fun _ => False) W w') := Lib.hid (fun W hT => alive13_any W hT)
  have HT := Lib.hid hT
  clear hT hid
  by_cases hbig : 1500 < n1
  · have j1 : (1500 : Int) < (n1 : Int) := by omega
    clear FG
    go_enter Tryd.func6, Tryd.ntmps6
    go_wp2_with fail
    refine (FAL.out _ HT.out).mono ?_
    rintro e u ⟨rfl, hO⟩
    have HOf := Lib.hid hO
    clear hO
    go_wp2
    go_ret
    exact ⟨rfl, HOf.out⟩
  · have j1 : ¬ (1500 : Int) < (n1 : Int) := by omega
    have FS := Lib.hid (fun (W : World) (h : Off (fun _ => False) w W) => split_any hF a1 n1 cap1 bs1 _ W (w1.off h (fun _ _ _ c => c)) hn1 hc1 hs1 (by omega))
    have FJ := Lib.hid (fun (W : World) (v : Value) (hV : Ls W v ((splitV bs1).map (fm p))) => (show Calls Tryd.prog 19 #[FV id p i r s, v, .int .i64 (n1 : Int)] W fun e w' => ∃ sv, e = .returned (.tuple #[sv, .int .i64 0]) ∧ SvAt w' sv bs1 ∧ Off (fun _ => False) W w' from by
      have h := join_any hF (splitV bs1) (sec_lt hF hs1) v (n1 : Int) (wf_small (by omega)) W hV
      rw [show joinV (splitV bs1) (n1 : Int) = (bs1, 0) by rw [hn1]; exact join_split_all hs1 (by omega)] at h
      exact h))
    have FC := Lib.hid (fun W => show Calls Tryd.prog 10 #[.int .i64 (n1 : Int)] W fun e w' => e = .returned (.int .i64 (cntN n1 : Int)) ∧ Off (fun _ => False) W w' from by
      have h := count_any (n1 : Int) (wf_small (by omega)) W
      rw [show cntI (n1 : Int) = cntN n1 by unfold cntI; rw [if_pos (by omega), Int.toNat_natCast]] at h
      exact h)
    have FE := Lib.hid (fun (W : World) (a : Option Addr) (k c : Nat) (S : Nat → Prop) (hb : BsAt W a bs1 S) (hk : k = bs1.length) (h : Off (fun _ => False) w W) => bequal_any (c := c) (c' := cap1) hb hk (w1.off h (fun _ _ _ c => c)) hn1)
    obtain ⟨q, hq⟩ : ∃ q, q = cntN n1 := ⟨_, rfl⟩
    rw [← hq] at FS FC
    clear hF hp h1 w1 hn1 hs1 hc1 hbig hq
    go_enter Tryd.func6, Tryd.ntmps6
    go_wp2_with fail
    refine (FG.out _ HT.out).mono ?_
    rintro e u0 ⟨rfl, hO⟩
    have HK : Hid (∀ W, Off (fun _ => False) ((u0.alloc (.cells #[.int .i64 id, .int .u64 (wd p 0 : Int), .int .u64 (wd p 1 : Int), .int .u64 (wd p 2 : Int), .int .u64 (wd p 3 : Int), .int .u64 (i : Int), .int .u64 (wd r 0 : Int), .int .u64 (wd r 1 : Int), .int .u64 (wd r 2 : Int), .int .u64 (wd r 3 : Int), .int .u64 (wd s 0 : Int), .int .u64 (wd s 1 : Int), .int .u64 (wd s 2 : Int), .int .u64 (wd s 3 : Int)] 30)).alloc (.cells #[.int .u64 (wd p 0 : Int), .int .u64 (wd p 1 : Int), .int .u64 (wd p 2 : Int), .int .u64 (wd p 3 : Int)] 27)) W → W.heap[u0.heap.size]? = some (.cells #[.int .i64 id, .int .u64 (wd p 0 : Int), .int .u64 (wd p 1 : Int), .int .u64 (wd p 2 : Int), .int .u64 (wd p 3 : Int), .int .u64 (i : Int), .int .u64 (wd r 0 : Int), .int .u64 (wd r 1 : Int), .int .u64 (wd r 2 : Int), .int .u64 (wd r 3 : Int), .int .u64 (wd s 0 : Int), .int .u64 (wd s 1 : Int), .int .u64 (wd s 2 : Int), .int .u64 (wd s 3 : Int)] 30) ∧ W.heap[u0.heap.size + 1]? = some (.cells #[.int .u64 (wd p 0 : Int), .int .u64 (wd p 1 : Int), .int .u64 (wd p 2 : Int), .int .u64 (wd p 3 : Int)] 27)) := Lib.hid (fun W h => ⟨h.heap (heap_old' (heap_new' rfl _) _) (fun c => c), h.heap (heap_new' (by simp) _) (fun c => c)⟩)
    have HO0 : Hid (∀ W, Off (fun _ => False) ((u0.alloc (.cells #[.int .i64 id, .int .u64 (wd p 0 : Int), .int .u64 (wd p 1 : Int), .int .u64 (wd p 2 : Int), .int .u64 (wd p 3 : Int), .int .u64 (i : Int), .int .u64 (wd r 0 : Int), .int .u64 (wd r 1 : Int), .int .u64 (wd r 2 : Int), .int .u64 (wd r 3 : Int), .int .u64 (wd s 0 : Int), .int .u64 (wd s 1 : Int), .int .u64 (wd s 2 : Int), .int .u64 (wd s 3 : Int)] 30)).alloc (.cells #[.int .u64 (wd p 0 : Int), .int .u64 (wd p 1 : Int), .int .u64 (wd p 2 : Int), .int .u64 (wd p 3 : Int)] 27)) W → Off (fun _ => False) w W) := Lib.hid (fun W h => (hO.trans (((Off.refl (fun _ => False) u0).alloc _).alloc _) (fun _ _ c => c)).trans h (fun _ _ c => c))
    obtain ⟨b0, hb0⟩ : ∃ b0, b0 = u0.heap.size := ⟨_, rfl⟩
    clear hO FG
    obtain ⟨f0, f1, f2, f3, f4, f5, f6, f7, f8, f9, f10, f11, f12, f13⟩ := fv_cells (HK.out _ (Off.refl _ _)).1
    have hlt := heap_lt (HK.out _ (Off.refl _ _)).1
    go_wp2_with fail
    refine (FS.out _ (HO0.out _ (Off.refl _ _))).mono ?_
    rintro e u1 ⟨a2, c2, rfl, hls, hO1⟩
    have HO1 := Lib.hid (hO1)
    have HLs := Lib.hid hls
    clear hls
    clear hO1
    clear f0 f1 f2 f3 f4 f5 f6 f7 f8 f9 f10 f11 f12 f13 hlt
    obtain ⟨f0, f1, f2, f3, f4, f5, f6, f7, f8, f9, f10, f11, f12, f13⟩ := fv_cells (HK.out _ HO1.out).1
    have hlt := heap_lt (HK.out _ HO1.out).1
    go_wp2_with fail
    refine (FJ.out _ _ HLs.out).mono ?_
    rintro e u2 ⟨sv, rfl, hsv, hO2⟩
    have HO2 := Lib.hid (HO1.out.trans hO2 (fun _ _ c => c))
    obtain ⟨ab, nb, cb, rfl, hnb, hcb, hbb⟩ := hsv
    have HBb := Lib.hid hbb
    have HNb := Lib.hid hnb
    clear hbb hnb
    clear hO2
    clear f0 f1 f2 f3 f4 f5 f6 f7 f8 f9 f10 f11 f12 f13 hlt
    go_wp2_with fail
    refine (FAL.out _ (HT.out.off (HO0.out _ HO2.out))).mono ?_
    rintro e u3 ⟨rfl, hO3⟩
    have HO3 := Lib.hid (HO2.out.trans hO3 (fun _ _ c => c))
    have HBb3 := Lib.hid (HBb.out.off hO3 (fun _ _ _ c => c))
    clear hO3
    go_wp2_with fail
    refine (FE.out _ _ _ _ _ HBb3.out HNb.out (HO0.out _ HO3.out)).mono ?_
    rintro e u4 ⟨rfl, hO4⟩
    have HO4 := Lib.hid (HO3.out.trans hO4 (fun _ _ c => c))
    clear hO4
    go_wp2_with fail
    refine (FC.out _).mono ?_
    rintro e u5 ⟨rfl, hO5⟩
    have HO5 := Lib.hid (HO4.out.trans hO5 (fun _ _ c => c))
    clear hO5
    go_wp2
    go_ret
    exact ⟨rfl, HO0.out _ HO5.out⟩

theorem door_met (os : Os) (args : Array Value) : laidMetH Tryd.prog [("sharecore/field.fields", Rows.laid_sharecore_field_fields)] ((World.doorLaid Tryd.prog 400 os).forCall (fun _ _ => 0) ⟨#[], args, []⟩).memory :=
  laidMetH_of_parts3 (fuel := 8) (laidMet_of_run' 8 (by kernel_rfl) (by kernel_rfl)) (by kernel_rfl) (by kernel_rfl)

set_option maxRecDepth 100000 in
theorem lifted (os : Os) (started : os.Started) (H : Type) (enc : TypeId × Value → H) :
    ReturnsInHanded {} Tryd.checked os 6 .any (fun w args => (Rows.chunksRoundTripSpec.pre enc Tryd.prog Tryd.f6 [] false w args ∧ laidMetH Tryd.prog [("sharecore/field.fields", Rows.laid_sharecore_field_fields)] w) ∧ sizedMet enc Tryd.prog Tryd.f6 (OpenSpec.ofChange Rows.chunksRoundTripSpec) false w args)
      (Rows.chunksRoundTripSpec.post enc Tryd.prog Tryd.f6 false true false false) := by
  refine returnsInHanded_of_change_and (C := Tryd.checked) (X := fun w _ => laidMetH Tryd.prog [("sharecore/field.fields", Rows.laid_sharecore_field_fields)] w) (fun _ _ _ hh h => h.of_heap hh) own started (by kernel_rfl) Tryd.func6
    (ChangeSpec.witness_shaped (enc := enc) (C := Tryd.checked) (os := os) (X := fun w _ => laidMetH Tryd.prog [("sharecore/field.fields", Rows.laid_sharecore_field_fields)] w) false (World.doorLaid Tryd.prog 400 os) #[.bool false, .slice none 0 0] 8 rfl (World.shaped_of_RefB (by kernel_rfl) (by kernel_rfl)) (by kernel_rfl) (by kernel_rfl) (by kernel_rfl) (door_met os _)) ?_
  intro W base args ds gs before hval0 hW _ hsz hL _
  have hval : ∀ (j : Nat) t v, Tryd.f6.params[j]? = some t → args[j]? = some v → Value.okWide Tryd.prog W .any base t v := hval0
  have hW' := hW
  obtain ⟨p, q, hA0, hV, rfl, hfz, hnd⟩ := hW
  have hA : DataW.TrodAll enc Tryd.prog W 0 (fun _ => true) true Tryd.f6.params.toList args.toList ds p := hA0
  rw [Tryd.params6] at hA hval
  obtain ⟨v0, vs0, d0, ds0, p0, q0, hargs, rfl, rfl, h0, r0⟩ := trodAll_cons hA
  obtain ⟨v1, vs1, d1, ds1, p1, q1, rfl, rfl, rfl, h1, r1⟩ := trodAll_cons r0
  obtain ⟨rfl, rfl, rfl⟩ := trodAll_nil r1
  obtain rfl : args = #[v0, v1] := by cases args; simp_all
  obtain ⟨rfl, rfl⟩ := trodVars_none hV
  obtain ⟨i0, rfl, rfl, rfl⟩ := open_bool Tryd.underlying4 (hval 0 4 v0 rfl rfl) h0
  have w0 := trivial
  obtain ⟨a1, n1, cap1, rfl⟩ := okWide_slice Tryd.underlying25 (hval 1 25 v1 rfl rfl)
  have k1 := h1
  have lt1 : ∀ x ∈ p1, x.block < W.heap.size := by obtain ⟨m, hm⟩ := k1; exact DataW.trod_lt m _ _ _ hm
  obtain ⟨bs1, hn1, hc1, hs1, w1⟩ : ∃ bs, n1 = bs.length ∧ n1 ≤ cap1 ∧ Small bs ∧ BsAt W a1 bs (fun k => k < W.heap.size) := by
    obtain ⟨fuel, hf⟩ := h1
    exact bytes_of_trod hf
  have hT := tab_of_laid hL
  clear hA0 hval0
  refine (walk i0 a1 n1 cap1 bs1 W w0 hn1 hc1 hs1 w1 hT).mono fun e W' ⟨he, hoff⟩ => ?_
  have bel : Below W.heap.size W W' := hoff.below (Nat.le_refl _) (fun _ _ c => c)
  subst he
  exact ⟨_, rfl, _, _, _, [], _, [], hW', trodAll_mk1 (shut_bool Tryd.underlying4 _), (trodAll_cons_mk (shut_bool Tryd.underlying4 _) (trodAll_cons_mk (Below.trod laidOut (by kernel_rfl) (of_decide_eq_true (by kernel_rfl)) k1 bel lt1) trodAll_mk0)), rfl, bel.frame _, fun h => by cases h⟩

theorem over : Rows.chunksRoundTripRow.holds Tryd.pinned (OpenSpec.ofChange Rows.chunksRoundTripSpec) :=
  OpenClaim.holds_of_wide 6 Tryd.f6 rfl rfl rfl rfl rfl rfl rfl ⟨rfl, rfl, rfl, rfl, rfl⟩ rfl rfl rfl rfl rfl (by kernel_rfl) Tryd.func6 (by kernel_rfl)
    (of_decide_eq_true (by kernel_rfl)) (by unfold Func.isWrapper; first | (rw [if_pos (by decide +kernel)]; kernel_rfl) | (rw [if_neg (by decide +kernel)]; exact ⟨rfl, rfl⟩))
    (fun os started H enc _ => lifted os started H enc)

theorem proved : Rows.ChunksRoundTripCardSaid :=
  Claim7.holds_tied_plain_at .later [] [.data] true (true, "d8e20a016fafaace6175f6d9e5d60023c0e074faa7681e5f86b48efa10aad964") false
    over (fun _ h => by cases h) (by kernel_rfl) (fun _ h => by cases h) chunksRoundTrip_row_tie rfl ⟨rfl, rfl⟩ (by kernel_rfl) rfl
    (fun f fn hf hfn => by
      obtain rfl : f = 6 := Option.some.inj ((show Tryd.prog.funcNamed "sharecore/sharecorelaw13.ChunksRoundTrip" = some 6 by kernel_rfl).symm.trans hf) |>.symm
      obtain rfl : fn = Tryd.f6 := (Option.some.inj (Tryd.func6.symm.trans hfn)).symm
      exact ⟨by kernel_rfl, fun j t ht => by
        rw [Tryd.params6] at ht
        have hm : t ∈ [4, 25] := by simpa using Array.mem_of_getElem? ht
        have hall : ([4, 25].all fun u => !Tryd.prog.wantsStandIn u) = true := by kernel_rfl
        exact (show Tryd.prog.wantsStandIn t = false by simpa using List.all_eq_true.1 hall t hm)⟩)
    (by kernel_rfl)
#print axioms proved
end Go.Proofs.YtllhfkcgocbblaaDoor.chunksRoundTrip
