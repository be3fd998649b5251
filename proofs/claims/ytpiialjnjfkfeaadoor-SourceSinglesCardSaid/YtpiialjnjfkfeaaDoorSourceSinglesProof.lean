/-
  For every field and all bytes, the examples of the chapter hold, and Element returns five times the first one of Elements, or ErrRandom: the statement of P14.3 and P14.4. No condition.
-/
import Derived.Test.YtpiialjnjfkfeaaDoorRows
import Derived.Test.YtpiialjnjfkfeaaDoorTie
import Derived.Test.YtpiialjnjfkfeaaDoorCards
import Derived.LaidMore
import Derived.LaidHandle
import Derived.SevenTiedAt
import Derived.Stop.Joined
import Derived.JoinedOf
import Derived.Test.YtpiialjnjfkfeaaDoorLimbOpen
import Derived.Test.YtpiialjnjfkfeaaDoorFieldTab
import Derived.Test.YtpiialjnjfkfeaaDoorFieldHeld
import Derived.Test.YtpiialjnjfkfeaaDoorBytOpen
import Derived.Test.YtpiialjnjfkfeaaDoorSrcAlive
import Derived.Test.YtpiialjnjfkfeaaDoorSrcCat
import Derived.WalkKit
import Derived.ProofKit
import Derived.OpenShut
import Derived.ShutString
import Derived.ChangeOld
import Derived.Below
namespace Go.Proofs.YtpiialjnjfkfeaaDoor.sourceSingles
open Go.ChangeShapes Go.WideShapes Go.ChangeAt Go.RowKit
set_option linter.unusedVariables false

theorem own : ownKnob Tryd.prog.godebug = none := by kernel_rfl
theorem laidOut : laidOutB Tryd.prog = true := by kernel_rfl

theorem cells4z {w : World} {b : Nat} {T : TypeId} (h : w.heap[b]? = some (.cells #[.int .u64 0, .int .u64 0, .int .u64 0, .int .u64 0] T (0, 0))) : w.cell? ⟨b, 0, none⟩ = some (.int .u64 0) ∧ w.cell? ⟨b, 1, none⟩ = some (.int .u64 0) ∧ w.cell? ⟨b, 2, none⟩ = some (.int .u64 0) ∧ w.cell? ⟨b, 3, none⟩ = some (.int .u64 0) := ⟨cell_of_heap h 0, cell_of_heap h 1, cell_of_heap h 2, cell_of_heap h 3⟩
theorem one_ls {w : World} {b z : Nat} {T : TypeId} (h : w.heap[b]? = some (.cells #[.int .u64 (wd z 0 : Int), .int .u64 (wd z 1 : Int), .int .u64 (wd z 2 : Int), .int .u64 (wd z 3 : Int)] T (0, 0))) : Ls w (.slice (some ⟨b, 0, none⟩) 1 1) [z] := Ls.of_all (b := b) (T := T) (xs := [z]) h (by simp)
set_option maxRecDepth 100000 in
set_option maxHeartbeats 4000000 in
theorem walk (i0 : Bool) (a1 : Option Addr) (n1 cap1 : Nat) (bs1 : List Nat) (w : World) (w0 : True) (hn1 : n1 = bs1.length) (hc1 : n1 ≤ cap1) (hs1 : Small bs1) (w1 : BsAt w a1 bs1 (fun k => k < w.heap.size)) (hT : TabAt w) :
    Calls Tryd.prog 5 #[.bool i0, .slice a1 n1 cap1] w fun e w' => e = .returned (.bool true) ∧ Off (fun _ => False) w w' := by
  have FAL : Hid (∀ W, TabAt W → Calls Tryd.prog 9 #[] W fun e w' => e = .returned (.bool true) ∧ Off (fun _ => False) W w') := Lib.hid (fun W hT => alive14_any W hT)
  have HT := Lib.hid hT
  clear hT
  obtain ⟨id, p, i, r, s, hF, hid⟩ := fld_of i0
  have hp := hF.mp.lt
  have h1 := hF.mp.one
  have FG := Lib.hid (fun W hT => get14_any i0 hF hid W hT)
  clear hid
  by_cases hbig : 2000 < n1
  · have j1 : (2000 : Int) < (n1 : Int) := by omega
    have j2 : decide ((2000 : Int) < (n1 : Int)) = true := by simp; omega
    go_enter Tryd.func5, Tryd.ntmps5
    go_wp2_with fail
    refine (FAL.out _ HT.out).mono ?_
    rintro e u ⟨rfl, hO⟩
    have HOf := Lib.hid hO
    clear hO
    go_wp2
    go_ret
    exact ⟨rfl, HOf.out⟩
  · have j1 : ¬ (2000 : Int) < (n1 : Int) := by omega
    have j2 : decide ((2000 : Int) < (n1 : Int)) = false := by simp; omega
    have FN := Lib.hid (fun (W : World) (h : Off (fun _ => False) w W) => new_any a1 n1 cap1 bs1 _ W (w1.off h (fun _ _ _ c => c)) hn1 hc1 hs1 (by omega))
    have HF := Lib.hid hF
    have HB := Lib.hid (show bs1.length ≤ 2000 by omega)
    clear w1 hn1 hc1 hs1 hbig hF hp h1
    go_enter Tryd.func5, Tryd.ntmps5
    go_wp2_with fail
    refine (FG.out _ HT.out).mono ?_
    rintro e u0 ⟨rfl, hO⟩
    obtain ⟨W0, hW0⟩ : ∃ W0, W0 = ((u0.alloc (.cells #[.int .i64 id, .int .u64 (wd p 0 : Int), .int .u64 (wd p 1 : Int), .int .u64 (wd p 2 : Int), .int .u64 (wd p 3 : Int), .int .u64 (i : Int), .int .u64 (wd r 0 : Int), .int .u64 (wd r 1 : Int), .int .u64 (wd r 2 : Int), .int .u64 (wd r 3 : Int), .int .u64 (wd s 0 : Int), .int .u64 (wd s 1 : Int), .int .u64 (wd s 2 : Int), .int .u64 (wd s 3 : Int)] 42)).alloc (.cells #[.int .u64 (wd p 0 : Int), .int .u64 (wd p 1 : Int), .int .u64 (wd p 2 : Int), .int .u64 (wd p 3 : Int)] 39)) := ⟨_, rfl⟩
    have hs0 : W0.heap.size = u0.heap.size + 2 := by rw [hW0]; simp
    have hKf : W0.heap[u0.heap.size]? = some (.cells #[.int .i64 id, .int .u64 (wd p 0 : Int), .int .u64 (wd p 1 : Int), .int .u64 (wd p 2 : Int), .int .u64 (wd p 3 : Int), .int .u64 (i : Int), .int .u64 (wd r 0 : Int), .int .u64 (wd r 1 : Int), .int .u64 (wd r 2 : Int), .int .u64 (wd r 3 : Int), .int .u64 (wd s 0 : Int), .int .u64 (wd s 1 : Int), .int .u64 (wd s 2 : Int), .int .u64 (wd s 3 : Int)] 42) := by rw [hW0]; exact heap_old' (heap_new' rfl _) _
    have hKp : W0.heap[u0.heap.size + 1]? = some (.cells #[.int .u64 (wd p 0 : Int), .int .u64 (wd p 1 : Int), .int .u64 (wd p 2 : Int), .int .u64 (wd p 3 : Int)] 39) := by rw [hW0]; exact heap_new' (by simp) _
    have HO0 := Lib.hid (show Off (fun _ => False) w W0 by rw [hW0]; exact hO.trans (((Off.refl (fun _ => False) u0).alloc _).alloc _) (fun _ _ c => c))
    have HW0 := Lib.hid hW0
    have HS0 := Lib.hid hs0
    have HKF := Lib.hid hKf
    have HKP := Lib.hid hKp
    clear hO hW0 hs0 hKf hKp FG
    go_wp2_with fail
    rw [← HW0.out]
    refine (FN.out _ HO0.out).mono ?_
    rintro e u1 ⟨b1, S1, rfl, hP, hS, hO⟩
    have HP1 := Lib.hid hP
    have HS1 := Lib.hid hS
    have HO1 := Lib.hid hO
    clear hP hS hO
    go_wp2_with fail
    refine (FN.out _ (HO0.out.trans HO1.out (fun _ _ c => c))).mono ?_
    rintro e u2 ⟨b2, S2, rfl, hP, hS, hO⟩
    have HP2 := Lib.hid (HP1.out.keep hO)
    have HQ2 := Lib.hid hP
    have HD := Lib.hid (show (∀ j, S1 j → S2 j → False) ∧ (∀ j, S1 j → W0.heap.size ≤ j) ∧ (∀ j, S2 j → W0.heap.size ≤ j) ∧ S1 b1 ∧ S2 b2 from ⟨fun j h1 h2 => (by have := HP1.out.lt j h1; have := hS j h2; omega), HS1.out, fun j h => (by have := hS j h; have := HO1.out.size; omega), hP.mem |> fun _ => HP1.out.mem, hP.mem⟩)
    have HO2 := Lib.hid (HO1.out.trans hO (fun _ _ c => c))
    clear hP hS hO FN HP1 HO1 HS1
    go_wp2_with fail
    go_loopw [32] (fun i wr => ∃ (k : Nat) (rs : List Nat), k ≤ 5 ∧ i = .int .i64 (k : Int) ∧ rs.length ≤ 2000 ∧ SrcP wr b1 rs S1 ∧ SrcP wr b2 rs S2 ∧ Off (fun _ => False) W0 wr) (fun i _ => 5 - (intOf i).toNat)
    case atStart => exact ⟨0, bs1, Nat.zero_le _, rfl, HB.out, HP2.out, HQ2.out, HO2.out⟩
    case round =>
      clear HP2 HQ2 HO2
      obtain ⟨k, rs, hk, rfl, hrl, hPs, hQs, hO⟩ := hrel
      by_cases hlt : k < 5
      · have i1 : (k : Int) < 5 := by omega
        have w2 : IntKind.i64.wrap ((k : Int) + 1) = (k : Int) + 1 := by rw [IntKind.wrap_i64]; omega
        have FE := Lib.hid (elem_any HF.out b1 rs S1 wr hPs (by omega))
        have FL := Lib.hid (fun (W : World) (h : Off (fun _ => False) wr W → True) (hq : SrcP W b2 rs S2) => els_any HF.out b2 rs S2 1 (by decide) W hq (by omega))
        have HO := Lib.hid hO
        have HQs := Lib.hid hQs
        clear hPs hQs hO
        obtain ⟨f0, f1, f2, f3, f4, f5, f6, f7, f8, f9, f10, f11, f12, f13⟩ := fv_cells (HO.out.heap HKF.out (fun c => c))
        have hltf := heap_lt (HO.out.heap HKF.out (fun c => c))
        by_cases h64 : 64 ≤ rs.length
        · rw [show elemV rs = (elB rs 0, 0, rs.drop 64) by unfold elemV; rw [if_pos h64]] at FE
          rw [(elemV_elems rs).1 h64] at FL
          have HRl := Lib.hid (show (rs.drop 64).length ≤ 2000 by rw [List.length_drop]; omega)
          obtain ⟨rs1, hrs1⟩ : ∃ rs1, rs1 = rs.drop 64 := ⟨_, rfl⟩
          obtain ⟨y, hy⟩ : ∃ y, y = fm p (elB rs 0) := ⟨_, rfl⟩
          have hm1 : [elB rs 0].map (fm p) = [y] := by rw [hy]; rfl
          dsimp only at FE FL
          rw [hm1] at FL
          rw [← hrs1] at FE FL HRl
          rw [← hy] at FE
          clear hm1 hy hrs1 h64 hrl
          go_wp2_with fail
          refine FE.out.mono ?_
          rintro e u3 ⟨rfl, hP3, hO3⟩
          obtain ⟨W3, hW3⟩ : ∃ W3, W3 = u3.alloc (.cells #[.int .u64 (wd y 0 : Int), .int .u64 (wd y 1 : Int), .int .u64 (wd y 2 : Int), .int .u64 (wd y 3 : Int)] 40) := ⟨_, rfl⟩
          have hA3 : Off (fun _ => False) u3 W3 := by rw [hW3]; exact (Off.refl _ u3).alloc _
          have g3 : W3.heap[u3.heap.size]? = some (.cells #[.int .u64 (wd y 0 : Int), .int .u64 (wd y 1 : Int), .int .u64 (wd y 2 : Int), .int .u64 (wd y 3 : Int)] 40) := by rw [hW3]; exact heap_new' rfl _
          have HP3 := Lib.hid (hP3.keep hA3)
          have HQ3 := Lib.hid ((HQs.out.off hO3 (fun j _ h e => HD.out.1 j (e ▸ HD.out.2.2.2.1) h)).keep hA3)
          have HO3 := Lib.hid ((HO.out.trans hO3 (fun j hj e => by have := HD.out.2.1 b1 HD.out.2.2.2.1; omega)).trans hA3 (fun _ _ c => c))
          have HG3 := Lib.hid g3
          have HW3 := Lib.hid hW3
          have HX3 := Lib.hid (show u3.heap.size ≠ b2 ∧ u3.heap.size + 1 = W3.heap.size by
            refine ⟨?_, by rw [hW3]; simp⟩
            intro e
            have := (HQs.out.off hO3 (fun j _ h e => HD.out.1 j (e ▸ HD.out.2.2.2.1) h)).lt b2 HD.out.2.2.2.2
            omega)
          have hf3 := HO3.out.heap HKF.out (fun c => c)
          rw [HW3.out] at hf3
          clear f0 f1 f2 f3 f4 f5 f6 f7 f8 f9 f10 f11 f12 f13 hltf hP3 hO3 hA3 g3 hW3 FE HQs
          obtain ⟨f0, f1, f2, f3, f4, f5, f6, f7, f8, f9, f10, f11, f12, f13⟩ := fv_cells hf3
          have hltf := heap_lt hf3
          clear hf3
          go_wp2_with fail
          rw [← HW3.out]
          refine (FL.out _ (fun _ => trivial) HQ3.out).mono ?_
          rintro e u4 ⟨lv, rfl, hl4, hQ4, hO4⟩
          have HP4 := Lib.hid (HP3.out.off hO4 (fun j _ h e => HD.out.1 j h (e ▸ HD.out.2.2.2.2)))
          have HQ4 := Lib.hid hQ4
          have HO4 := Lib.hid (HO3.out.trans hO4 (fun j hj e => by have := HD.out.2.2.1 b2 HD.out.2.2.2.2; omega))
          have HG4 := Lib.hid (hO4.heap HG3.out HX3.out.1)
          have HL4 := Lib.hid (Ls.of hl4)
          clear f0 f1 f2 f3 f4 f5 f6 f7 f8 f9 f10 f11 f12 f13 hltf hl4 hQ4 hO4 FL
          go_wp2_with fail
          refine (left_any b1 _ S1 _ HP4.out).mono ?_
          rintro e u5 ⟨rfl, hO5⟩
          have HP5 := Lib.hid (HP4.out.keep hO5)
          have HQ5 := Lib.hid (HQ4.out.keep hO5)
          have HO5 := Lib.hid (HO4.out.trans hO5 (fun _ _ c => c))
          have HG5 := Lib.hid (hO5.heap HG4.out (fun c => c))
          have HL5 := Lib.hid (HL4.out.off hO5)
          clear hO5
          go_wp2_with fail
          refine (left_any b2 _ S2 _ HQ5.out).mono ?_
          rintro e u6 ⟨rfl, hO6⟩
          have HP6 := Lib.hid (HP5.out.keep hO6)
          have HQ6 := Lib.hid (HQ5.out.keep hO6)
          have HO6 := Lib.hid (HO5.out.trans hO6 (fun _ _ c => c))
          have hG6 := hO6.heap HG5.out (fun c => c)
          have HL6 := Lib.hid (HL5.out.off hO6)
          obtain ⟨x0, x1, x2, x3⟩ := cells4 hG6
          have hlx := heap_lt hG6
          clear hO6 hG6
          have k1 : ((rs1.length : Int) != (rs1.length : Int)) = false := by simp
          go_wp2_with fail
          refine (eleq_any [y] _ _ _ (HL6.out.off ((Off.refl _ u6).alloc _)) (one_ls (heap_new' rfl _))).mono ?_
          rintro e u7 ⟨rfl, hO7⟩
          have HO76 := ((Off.refl (fun _ => False) u6).alloc _).trans hO7 (fun _ _ c => c)
          have HP7 := Lib.hid (HP6.out.keep HO76)
          have HQ7 := Lib.hid (HQ6.out.keep HO76)
          have HO7 := Lib.hid (HO6.out.trans HO76 (fun _ _ c => c))
          clear HO76 hO7 x0 x1 x2 x3 hlx
          go_wp2
          go_roundw
          case rel => exact ⟨k + 1, rs1, by omega, by simp, HRl.out, HP7.out, HQ7.out, HO7.out⟩
          case measure => simp [intOf]; omega
        · rw [show elemV rs = (0, 7, rs) by unfold elemV; rw [if_neg h64]] at FE
          rw [(elemV_elems rs).2 h64] at FL
          have hz : V (fm p 0) = .agg #[.int .u64 0, .int .u64 0, .int .u64 0, .int .u64 0] := by
            rw [show fm p 0 = 0 by simp [fm]]
            exact lit_small 0 (by decide)
          dsimp only at FE FL
          rw [hz] at FE
          have HRl := Lib.hid hrl
          clear hz h64 hrl
          go_wp2_with fail
          refine FE.out.mono ?_
          rintro e u3 ⟨rfl, hP3, hO3⟩
          obtain ⟨W3, hW3⟩ : ∃ W3, W3 = u3.alloc (.cells #[.int .u64 0, .int .u64 0, .int .u64 0, .int .u64 0] 40) := ⟨_, rfl⟩
          have hA3 : Off (fun _ => False) u3 W3 := by rw [hW3]; exact (Off.refl _ u3).alloc _
          have g3 : W3.heap[u3.heap.size]? = some (.cells #[.int .u64 0, .int .u64 0, .int .u64 0, .int .u64 0] 40) := by rw [hW3]; exact heap_new' rfl _
          have HP3 := Lib.hid (hP3.keep hA3)
          have HQ3 := Lib.hid ((HQs.out.off hO3 (fun j _ h e => HD.out.1 j (e ▸ HD.out.2.2.2.1) h)).keep hA3)
          have HX3 := Lib.hid (show u3.heap.size ≠ b2 by
            intro e
            have := (HQs.out.off hO3 (fun j _ h e => HD.out.1 j (e ▸ HD.out.2.2.2.1) h)).lt b2 HD.out.2.2.2.2
            omega)
          have HO3 := Lib.hid ((HO.out.trans hO3 (fun j hj e => by have := HD.out.2.1 b1 HD.out.2.2.2.1; omega)).trans hA3 (fun _ _ c => c))
          have HG3 := Lib.hid g3
          have HW3 := Lib.hid hW3
          have hf3 := HO3.out.heap HKF.out (fun c => c)
          rw [HW3.out] at hf3
          clear f0 f1 f2 f3 f4 f5 f6 f7 f8 f9 f10 f11 f12 f13 hltf hP3 hO3 hA3 g3 hW3 FE HQs
          obtain ⟨f0, f1, f2, f3, f4, f5, f6, f7, f8, f9, f10, f11, f12, f13⟩ := fv_cells hf3
          have hltf := heap_lt hf3
          clear hf3
          go_wp2_with fail
          rw [← HW3.out]
          refine (FL.out _ (fun _ => trivial) HQ3.out).mono ?_
          rintro e u4 ⟨lv, rfl, hl4, hQ4, hO4⟩
          have HP4 := Lib.hid (HP3.out.off hO4 (fun j _ h e => HD.out.1 j h (e ▸ HD.out.2.2.2.2)))
          have HQ4 := Lib.hid hQ4
          have HO4 := Lib.hid (HO3.out.trans hO4 (fun j hj e => by have := HD.out.2.2.1 b2 HD.out.2.2.2.2; omega))
          have HG4 := Lib.hid (hO4.heap HG3.out HX3.out)
          clear f0 f1 f2 f3 f4 f5 f6 f7 f8 f9 f10 f11 f12 f13 hltf hl4 hQ4 hO4 FL
          go_wp2_with fail
          refine (left_any b1 _ S1 _ HP4.out).mono ?_
          rintro e u5 ⟨rfl, hO5⟩
          have HP5 := Lib.hid (HP4.out.keep hO5)
          have HQ5 := Lib.hid (HQ4.out.keep hO5)
          have HO5 := Lib.hid (HO4.out.trans hO5 (fun _ _ c => c))
          have HG5 := Lib.hid (hO5.heap HG4.out (fun c => c))
          clear hO5
          go_wp2_with fail
          refine (left_any b2 _ S2 _ HQ5.out).mono ?_
          rintro e u6 ⟨rfl, hO6⟩
          have HP6 := Lib.hid (HP5.out.keep hO6)
          have HQ6 := Lib.hid (HQ5.out.keep hO6)
          have HO6 := Lib.hid (HO5.out.trans hO6 (fun _ _ c => c))
          have hG6 := hO6.heap HG5.out (fun c => c)
          obtain ⟨x0, x1, x2, x3⟩ := cells4z hG6
          have hlx := heap_lt hG6
          clear hO6 hG6
          have k1 : ((rs.length : Int) != (rs.length : Int)) = false := by simp
          have e1 : ∀ W, (Op.equalIn 10000 40 (.agg #[.int .u64 0, .int .u64 0, .int .u64 0, .int .u64 0]) (.agg #[.int .u64 0, .int .u64 0, .int .u64 0, .int .u64 0])).run Tryd.prog W = .ok true W := fun W => by
            have h := equalIn_elem_same 0 W
            rw [lit_small 0 (by decide)] at h
            exact h
          go_wp2
          go_roundw
          case rel => exact ⟨k + 1, rs, by omega, by simp, HRl.out, HP6.out, HQ6.out, HO6.out⟩
          case measure => simp [intOf]; omega
      · obtain rfl : k = 5 := by omega
        have HO := Lib.hid hO
        clear hPs hQs hO
        go_wp2_with fail
        refine (FAL.out _ (HT.out.off (HO0.out.trans HO.out (fun _ _ c => c)))).mono ?_
        rintro e u ⟨rfl, hOf⟩
        have HOf := Lib.hid (HO.out.trans hOf (fun _ _ c => c))
        clear hOf
        go_wp2
        go_ret
        exact ⟨rfl, HO0.out.trans HOf.out (fun _ _ c => c)⟩

theorem door_met (os : Os) (args : Array Value) : laidMetH Tryd.prog [("sharecore/field.fields", Rows.laid_sharecore_field_fields)] ((World.doorLaid Tryd.prog 400 os).forCall (fun _ _ => 0) ⟨#[], args, []⟩).memory :=
  laidMetH_of_parts3 (fuel := 8) (laidMet_of_run' 8 (by kernel_rfl) (by kernel_rfl)) (by kernel_rfl) (by kernel_rfl)

set_option maxRecDepth 100000 in
theorem lifted (os : Os) (started : os.Started) (H : Type) (enc : TypeId × Value → H) :
    ReturnsInHanded {} Tryd.checked os 5 .any (fun w args => (Rows.sourceSinglesSpec.pre enc Tryd.prog Tryd.f5 [] false w args ∧ laidMetH Tryd.prog [("sharecore/field.fields", Rows.laid_sharecore_field_fields)] w) ∧ sizedMet enc Tryd.prog Tryd.f5 (OpenSpec.ofChange Rows.sourceSinglesSpec) false w args)
      (Rows.sourceSinglesSpec.post enc Tryd.prog Tryd.f5 false true false false) := by
  refine returnsInHanded_of_change_and (C := Tryd.checked) (X := fun w _ => laidMetH Tryd.prog [("sharecore/field.fields", Rows.laid_sharecore_field_fields)] w) (fun _ _ _ hh h => h.of_heap hh) own started (by kernel_rfl) Tryd.func5
    (ChangeSpec.witness_shaped (enc := enc) (C := Tryd.checked) (os := os) (X := fun w _ => laidMetH Tryd.prog [("sharecore/field.fields", Rows.laid_sharecore_field_fields)] w) false (World.doorLaid Tryd.prog 400 os) #[.bool false, .slice none 0 0] 8 rfl (World.shaped_of_RefB (by kernel_rfl) (by kernel_rfl)) (by kernel_rfl) (by kernel_rfl) (by kernel_rfl) (door_met os _)) ?_
  intro W base args ds gs before hval0 hW _ hsz hL _
  have hval : ∀ (j : Nat) t v, Tryd.f5.params[j]? = some t → args[j]? = some v → Value.okWide Tryd.prog W .any base t v := hval0
  have hW' := hW
  obtain ⟨p, q, hA0, hV, rfl, hfz, hnd⟩ := hW
  have hA : DataW.TrodAll enc Tryd.prog W 0 (fun _ => true) true Tryd.f5.params.toList args.toList ds p := hA0
  rw [Tryd.params5] at hA hval
  obtain ⟨v0, vs0, d0, ds0, p0, q0, hargs, rfl, rfl, h0, r0⟩ := trodAll_cons hA
  obtain ⟨v1, vs1, d1, ds1, p1, q1, rfl, rfl, rfl, h1, r1⟩ := trodAll_cons r0
  obtain ⟨rfl, rfl, rfl⟩ := trodAll_nil r1
  obtain rfl : args = #[v0, v1] := by cases args; simp_all
  obtain ⟨rfl, rfl⟩ := trodVars_none hV
  obtain ⟨i0, rfl, rfl, rfl⟩ := open_bool Tryd.underlying4 (hval 0 4 v0 rfl rfl) h0
  have w0 := trivial
  obtain ⟨a1, n1, cap1, rfl⟩ := okWide_slice Tryd.underlying22 (hval 1 22 v1 rfl rfl)
  have k1 := h1
  have lt1 : ∀ x ∈ p1, x.block < W.heap.size := by obtain ⟨m, hm⟩ := k1; exact DataW.trod_lt m _ _ _ hm
  obtain ⟨bs1, hn1, hc1, hs1, w1⟩ : ∃ bs, n1 = bs.length ∧ n1 ≤ cap1 ∧ Small bs ∧ BsAt W a1 bs (fun k => k < W.heap.size) := by
    obtain ⟨fuel, hf⟩ := h1
    exact bytes_of_trod hf
  have hT := tab_of_laid hL
  clear hA0 hval0
  refine (walk i0 a1 n1 cap1 bs1 W w0 hn1 hc1 hs1 w1 hT).mono fun e W' ⟨he, hoff⟩ => ?_
  have bel : Below W.heap.size W W' := hoff.below (Nat.le_refl _) (fun _ _ c => c)
  subst he
  exact ⟨_, rfl, _, _, _, [], _, [], hW', trodAll_mk1 (shut_bool Tryd.underlying4 _), (trodAll_cons_mk (shut_bool Tryd.underlying4 _) (trodAll_cons_mk (Below.trod laidOut (by kernel_rfl) (of_decide_eq_true (by kernel_rfl)) k1 bel lt1) trodAll_mk0)), rfl, bel.frame _, fun h => by cases h⟩

theorem over : Rows.sourceSinglesRow.holds Tryd.pinned (OpenSpec.ofChange Rows.sourceSinglesSpec) :=
  OpenClaim.holds_of_wide 5 Tryd.f5 rfl rfl rfl rfl rfl rfl rfl ⟨rfl, rfl, rfl, rfl, rfl⟩ rfl rfl rfl rfl rfl (by kernel_rfl) Tryd.func5 (by kernel_rfl)
    (of_decide_eq_true (by kernel_rfl)) (by unfold Func.isWrapper; first | (rw [if_pos (by decide +kernel)]; kernel_rfl) | (rw [if_neg (by decide +kernel)]; exact ⟨rfl, rfl⟩))
    (fun os started H enc _ => lifted os started H enc)

theorem proved : Rows.SourceSinglesCardSaid :=
  Claim7.holds_tied_plain_at .later [] [.data] true (true, "6f64277cbffadd23f4f09293482bc941ab7d4d501c3abca4f435855ccbd2f86e") false
    over (fun _ h => by cases h) (by kernel_rfl) (fun _ h => by cases h) sourceSingles_row_tie rfl ⟨rfl, rfl⟩ (by kernel_rfl) rfl
    (fun f fn hf hfn => by
      obtain rfl : f = 5 := Option.some.inj ((show Tryd.prog.funcNamed "sharecore/sharecorelaw14.SourceSingles" = some 5 by kernel_rfl).symm.trans hf) |>.symm
      obtain rfl : fn = Tryd.f5 := (Option.some.inj (Tryd.func5.symm.trans hfn)).symm
      exact ⟨by kernel_rfl, fun j t ht => by
        rw [Tryd.params5] at ht
        have hm : t ∈ [4, 22] := by simpa using Array.mem_of_getElem? ht
        have hall : ([4, 22].all fun u => !Tryd.prog.wantsStandIn u) = true := by kernel_rfl
        exact (show Tryd.prog.wantsStandIn t = false by simpa using List.all_eq_true.1 hall t hm)⟩)
    (by kernel_rfl)
#print axioms proved
end Go.Proofs.YtpiialjnjfkfeaaDoor.sourceSingles
