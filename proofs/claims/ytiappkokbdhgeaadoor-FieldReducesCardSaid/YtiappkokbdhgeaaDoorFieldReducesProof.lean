/-
  For every field and two numbers, the examples of the chapter hold, and Subtract of the sum of the numbers modulo p, with its carry, is their sum modulo p and less than p: the statement of P4.1 to P4.4. No condition.
-/
import Derived.Test.YtiappkokbdhgeaaDoorRows
import Derived.Test.YtiappkokbdhgeaaDoorTie
import Derived.Test.YtiappkokbdhgeaaDoorCards
import Derived.LaidMore
import Derived.LaidHandle
import Derived.SevenTiedAt
import Derived.Stop.Joined
import Derived.JoinedOf
import Derived.Test.YtiappkokbdhgeaaDoorLimbOpen
import Derived.Test.YtiappkokbdhgeaaDoorFieldTab
import Derived.Test.YtiappkokbdhgeaaDoorFieldHeld
import Derived.Test.YtiappkokbdhgeaaDoorFieldOps
import Derived.Test.YtiappkokbdhgeaaDoorFieldAll
import Derived.Test.YtiappkokbdhgeaaDoorPrimes
import Derived.Test.YtiappkokbdhgeaaDoorRegs
import Derived.WalkKit
import Derived.ProofKit
import Derived.OpenShut
import Derived.ShutString
import Derived.ChangeOld
import Derived.Below
namespace Go.Proofs.YtiappkokbdhgeaaDoor.fieldReduces
open Go.ChangeShapes Go.WideShapes Go.ChangeAt Go.RowKit
set_option linter.unusedVariables false

theorem own : ownKnob Tryd.prog.godebug = none := by kernel_rfl
theorem laidOut : laidOutB Tryd.prog = true := by kernel_rfl

theorem red_at (n : Int) (hn : n = 1 ∨ n = 2) : ∃ p, p < R256 ∧ 1 < p ∧ modN n = p := by
  rcases hn with rfl | rfl
  · exact ⟨P1, p1_lt, p1_one, rfl⟩
  · exact ⟨P2, p2_lt, p2_one, rfl⟩
set_option maxHeartbeats 4000000 in
theorem walk (i0 : Bool) (n1 : Nat) (n2 : Nat) (w : World) (w0 : True) (w1 : n1 < R256) (w2 : n2 < R256) (hT : TabAt w) :
    Calls Tryd.prog 6 #[.bool i0, V n1, V n2] w fun e w' => e = .returned (.bool true) ∧ Off (fun _ => False) w w' := by
  cases i0
  · obtain ⟨p, hp, h1, hm⟩ := red_at 1 (by omega)
    have F1 := Lib.hid (fun W hT => fget_in 1 p hp h1 hm W hT)
    have FM := Lib.hid (fun W => by have h := mod_modulus 1 W; rw [hm] at h; exact h)
    have qA := fun W (_ : TabAt W) => mod_mod p n1 hp h1 w1 W
    have qB := fun W (_ : TabAt W) => mod_mod p n2 hp h1 w2 W
    obtain ⟨x, hx⟩ : ∃ x, x = n1 % p := ⟨_, rfl⟩
    obtain ⟨y, hy⟩ : ∃ y, y = n2 % p := ⟨_, rfl⟩
    have hxp : x < p := by rw [hx]; exact Nat.mod_lt _ (by omega)
    have hyp : y < p := by rw [hy]; exact Nat.mod_lt _ (by omega)
    rw [← hx] at qA
    rw [← hy] at qB
    have qS := fun W => refadd_any x y (by omega) (by omega) W
    have qR := fun W (_ : TabAt W) => mod_add p x y hp hxp hyp W
    have hcw : Word (((x + y) / R256 : Nat) : Int) := word_cast (by have : (x + y) / R256 ≤ x + y := Nat.div_le_self _ _; unfold R256 W64 at *; simp only [Nat.reducePow] at *; omega)
    obtain ⟨i, hi⟩ : ∃ i, i = negInv (wd p 0) := ⟨_, rfl⟩
    obtain ⟨s, hs⟩ : ∃ s, s = radV p 256 * radV p 256 % p := ⟨_, rfl⟩
    obtain ⟨r, hr⟩ : ∃ r, r = radV p 256 := ⟨_, rfl⟩
    rw [← hi, ← hs, ← hr] at F1
    have qT := fun W => subtract_any 1 p i r s ((x + y) % R256) _ hp (Nat.mod_lt _ r256_pos) hcw W
    simp only [redV_mod hp hxp hyp, V_mod] at qT
    have qC := fun W (_ : TabAt W) => contains_any 1 p i r s ((x + y) % p) hp (Nat.lt_trans (Nat.mod_lt _ (by omega)) hp) W
    rw [show mk (lessN ((x + y) % p) p) = 18446744073709551615 by unfold lessN; rw [decide_eq_true (Nat.mod_lt _ (by omega))]; rfl] at qC
    obtain ⟨g, hg⟩ : ∃ g, g = (x + y) % p := ⟨_, rfl⟩
    obtain ⟨c, hc⟩ : ∃ c, c = (x + y) / R256 := ⟨_, rfl⟩
    obtain ⟨t, ht⟩ : ∃ t, t = x + y := ⟨_, rfl⟩
    simp only [← hg, ← hc] at qT qC qR qS
    simp only [← ht] at qT qS
    have FA := Lib.hid qA
    have FB := Lib.hid qB
    have FS := Lib.hid qS
    have FT := Lib.hid qT
    have FR := Lib.hid qR
    have FC := Lib.hid qC
    have e1 := equalIn_same
    clear qA qB qS qT qR qC hp h1 hm hx hy hxp hyp hi hs hr hcw hg hc ht w0 w1 w2
    go_enter Tryd.func6, Tryd.ntmps6
    go_wp2_with fail
    refine (F1.out _ (hT.off (((Off.refl _ w).alloc _).alloc _))).mono ?_
    rintro e u1 ⟨rfl, hO1⟩
    have HA := Lib.hid (show NumAt u1 w.heap.size n1 from hO1.heap (heap_old' (heap_new' rfl _) _) (fun c => c))
    have HB := Lib.hid (show NumAt u1 (w.heap.size + 1) n2 from hO1.heap (heap_new' (by simp) _) (fun c => c))
    have HO1 := Lib.hid ((((Off.refl _ w).alloc _).alloc _).trans hO1 (fun _ _ c => c))
    have HT := Lib.hid hT
    clear hO1 hT
    go_wp2_with fail
    refine (FM.out _).mono ?_
    rintro e u2 ⟨rfl, hO2⟩
    have HF := Lib.hid (show u2.heap[u1.heap.size]? = some (.cells #[.int .i64 1, .int .u64 (wd p 0 : Int), .int .u64 (wd p 1 : Int), .int .u64 (wd p 2 : Int), .int .u64 (wd p 3 : Int), .int .u64 (i : Int), .int .u64 (wd r 0 : Int), .int .u64 (wd r 1 : Int), .int .u64 (wd r 2 : Int), .int .u64 (wd r 3 : Int), .int .u64 (wd s 0 : Int), .int .u64 (wd s 1 : Int), .int .u64 (wd s 2 : Int), .int .u64 (wd s 3 : Int)] 26 (0, 0)) from hO2.heap (heap_new' rfl _) (fun c => c))
    have HO2' := Lib.hid (((Off.refl _ u1).alloc _).trans hO2 (fun _ _ c => c))
    obtain ⟨W0, hW0⟩ : ∃ W0, W0 = u2.alloc (.cells #[.int .u64 (wd p 0 : Int), .int .u64 (wd p 1 : Int), .int .u64 (wd p 2 : Int), .int .u64 (wd p 3 : Int)] 23) := ⟨_, rfl⟩
    have hO3 : Off (fun _ => False) u2 W0 := by rw [hW0]; exact (Off.refl _ u2).alloc _
    have HP := Lib.hid (show NumAt W0 u2.heap.size p by rw [hW0]; exact heap_new' rfl _)
    have HA0 := Lib.hid (show NumAt W0 w.heap.size n1 from hO3.heap (HO2'.out.heap HA.out (fun c => c)) (fun c => c))
    have HB0 := Lib.hid (show NumAt W0 (w.heap.size + 1) n2 from hO3.heap (HO2'.out.heap HB.out (fun c => c)) (fun c => c))
    have HF0 := Lib.hid (hO3.heap HF.out (fun c => c))
    have HO0 := Lib.hid ((HO1.out.trans HO2'.out (fun _ _ c => c)).trans hO3 (fun _ _ c => c))
    have HT0 := Lib.hid (HT.out.off HO0.out)
    have HK : Hid (∀ W, Off (fun _ => False) W0 W → (W.cell? ⟨u2.heap.size, 0, none⟩ = some (.int .u64 (wd p 0 : Int)) ∧ W.cell? ⟨u2.heap.size, 1, none⟩ = some (.int .u64 (wd p 1 : Int)) ∧ W.cell? ⟨u2.heap.size, 2, none⟩ = some (.int .u64 (wd p 2 : Int)) ∧ W.cell? ⟨u2.heap.size, 3, none⟩ = some (.int .u64 (wd p 3 : Int))) ∧ (W.cell? ⟨w.heap.size, 0, none⟩ = some (.int .u64 (wd n1 0 : Int)) ∧ W.cell? ⟨w.heap.size, 1, none⟩ = some (.int .u64 (wd n1 1 : Int)) ∧ W.cell? ⟨w.heap.size, 2, none⟩ = some (.int .u64 (wd n1 2 : Int)) ∧ W.cell? ⟨w.heap.size, 3, none⟩ = some (.int .u64 (wd n1 3 : Int))) ∧ (W.cell? ⟨w.heap.size + 1, 0, none⟩ = some (.int .u64 (wd n2 0 : Int)) ∧ W.cell? ⟨w.heap.size + 1, 1, none⟩ = some (.int .u64 (wd n2 1 : Int)) ∧ W.cell? ⟨w.heap.size + 1, 2, none⟩ = some (.int .u64 (wd n2 2 : Int)) ∧ W.cell? ⟨w.heap.size + 1, 3, none⟩ = some (.int .u64 (wd n2 3 : Int))) ∧ Off (fun _ => False) W0 W) := Lib.hid (fun W h => ⟨Four.off HP.out.four h, Four.off HA0.out.four h, Four.off HB0.out.four h, h⟩)
    have HW0 := Lib.hid hW0
    clear hO2 hO3 hW0 HA HB HF HO1 HO2' HT
    go_upto_region 6 with fail
    rw [← HW0.out]
    go_cut [11, 12] from 24 to 29 (fun s11 s12 wx => ∃ b c, s11 = .pointer (some ⟨b, 0, none⟩) ∧ s12 = .pointer (some ⟨c, 0, none⟩) ∧ NumAt wx b x ∧ NumAt wx c y ∧ Off (fun _ => False) W0 wx)
    case first =>
      have hS := HK.out W0.drew (Off.refl _ W0).drew
      have hO9 := hS.2.2.2
      have hO10 := Off.refl (fun _ => False) W0
      go_region_held3 (fun w' => (w'.cell? ⟨u2.heap.size, 0, none⟩ = some (.int .u64 (wd p 0 : Int)) ∧ w'.cell? ⟨u2.heap.size, 1, none⟩ = some (.int .u64 (wd p 1 : Int)) ∧ w'.cell? ⟨u2.heap.size, 2, none⟩ = some (.int .u64 (wd p 2 : Int)) ∧ w'.cell? ⟨u2.heap.size, 3, none⟩ = some (.int .u64 (wd p 3 : Int))) ∧ (w'.cell? ⟨w.heap.size, 0, none⟩ = some (.int .u64 (wd n1 0 : Int)) ∧ w'.cell? ⟨w.heap.size, 1, none⟩ = some (.int .u64 (wd n1 1 : Int)) ∧ w'.cell? ⟨w.heap.size, 2, none⟩ = some (.int .u64 (wd n1 2 : Int)) ∧ w'.cell? ⟨w.heap.size, 3, none⟩ = some (.int .u64 (wd n1 3 : Int))) ∧ (w'.cell? ⟨w.heap.size + 1, 0, none⟩ = some (.int .u64 (wd n2 0 : Int)) ∧ w'.cell? ⟨w.heap.size + 1, 1, none⟩ = some (.int .u64 (wd n2 1 : Int)) ∧ w'.cell? ⟨w.heap.size + 1, 2, none⟩ = some (.int .u64 (wd n2 2 : Int)) ∧ w'.cell? ⟨w.heap.size + 1, 3, none⟩ = some (.int .u64 (wd n2 3 : Int))) ∧ Off (fun _ => False) W0 w')
        ((refine HK.out _ ?_; repeat' (first | with_reducible assumption | with_reducible refine Off.drew ?_ | with_reducible refine Off.alloc ?_ _ | with_reducible refine Off.store ?_ (by omega) _ _)))
        (first
          | (go_at_call_of 18 (Value.agg #[.int .u64 (wd n1 0 : Int), .int .u64 (wd n1 1 : Int), .int .u64 (wd n1 2 : Int), .int .u64 (wd n1 3 : Int)]); refine (held_w HT0.out FA.out (by repeat' (first | with_reducible assumption | with_reducible refine Off.drew ?_ | with_reducible refine Off.alloc ?_ _ | with_reducible refine Off.store ?_ (by omega) _ _))).mono ?_; rintro e u3 ⟨rfl, hO9, hOW⟩; (try (with_reducible have hOW := Off.undrew hOW)); (first | (with_reducible have q1 := zn1 hOW; with_reducible have q2 := zn2 hOW; have HN1 := Lib.hid q1; have HN2 := Lib.hid q2; clear q1 q2) | (with_reducible have q1 := zn hOW; have HN1 := Lib.hid q1; have l13 := heap_lt q1; have n13 := Nat.ne_of_lt l13; have n31 := Nat.ne_of_gt l13; clear q1) | (with_reducible have q9 : Off (fun _ => False) W0 u3 := hOW; clear q9) | exact hOW); have hS := HK.out _ hO9; have z3 := hO9.size)
          | (go_at_call_of 18 (Value.agg #[.int .u64 (wd n2 0 : Int), .int .u64 (wd n2 1 : Int), .int .u64 (wd n2 2 : Int), .int .u64 (wd n2 3 : Int)]); refine (held_w HT0.out FB.out (by repeat' (first | with_reducible assumption | with_reducible refine Off.drew ?_ | with_reducible refine Off.alloc ?_ _ | with_reducible refine Off.store ?_ (by omega) _ _))).mono ?_; rintro e u4 ⟨rfl, hO9, hOW⟩; (first | (with_reducible have q3 := zn1 hOW; with_reducible have q4 := zn2 hOW; have HM3 := Lib.hid q3; have hM := four_zero q3; obtain ⟨⟨m30, m31, m32, m33⟩, fz3, lt3⟩ := hM; clear q3; have HM4 := Lib.hid q4; have hM := four_zero q4; obtain ⟨⟨m40, m41, m42, m43⟩, fz4, lt4⟩ := hM; clear q4) | (with_reducible have q3 := zn hOW; with_reducible have q1 := zk1 hOW HN1.out; have HM1 := Lib.hid q1; have hM := four_zero q1; obtain ⟨⟨m10, m11, m12, m13⟩, fz1, lt1⟩ := hM; clear q1; have HM3 := Lib.hid q3; have hM := four_zero q3; obtain ⟨⟨m30, m31, m32, m33⟩, fz3, lt3⟩ := hM; clear q3) | (with_reducible have q3 := zn hOW; have HM3 := Lib.hid q3; have hM := four_zero q3; obtain ⟨⟨m30, m31, m32, m33⟩, fz3, lt3⟩ := hM; clear q3) | (with_reducible have q1 := zk hOW HN1.out; with_reducible have q2 := zk hOW HN2.out; have HM1 := Lib.hid q1; have hM := four_zero q1; obtain ⟨⟨m10, m11, m12, m13⟩, fz1, lt1⟩ := hM; clear q1; have HM2 := Lib.hid q2; have hM := four_zero q2; obtain ⟨⟨m20, m21, m22, m23⟩, fz2, lt2⟩ := hM; clear q2) | (with_reducible have q1 := zk hOW HN1.out; have HM1 := Lib.hid q1; have hM := four_zero q1; obtain ⟨⟨m10, m11, m12, m13⟩, fz1, lt1⟩ := hM; clear q1) | (with_reducible have q9 : Off (fun _ => False) u3 u4 := hOW; clear q9) | exact hOW); have hS := HK.out _ hO9; have z1 := hO9.size))
      all_goals (go_wp2_with fail; go_meet)
      · with_reducible exact ⟨_, _, rfl, rfl, na_old (na_new rfl) _, na_new (World.size_alloc _ _), (hO9.alloc _).alloc _⟩
      · with_reducible exact ⟨_, _, rfl, rfl, na_new (World.size_alloc _ _), na_old (na_new rfl) _, (hO9.alloc _).alloc _⟩
      · with_reducible exact ⟨_, _, rfl, rfl, na_old (na_s4 HM3.out) _, na_new (s4_size u4 _ x), (s4_off hO9 (z3)).alloc _⟩
      · with_reducible exact ⟨_, _, rfl, rfl, na_far (Nat.ne_of_lt (Nat.lt_succ_self _)) (na_s4 HM3.out), na_s4 (s4_far (Nat.succ_ne_self _) HM4.out), s4_off (s4_off hO9 (z3)) (Nat.le_succ_of_le z3)⟩
      · with_reducible exact ⟨_, _, rfl, rfl, na_new (s4_size u4 _ y), na_old (na_s4 HM3.out) _, (s4_off hO9 (z3)).alloc _⟩
      · with_reducible exact ⟨_, _, rfl, rfl, na_far (Nat.succ_ne_self _) (na_s4 HM4.out), na_s4 (s4_far (Nat.ne_of_lt (Nat.lt_succ_self _)) HM3.out), s4_off (s4_off hO9 (Nat.le_succ_of_le z3)) (z3)⟩
      · with_reducible exact ⟨_, _, rfl, rfl, na_old (na_s4 HM1.out) _, na_new (s4_size u4 _ x), (s4_off hO9 (Nat.le_refl _)).alloc _⟩
      · with_reducible exact ⟨_, _, rfl, rfl, na_far (n13) (na_s4 HM1.out), na_s4 (s4_far (n31) HM3.out), s4_off (s4_off hO9 (Nat.le_refl _)) (z3)⟩
      · with_reducible exact ⟨_, _, rfl, rfl, na_far (Nat.ne_of_lt (Nat.lt_succ_self _)) (na_s4 HM1.out), na_s4 (s4_far (Nat.succ_ne_self _) HM2.out), s4_off (s4_off hO9 (Nat.le_refl _)) (Nat.le_succ _)⟩
      · with_reducible exact ⟨_, _, rfl, rfl, na_new (s4_size u4 _ y), na_old (na_s4 HM1.out) _, (s4_off hO9 (Nat.le_refl _)).alloc _⟩
      · with_reducible exact ⟨_, _, rfl, rfl, na_far (n31) (na_s4 HM3.out), na_s4 (s4_far (n13) HM1.out), s4_off (s4_off hO9 (z3)) (Nat.le_refl _)⟩
      · with_reducible exact ⟨_, _, rfl, rfl, na_far (Nat.succ_ne_self _) (na_s4 HM2.out), na_s4 (s4_far (Nat.ne_of_lt (Nat.lt_succ_self _)) HM1.out), s4_off (s4_off hO9 (Nat.le_succ _)) (Nat.le_refl _)⟩
    case rest =>
      obtain ⟨b, d, rfl, rfl, hX, hY, hOc⟩ := hcut
      have HX := Lib.hid hX
      have HY := Lib.hid hY
      have HOc := Lib.hid hOc
      obtain ⟨x0, x1, x2, x3⟩ := hX.four
      obtain ⟨y0, y1, y2, y3⟩ := hY.four
      clear hX hY hOc HK FA FB F1 FM HA0 HB0 HW0
      go_wp2_with fail
      refine (FS.out _).mono ?_
      rintro e u5 ⟨rfl, hO5⟩
      have HX5 := Lib.hid (show NumAt u5 b x from hO5.heap HX.out (fun c => c))
      have HY5 := Lib.hid (show NumAt u5 d y from hO5.heap HY.out (fun c => c))
      have HO5 := Lib.hid (HOc.out.trans hO5 (fun _ _ c => c))
      have HF5 := Lib.hid (HO5.out.heap HF0.out (fun c => c))
      obtain ⟨f0, f1, f2, f3, f4, f5, f6, f7, f8, f9, f10, f11, f12, f13⟩ := fv_cells HF5.out
      have lf := heap_lt HF5.out
      clear x0 x1 x2 x3 y0 y1 y2 y3 HX HY HOc hO5 FS
      go_wp2_with fail
      refine (FT.out _).mono ?_
      rintro e u6 ⟨rfl, hO6⟩
      have hO56 := ((Off.refl (fun _ => False) u5).alloc _).trans hO6 (fun _ _ c => c)
      obtain ⟨W9, hW9⟩ : ∃ W9, W9 = u6.alloc (.cells #[.int .u64 (wd g 0 : Int), .int .u64 (wd g 1 : Int), .int .u64 (wd g 2 : Int), .int .u64 (wd g 3 : Int)] 23) := ⟨_, rfl⟩
      have hO7 : Off (fun _ => False) u6 W9 := by rw [hW9]; exact (Off.refl _ u6).alloc _
      have hO57 := hO56.trans hO7 (fun _ _ c => c)
      have HG9 := Lib.hid (show NumAt W9 u6.heap.size g by rw [hW9]; exact heap_new' rfl _)
      have HX9 := Lib.hid (show NumAt W9 b x from hO57.heap HX5.out (fun c => c))
      have HY9 := Lib.hid (show NumAt W9 d y from hO57.heap HY5.out (fun c => c))
      have HF9 := Lib.hid (hO57.heap HF5.out (fun c => c))
      have HO09 := HO5.out.trans hO57 (fun _ _ c => c)
      have HP9 := Lib.hid (show NumAt W9 u2.heap.size p from HO09.heap HP.out (fun c => c))
      have HOw := Lib.hid (HO0.out.trans HO09 (fun _ _ c => c))
      have HT9 := Lib.hid (HT0.out.off HO09)
      have HW9 := Lib.hid hW9
      have HK : Hid (∀ W, Off (fun _ => False) W9 W → (W.cell? ⟨u6.heap.size, 0, none⟩ = some (.int .u64 (wd g 0 : Int)) ∧ W.cell? ⟨u6.heap.size, 1, none⟩ = some (.int .u64 (wd g 1 : Int)) ∧ W.cell? ⟨u6.heap.size, 2, none⟩ = some (.int .u64 (wd g 2 : Int)) ∧ W.cell? ⟨u6.heap.size, 3, none⟩ = some (.int .u64 (wd g 3 : Int))) ∧ (W.cell? ⟨u2.heap.size, 0, none⟩ = some (.int .u64 (wd p 0 : Int)) ∧ W.cell? ⟨u2.heap.size, 1, none⟩ = some (.int .u64 (wd p 1 : Int)) ∧ W.cell? ⟨u2.heap.size, 2, none⟩ = some (.int .u64 (wd p 2 : Int)) ∧ W.cell? ⟨u2.heap.size, 3, none⟩ = some (.int .u64 (wd p 3 : Int))) ∧ (W.cell? ⟨b, 0, none⟩ = some (.int .u64 (wd x 0 : Int)) ∧ W.cell? ⟨b, 1, none⟩ = some (.int .u64 (wd x 1 : Int)) ∧ W.cell? ⟨b, 2, none⟩ = some (.int .u64 (wd x 2 : Int)) ∧ W.cell? ⟨b, 3, none⟩ = some (.int .u64 (wd x 3 : Int))) ∧ (W.cell? ⟨d, 0, none⟩ = some (.int .u64 (wd y 0 : Int)) ∧ W.cell? ⟨d, 1, none⟩ = some (.int .u64 (wd y 1 : Int)) ∧ W.cell? ⟨d, 2, none⟩ = some (.int .u64 (wd y 2 : Int)) ∧ W.cell? ⟨d, 3, none⟩ = some (.int .u64 (wd y 3 : Int))) ∧ (W.cell? ⟨u1.heap.size, 0, none⟩ = some (.int .i64 1) ∧ W.cell? ⟨u1.heap.size, 1, none⟩ = some (.int .u64 (wd p 0 : Int)) ∧ W.cell? ⟨u1.heap.size, 2, none⟩ = some (.int .u64 (wd p 1 : Int)) ∧ W.cell? ⟨u1.heap.size, 3, none⟩ = some (.int .u64 (wd p 2 : Int)) ∧ W.cell? ⟨u1.heap.size, 4, none⟩ = some (.int .u64 (wd p 3 : Int)) ∧ W.cell? ⟨u1.heap.size, 5, none⟩ = some (.int .u64 (i : Int)) ∧ W.cell? ⟨u1.heap.size, 6, none⟩ = some (.int .u64 (wd r 0 : Int)) ∧ W.cell? ⟨u1.heap.size, 7, none⟩ = some (.int .u64 (wd r 1 : Int)) ∧ W.cell? ⟨u1.heap.size, 8, none⟩ = some (.int .u64 (wd r 2 : Int)) ∧ W.cell? ⟨u1.heap.size, 9, none⟩ = some (.int .u64 (wd r 3 : Int)) ∧ W.cell? ⟨u1.heap.size, 10, none⟩ = some (.int .u64 (wd s 0 : Int)) ∧ W.cell? ⟨u1.heap.size, 11, none⟩ = some (.int .u64 (wd s 1 : Int)) ∧ W.cell? ⟨u1.heap.size, 12, none⟩ = some (.int .u64 (wd s 2 : Int)) ∧ W.cell? ⟨u1.heap.size, 13, none⟩ = some (.int .u64 (wd s 3 : Int))) ∧ Off (fun _ => False) W9 W) := Lib.hid (fun W h => ⟨Four.off HG9.out.four h, Four.off HP9.out.four h, Four.off HX9.out.four h, Four.off HY9.out.four h, fv_cells (h.heap HF9.out (fun c => c)), h⟩)
      clear hO6 hO56 hO7 hO57 HO09 hW9 HX5 HY5 HO5 HF5 HX9 HY9 HG9 HP9 HF9 f0 f1 f2 f3 f4 f5 f6 f7 f8 f9 f10 f11 f12 f13 lf FT HF0 HP HO0 HT0
      go_upto_region 9 with fail
      rw [← HW9.out]
      have hS := HK.out W9.drew (Off.refl _ W9).drew
      have hO9 := hS.2.2.2.2.2
      have hO10 := Off.refl (fun _ => False) W9
      go_region_held3 (fun w' => (w'.cell? ⟨u6.heap.size, 0, none⟩ = some (.int .u64 (wd g 0 : Int)) ∧ w'.cell? ⟨u6.heap.size, 1, none⟩ = some (.int .u64 (wd g 1 : Int)) ∧ w'.cell? ⟨u6.heap.size, 2, none⟩ = some (.int .u64 (wd g 2 : Int)) ∧ w'.cell? ⟨u6.heap.size, 3, none⟩ = some (.int .u64 (wd g 3 : Int))) ∧ (w'.cell? ⟨u2.heap.size, 0, none⟩ = some (.int .u64 (wd p 0 : Int)) ∧ w'.cell? ⟨u2.heap.size, 1, none⟩ = some (.int .u64 (wd p 1 : Int)) ∧ w'.cell? ⟨u2.heap.size, 2, none⟩ = some (.int .u64 (wd p 2 : Int)) ∧ w'.cell? ⟨u2.heap.size, 3, none⟩ = some (.int .u64 (wd p 3 : Int))) ∧ (w'.cell? ⟨b, 0, none⟩ = some (.int .u64 (wd x 0 : Int)) ∧ w'.cell? ⟨b, 1, none⟩ = some (.int .u64 (wd x 1 : Int)) ∧ w'.cell? ⟨b, 2, none⟩ = some (.int .u64 (wd x 2 : Int)) ∧ w'.cell? ⟨b, 3, none⟩ = some (.int .u64 (wd x 3 : Int))) ∧ (w'.cell? ⟨d, 0, none⟩ = some (.int .u64 (wd y 0 : Int)) ∧ w'.cell? ⟨d, 1, none⟩ = some (.int .u64 (wd y 1 : Int)) ∧ w'.cell? ⟨d, 2, none⟩ = some (.int .u64 (wd y 2 : Int)) ∧ w'.cell? ⟨d, 3, none⟩ = some (.int .u64 (wd y 3 : Int))) ∧ (w'.cell? ⟨u1.heap.size, 0, none⟩ = some (.int .i64 1) ∧ w'.cell? ⟨u1.heap.size, 1, none⟩ = some (.int .u64 (wd p 0 : Int)) ∧ w'.cell? ⟨u1.heap.size, 2, none⟩ = some (.int .u64 (wd p 1 : Int)) ∧ w'.cell? ⟨u1.heap.size, 3, none⟩ = some (.int .u64 (wd p 2 : Int)) ∧ w'.cell? ⟨u1.heap.size, 4, none⟩ = some (.int .u64 (wd p 3 : Int)) ∧ w'.cell? ⟨u1.heap.size, 5, none⟩ = some (.int .u64 (i : Int)) ∧ w'.cell? ⟨u1.heap.size, 6, none⟩ = some (.int .u64 (wd r 0 : Int)) ∧ w'.cell? ⟨u1.heap.size, 7, none⟩ = some (.int .u64 (wd r 1 : Int)) ∧ w'.cell? ⟨u1.heap.size, 8, none⟩ = some (.int .u64 (wd r 2 : Int)) ∧ w'.cell? ⟨u1.heap.size, 9, none⟩ = some (.int .u64 (wd r 3 : Int)) ∧ w'.cell? ⟨u1.heap.size, 10, none⟩ = some (.int .u64 (wd s 0 : Int)) ∧ w'.cell? ⟨u1.heap.size, 11, none⟩ = some (.int .u64 (wd s 1 : Int)) ∧ w'.cell? ⟨u1.heap.size, 12, none⟩ = some (.int .u64 (wd s 2 : Int)) ∧ w'.cell? ⟨u1.heap.size, 13, none⟩ = some (.int .u64 (wd s 3 : Int))) ∧ Off (fun _ => False) W9 w')
        ((refine HK.out _ ?_; repeat' (first | with_reducible assumption | with_reducible refine Off.drew ?_ | with_reducible refine Off.alloc ?_ _ | with_reducible refine Off.store ?_ (by omega) _ _)))
        (first
          | (go_at_call 11; refine (held_w HT9.out alive_any (by repeat' (first | with_reducible assumption | with_reducible refine Off.drew ?_ | with_reducible refine Off.alloc ?_ _ | with_reducible refine Off.store ?_ (by omega) _ _))).mono ?_; rintro e u7 ⟨rfl, hO9, hOW⟩; have hS := HK.out _ hO9)
          | (go_at_call 20; refine (held_w HT9.out FR.out (by repeat' (first | with_reducible assumption | with_reducible refine Off.drew ?_ | with_reducible refine Off.alloc ?_ _ | with_reducible refine Off.store ?_ (by omega) _ _))).mono ?_; rintro e u7 ⟨rfl, hO9, hOW⟩; have hS := HK.out _ hO9)
          | (go_at_call 12; refine (held_w HT9.out FC.out (by repeat' (first | with_reducible assumption | with_reducible refine Off.drew ?_ | with_reducible refine Off.alloc ?_ _ | with_reducible refine Off.store ?_ (by omega) _ _))).mono ?_; rintro e u7 ⟨rfl, hO9, hOW⟩; have hS := HK.out _ hO9))
      go_wp2
      go_ret
      exact ⟨rfl, HOw.out.trans hO9 (fun _ _ c => c)⟩
  · obtain ⟨p, hp, h1, hm⟩ := red_at 2 (by omega)
    have F1 := Lib.hid (fun W hT => fget_in 2 p hp h1 hm W hT)
    have FM := Lib.hid (fun W => by have h := mod_modulus 2 W; rw [hm] at h; exact h)
    have qA := fun W (_ : TabAt W) => mod_mod p n1 hp h1 w1 W
    have qB := fun W (_ : TabAt W) => mod_mod p n2 hp h1 w2 W
    obtain ⟨x, hx⟩ : ∃ x, x = n1 % p := ⟨_, rfl⟩
    obtain ⟨y, hy⟩ : ∃ y, y = n2 % p := ⟨_, rfl⟩
    have hxp : x < p := by rw [hx]; exact Nat.mod_lt _ (by omega)
    have hyp : y < p := by rw [hy]; exact Nat.mod_lt _ (by omega)
    rw [← hx] at qA
    rw [← hy] at qB
    have qS := fun W => refadd_any x y (by omega) (by omega) W
    have qR := fun W (_ : TabAt W) => mod_add p x y hp hxp hyp W
    have hcw : Word (((x + y) / R256 : Nat) : Int) := word_cast (by have : (x + y) / R256 ≤ x + y := Nat.div_le_self _ _; unfold R256 W64 at *; simp only [Nat.reducePow] at *; omega)
    obtain ⟨i, hi⟩ : ∃ i, i = negInv (wd p 0) := ⟨_, rfl⟩
    obtain ⟨s, hs⟩ : ∃ s, s = radV p 256 * radV p 256 % p := ⟨_, rfl⟩
    obtain ⟨r, hr⟩ : ∃ r, r = radV p 256 := ⟨_, rfl⟩
    rw [← hi, ← hs, ← hr] at F1
    have qT := fun W => subtract_any 2 p i r s ((x + y) % R256) _ hp (Nat.mod_lt _ r256_pos) hcw W
    simp only [redV_mod hp hxp hyp, V_mod] at qT
    have qC := fun W (_ : TabAt W) => contains_any 2 p i r s ((x + y) % p) hp (Nat.lt_trans (Nat.mod_lt _ (by omega)) hp) W
    rw [show mk (lessN ((x + y) % p) p) = 18446744073709551615 by unfold lessN; rw [decide_eq_true (Nat.mod_lt _ (by omega))]; rfl] at qC
    obtain ⟨g, hg⟩ : ∃ g, g = (x + y) % p := ⟨_, rfl⟩
    obtain ⟨c, hc⟩ : ∃ c, c = (x + y) / R256 := ⟨_, rfl⟩
    obtain ⟨t, ht⟩ : ∃ t, t = x + y := ⟨_, rfl⟩
    simp only [← hg, ← hc] at qT qC qR qS
    simp only [← ht] at qT qS
    have FA := Lib.hid qA
    have FB := Lib.hid qB
    have FS := Lib.hid qS
    have FT := Lib.hid qT
    have FR := Lib.hid qR
    have FC := Lib.hid qC
    have e1 := equalIn_same
    clear qA qB qS qT qR qC hp h1 hm hx hy hxp hyp hi hs hr hcw hg hc ht w0 w1 w2
    go_enter Tryd.func6, Tryd.ntmps6
    go_wp2_with fail
    refine (F1.out _ (hT.off (((Off.refl _ w).alloc _).alloc _))).mono ?_
    rintro e u1 ⟨rfl, hO1⟩
    have HA := Lib.hid (show NumAt u1 w.heap.size n1 from hO1.heap (heap_old' (heap_new' rfl _) _) (fun c => c))
    have HB := Lib.hid (show NumAt u1 (w.heap.size + 1) n2 from hO1.heap (heap_new' (by simp) _) (fun c => c))
    have HO1 := Lib.hid ((((Off.refl _ w).alloc _).alloc _).trans hO1 (fun _ _ c => c))
    have HT := Lib.hid hT
    clear hO1 hT
    go_wp2_with fail
    refine (FM.out _).mono ?_
    rintro e u2 ⟨rfl, hO2⟩
    have HF := Lib.hid (show u2.heap[u1.heap.size]? = some (.cells #[.int .i64 2, .int .u64 (wd p 0 : Int), .int .u64 (wd p 1 : Int), .int .u64 (wd p 2 : Int), .int .u64 (wd p 3 : Int), .int .u64 (i : Int), .int .u64 (wd r 0 : Int), .int .u64 (wd r 1 : Int), .int .u64 (wd r 2 : Int), .int .u64 (wd r 3 : Int), .int .u64 (wd s 0 : Int), .int .u64 (wd s 1 : Int), .int .u64 (wd s 2 : Int), .int .u64 (wd s 3 : Int)] 26 (0, 0)) from hO2.heap (heap_new' rfl _) (fun c => c))
    have HO2' := Lib.hid (((Off.refl _ u1).alloc _).trans hO2 (fun _ _ c => c))
    obtain ⟨W0, hW0⟩ : ∃ W0, W0 = u2.alloc (.cells #[.int .u64 (wd p 0 : Int), .int .u64 (wd p 1 : Int), .int .u64 (wd p 2 : Int), .int .u64 (wd p 3 : Int)] 23) := ⟨_, rfl⟩
    have hO3 : Off (fun _ => False) u2 W0 := by rw [hW0]; exact (Off.refl _ u2).alloc _
    have HP := Lib.hid (show NumAt W0 u2.heap.size p by rw [hW0]; exact heap_new' rfl _)
    have HA0 := Lib.hid (show NumAt W0 w.heap.size n1 from hO3.heap (HO2'.out.heap HA.out (fun c => c)) (fun c => c))
    have HB0 := Lib.hid (show NumAt W0 (w.heap.size + 1) n2 from hO3.heap (HO2'.out.heap HB.out (fun c => c)) (fun c => c))
    have HF0 := Lib.hid (hO3.heap HF.out (fun c => c))
    have HO0 := Lib.hid ((HO1.out.trans HO2'.out (fun _ _ c => c)).trans hO3 (fun _ _ c => c))
    have HT0 := Lib.hid (HT.out.off HO0.out)
    have HK : Hid (∀ W, Off (fun _ => False) W0 W → (W.cell? ⟨u2.heap.size, 0, none⟩ = some (.int .u64 (wd p 0 : Int)) ∧ W.cell? ⟨u2.heap.size, 1, none⟩ = some (.int .u64 (wd p 1 : Int)) ∧ W.cell? ⟨u2.heap.size, 2, none⟩ = some (.int .u64 (wd p 2 : Int)) ∧ W.cell? ⟨u2.heap.size, 3, none⟩ = some (.int .u64 (wd p 3 : Int))) ∧ (W.cell? ⟨w.heap.size, 0, none⟩ = some (.int .u64 (wd n1 0 : Int)) ∧ W.cell? ⟨w.heap.size, 1, none⟩ = some (.int .u64 (wd n1 1 : Int)) ∧ W.cell? ⟨w.heap.size, 2, none⟩ = some (.int .u64 (wd n1 2 : Int)) ∧ W.cell? ⟨w.heap.size, 3, none⟩ = some (.int .u64 (wd n1 3 : Int))) ∧ (W.cell? ⟨w.heap.size + 1, 0, none⟩ = some (.int .u64 (wd n2 0 : Int)) ∧ W.cell? ⟨w.heap.size + 1, 1, none⟩ = some (.int .u64 (wd n2 1 : Int)) ∧ W.cell? ⟨w.heap.size + 1, 2, none⟩ = some (.int .u64 (wd n2 2 : Int)) ∧ W.cell? ⟨w.heap.size + 1, 3, none⟩ = some (.int .u64 (wd n2 3 : Int))) ∧ Off (fun _ => False) W0 W) := Lib.hid (fun W h => ⟨Four.off HP.out.four h, Four.off HA0.out.four h, Four.off HB0.out.four h, h⟩)
    have HW0 := Lib.hid hW0
    clear hO2 hO3 hW0 HA HB HF HO1 HO2' HT
    go_upto_region 6 with fail
    rw [← HW0.out]
    go_cut [11, 12] from 24 to 29 (fun s11 s12 wx => ∃ b c, s11 = .pointer (some ⟨b, 0, none⟩) ∧ s12 = .pointer (some ⟨c, 0, none⟩) ∧ NumAt wx b x ∧ NumAt wx c y ∧ Off (fun _ => False) W0 wx)
    case first =>
      have hS := HK.out W0.drew (Off.refl _ W0).drew
      have hO9 := hS.2.2.2
      have hO10 := Off.refl (fun _ => False) W0
      go_region_held3 (fun w' => (w'.cell? ⟨u2.heap.size, 0, none⟩ = some (.int .u64 (wd p 0 : Int)) ∧ w'.cell? ⟨u2.heap.size, 1, none⟩ = some (.int .u64 (wd p 1 : Int)) ∧ w'.cell? ⟨u2.heap.size, 2, none⟩ = some (.int .u64 (wd p 2 : Int)) ∧ w'.cell? ⟨u2.heap.size, 3, none⟩ = some (.int .u64 (wd p 3 : Int))) ∧ (w'.cell? ⟨w.heap.size, 0, none⟩ = some (.int .u64 (wd n1 0 : Int)) ∧ w'.cell? ⟨w.heap.size, 1, none⟩ = some (.int .u64 (wd n1 1 : Int)) ∧ w'.cell? ⟨w.heap.size, 2, none⟩ = some (.int .u64 (wd n1 2 : Int)) ∧ w'.cell? ⟨w.heap.size, 3, none⟩ = some (.int .u64 (wd n1 3 : Int))) ∧ (w'.cell? ⟨w.heap.size + 1, 0, none⟩ = some (.int .u64 (wd n2 0 : Int)) ∧ w'.cell? ⟨w.heap.size + 1, 1, none⟩ = some (.int .u64 (wd n2 1 : Int)) ∧ w'.cell? ⟨w.heap.size + 1, 2, none⟩ = some (.int .u64 (wd n2 2 : Int)) ∧ w'.cell? ⟨w.heap.size + 1, 3, none⟩ = some (.int .u64 (wd n2 3 : Int))) ∧ Off (fun _ => False) W0 w')
        ((refine HK.out _ ?_; repeat' (first | with_reducible assumption | with_reducible refine Off.drew ?_ | with_reducible refine Off.alloc ?_ _ | with_reducible refine Off.store ?_ (by omega) _ _)))
        (first
          | (go_at_call_of 18 (Value.agg #[.int .u64 (wd n1 0 : Int), .int .u64 (wd n1 1 : Int), .int .u64 (wd n1 2 : Int), .int .u64 (wd n1 3 : Int)]); refine (held_w HT0.out FA.out (by repeat' (first | with_reducible assumption | with_reducible refine Off.drew ?_ | with_reducible refine Off.alloc ?_ _ | with_reducible refine Off.store ?_ (by omega) _ _))).mono ?_; rintro e u3 ⟨rfl, hO9, hOW⟩; (try (with_reducible have hOW := Off.undrew hOW)); (first | (with_reducible have q1 := zn1 hOW; with_reducible have q2 := zn2 hOW; have HN1 := Lib.hid q1; have HN2 := Lib.hid q2; clear q1 q2) | (with_reducible have q1 := zn hOW; have HN1 := Lib.hid q1; have l13 := heap_lt q1; have n13 := Nat.ne_of_lt l13; have n31 := Nat.ne_of_gt l13; clear q1) | (with_reducible have q9 : Off (fun _ => False) W0 u3 := hOW; clear q9) | exact hOW); have hS := HK.out _ hO9; have z3 := hO9.size)
          | (go_at_call_of 18 (Value.agg #[.int .u64 (wd n2 0 : Int), .int .u64 (wd n2 1 : Int), .int .u64 (wd n2 2 : Int), .int .u64 (wd n2 3 : Int)]); refine (held_w HT0.out FB.out (by repeat' (first | with_reducible assumption | with_reducible refine Off.drew ?_ | with_reducible refine Off.alloc ?_ _ | with_reducible refine Off.store ?_ (by omega) _ _))).mono ?_; rintro e u4 ⟨rfl, hO9, hOW⟩; (first | (with_reducible have q3 := zn1 hOW; with_reducible have q4 := zn2 hOW; have HM3 := Lib.hid q3; have hM := four_zero q3; obtain ⟨⟨m30, m31, m32, m33⟩, fz3, lt3⟩ := hM; clear q3; have HM4 := Lib.hid q4; have hM := four_zero q4; obtain ⟨⟨m40, m41, m42, m43⟩, fz4, lt4⟩ := hM; clear q4) | (with_reducible have q3 := zn hOW; with_reducible have q1 := zk1 hOW HN1.out; have HM1 := Lib.hid q1; have hM := four_zero q1; obtain ⟨⟨m10, m11, m12, m13⟩, fz1, lt1⟩ := hM; clear q1; have HM3 := Lib.hid q3; have hM := four_zero q3; obtain ⟨⟨m30, m31, m32, m33⟩, fz3, lt3⟩ := hM; clear q3) | (with_reducible have q3 := zn hOW; have HM3 := Lib.hid q3; have hM := four_zero q3; obtain ⟨⟨m30, m31, m32, m33⟩, fz3, lt3⟩ := hM; clear q3) | (with_reducible have q1 := zk hOW HN1.out; with_reducible have q2 := zk hOW HN2.out; have HM1 := Lib.hid q1; have hM := four_zero q1; obtain ⟨⟨m10, m11, m12, m13⟩, fz1, lt1⟩ := hM; clear q1; have HM2 := Lib.hid q2; have hM := four_zero q2; obtain ⟨⟨m20, m21, m22, m23⟩, fz2, lt2⟩ := hM; clear q2) | (with_reducible have q1 := zk hOW HN1.out; have HM1 := Lib.hid q1; have hM := four_zero q1; obtain ⟨⟨m10, m11, m12, m13⟩, fz1, lt1⟩ := hM; clear q1) | (with_reducible have q9 : Off (fun _ => False) u3 u4 := hOW; clear q9) | exact hOW); have hS := HK.out _ hO9; have z1 := hO9.size))
      all_goals (go_wp2_with fail; go_meet)
      · with_reducible exact ⟨_, _, rfl, rfl, na_old (na_new rfl) _, na_new (World.size_alloc _ _), (hO9.alloc _).alloc _⟩
      · with_reducible exact ⟨_, _, rfl, rfl, na_new (World.size_alloc _ _), na_old (na_new rfl) _, (hO9.alloc _).alloc _⟩
      · with_reducible exact ⟨_, _, rfl, rfl, na_old (na_s4 HM3.out) _, na_new (s4_size u4 _ x), (s4_off hO9 (z3)).alloc _⟩
      · with_reducible exact ⟨_, _, rfl, rfl, na_far (Nat.ne_of_lt (Nat.lt_succ_self _)) (na_s4 HM3.out), na_s4 (s4_far (Nat.succ_ne_self _) HM4.out), s4_off (s4_off hO9 (z3)) (Nat.le_succ_of_le z3)⟩
      · with_reducible exact ⟨_, _, rfl, rfl, na_new (s4_size u4 _ y), na_old (na_s4 HM3.out) _, (s4_off hO9 (z3)).alloc _⟩
      · with_reducible exact ⟨_, _, rfl, rfl, na_far (Nat.succ_ne_self _) (na_s4 HM4.out), na_s4 (s4_far (Nat.ne_of_lt (Nat.lt_succ_self _)) HM3.out), s4_off (s4_off hO9 (Nat.le_succ_of_le z3)) (z3)⟩
      · with_reducible exact ⟨_, _, rfl, rfl, na_old (na_s4 HM1.out) _, na_new (s4_size u4 _ x), (s4_off hO9 (Nat.le_refl _)).alloc _⟩
      · with_reducible exact ⟨_, _, rfl, rfl, na_far (n13) (na_s4 HM1.out), na_s4 (s4_far (n31) HM3.out), s4_off (s4_off hO9 (Nat.le_refl _)) (z3)⟩
      · with_reducible exact ⟨_, _, rfl, rfl, na_far (Nat.ne_of_lt (Nat.lt_succ_self _)) (na_s4 HM1.out), na_s4 (s4_far (Nat.succ_ne_self _) HM2.out), s4_off (s4_off hO9 (Nat.le_refl _)) (Nat.le_succ _)⟩
      · with_reducible exact ⟨_, _, rfl, rfl, na_new (s4_size u4 _ y), na_old (na_s4 HM1.out) _, (s4_off hO9 (Nat.le_refl _)).alloc _⟩
      · with_reducible exact ⟨_, _, rfl, rfl, na_far (n31) (na_s4 HM3.out), na_s4 (s4_far (n13) HM1.out), s4_off (s4_off hO9 (z3)) (Nat.le_refl _)⟩
      · with_reducible exact ⟨_, _, rfl, rfl, na_far (Nat.succ_ne_self _) (na_s4 HM2.out), na_s4 (s4_far (Nat.ne_of_lt (Nat.lt_succ_self _)) HM1.out), s4_off (s4_off hO9 (Nat.le_succ _)) (Nat.le_refl _)⟩
    case rest =>
      obtain ⟨b, d, rfl, rfl, hX, hY, hOc⟩ := hcut
      have HX := Lib.hid hX
      have HY := Lib.hid hY
      have HOc := Lib.hid hOc
      obtain ⟨x0, x1, x2, x3⟩ := hX.four
      obtain ⟨y0, y1, y2, y3⟩ := hY.four
      clear hX hY hOc HK FA FB F1 FM HA0 HB0 HW0
      go_wp2_with fail
      refine (FS.out _).mono ?_
      rintro e u5 ⟨rfl, hO5⟩
      have HX5 := Lib.hid (show NumAt u5 b x from hO5.heap HX.out (fun c => c))
      have HY5 := Lib.hid (show NumAt u5 d y from hO5.heap HY.out (fun c => c))
      have HO5 := Lib.hid (HOc.out.trans hO5 (fun _ _ c => c))
      have HF5 := Lib.hid (HO5.out.heap HF0.out (fun c => c))
      obtain ⟨f0, f1, f2, f3, f4, f5, f6, f7, f8, f9, f10, f11, f12, f13⟩ := fv_cells HF5.out
      have lf := heap_lt HF5.out
      clear x0 x1 x2 x3 y0 y1 y2 y3 HX HY HOc hO5 FS
      go_wp2_with fail
      refine (FT.out _).mono ?_
      rintro e u6 ⟨rfl, hO6⟩
      have hO56 := ((Off.refl (fun _ => False) u5).alloc _).trans hO6 (fun _ _ c => c)
      obtain ⟨W9, hW9⟩ : ∃ W9, W9 = u6.alloc (.cells #[.int .u64 (wd g 0 : Int), .int .u64 (wd g 1 : Int), .int .u64 (wd g 2 : Int), .int .u64 (wd g 3 : Int)] 23) := ⟨_, rfl⟩
      have hO7 : Off (fun _ => False) u6 W9 := by rw [hW9]; exact (Off.refl _ u6).alloc _
      have hO57 := hO56.trans hO7 (fun _ _ c => c)
      have HG9 := Lib.hid (show NumAt W9 u6.heap.size g by rw [hW9]; exact heap_new' rfl _)
      have HX9 := Lib.hid (show NumAt W9 b x from hO57.heap HX5.out (fun c => c))
      have HY9 := Lib.hid (show NumAt W9 d y from hO57.heap HY5.out (fun c => c))
      have HF9 := Lib.hid (hO57.heap HF5.out (fun c => c))
      have HO09 := HO5.out.trans hO57 (fun _ _ c => c)
      have HP9 := Lib.hid (show NumAt W9 u2.heap.size p from HO09.heap HP.out (fun c => c))
      have HOw := Lib.hid (HO0.out.trans HO09 (fun _ _ c => c))
      have HT9 := Lib.hid (HT0.out.off HO09)
      have HW9 := Lib.hid hW9
      have HK : Hid (∀ W, Off (fun _ => False) W9 W → (W.cell? ⟨u6.heap.size, 0, none⟩ = some (.int .u64 (wd g 0 : Int)) ∧ W.cell? ⟨u6.heap.size, 1, none⟩ = some (.int .u64 (wd g 1 : Int)) ∧ W.cell? ⟨u6.heap.size, 2, none⟩ = some (.int .u64 (wd g 2 : Int)) ∧ W.cell? ⟨u6.heap.size, 3, none⟩ = some (.int .u64 (wd g 3 : Int))) ∧ (W.cell? ⟨u2.heap.size, 0, none⟩ = some (.int .u64 (wd p 0 : Int)) ∧ W.cell? ⟨u2.heap.size, 1, none⟩ = some (.int .u64 (wd p 1 : Int)) ∧ W.cell? ⟨u2.heap.size, 2, none⟩ = some (.int .u64 (wd p 2 : Int)) ∧ W.cell? ⟨u2.heap.size, 3, none⟩ = some (.int .u64 (wd p 3 : Int))) ∧ (W.cell? ⟨b, 0, none⟩ = some (.int .u64 (wd x 0 : Int)) ∧ W.cell? ⟨b, 1, none⟩ = some (.int .u64 (wd x 1 : Int)) ∧ W.cell? ⟨b, 2, none⟩ = some (.int .u64 (wd x 2 : Int)) ∧ W.cell? ⟨b, 3, none⟩ = some (.int .u64 (wd x 3 : Int))) ∧ (W.cell? ⟨d, 0, none⟩ = some (.int .u64 (wd y 0 : Int)) ∧ W.cell? ⟨d, 1, none⟩ = some (.int .u64 (wd y 1 : Int)) ∧ W.cell? ⟨d, 2, none⟩ = some (.int .u64 (wd y 2 : Int)) ∧ W.cell? ⟨d, 3, none⟩ = some (.int .u64 (wd y 3 : Int))) ∧ (W.cell? ⟨u1.heap.size, 0, none⟩ = some (.int .i64 2) ∧ W.cell? ⟨u1.heap.size, 1, none⟩ = some (.int .u64 (wd p 0 : Int)) ∧ W.cell? ⟨u1.heap.size, 2, none⟩ = some (.int .u64 (wd p 1 : Int)) ∧ W.cell? ⟨u1.heap.size, 3, none⟩ = some (.int .u64 (wd p 2 : Int)) ∧ W.cell? ⟨u1.heap.size, 4, none⟩ = some (.int .u64 (wd p 3 : Int)) ∧ W.cell? ⟨u1.heap.size, 5, none⟩ = some (.int .u64 (i : Int)) ∧ W.cell? ⟨u1.heap.size, 6, none⟩ = some (.int .u64 (wd r 0 : Int)) ∧ W.cell? ⟨u1.heap.size, 7, none⟩ = some (.int .u64 (wd r 1 : Int)) ∧ W.cell? ⟨u1.heap.size, 8, none⟩ = some (.int .u64 (wd r 2 : Int)) ∧ W.cell? ⟨u1.heap.size, 9, none⟩ = some (.int .u64 (wd r 3 : Int)) ∧ W.cell? ⟨u1.heap.size, 10, none⟩ = some (.int .u64 (wd s 0 : Int)) ∧ W.cell? ⟨u1.heap.size, 11, none⟩ = some (.int .u64 (wd s 1 : Int)) ∧ W.cell? ⟨u1.heap.size, 12, none⟩ = some (.int .u64 (wd s 2 : Int)) ∧ W.cell? ⟨u1.heap.size, 13, none⟩ = some (.int .u64 (wd s 3 : Int))) ∧ Off (fun _ => False) W9 W) := Lib.hid (fun W h => ⟨Four.off HG9.out.four h, Four.off HP9.out.four h, Four.off HX9.out.four h, Four.off HY9.out.four h, fv_cells (h.heap HF9.out (fun c => c)), h⟩)
      clear hO6 hO56 hO7 hO57 HO09 hW9 HX5 HY5 HO5 HF5 HX9 HY9 HG9 HP9 HF9 f0 f1 f2 f3 f4 f5 f6 f7 f8 f9 f10 f11 f12 f13 lf FT HF0 HP HO0 HT0
      go_upto_region 9 with fail
      rw [← HW9.out]
      have hS := HK.out W9.drew (Off.refl _ W9).drew
      have hO9 := hS.2.2.2.2.2
      have hO10 := Off.refl (fun _ => False) W9
      go_region_held3 (fun w' => (w'.cell? ⟨u6.heap.size, 0, none⟩ = some (.int .u64 (wd g 0 : Int)) ∧ w'.cell? ⟨u6.heap.size, 1, none⟩ = some (.int .u64 (wd g 1 : Int)) ∧ w'.cell? ⟨u6.heap.size, 2, none⟩ = some (.int .u64 (wd g 2 : Int)) ∧ w'.cell? ⟨u6.heap.size, 3, none⟩ = some (.int .u64 (wd g 3 : Int))) ∧ (w'.cell? ⟨u2.heap.size, 0, none⟩ = some (.int .u64 (wd p 0 : Int)) ∧ w'.cell? ⟨u2.heap.size, 1, none⟩ = some (.int .u64 (wd p 1 : Int)) ∧ w'.cell? ⟨u2.heap.size, 2, none⟩ = some (.int .u64 (wd p 2 : Int)) ∧ w'.cell? ⟨u2.heap.size, 3, none⟩ = some (.int .u64 (wd p 3 : Int))) ∧ (w'.cell? ⟨b, 0, none⟩ = some (.int .u64 (wd x 0 : Int)) ∧ w'.cell? ⟨b, 1, none⟩ = some (.int .u64 (wd x 1 : Int)) ∧ w'.cell? ⟨b, 2, none⟩ = some (.int .u64 (wd x 2 : Int)) ∧ w'.cell? ⟨b, 3, none⟩ = some (.int .u64 (wd x 3 : Int))) ∧ (w'.cell? ⟨d, 0, none⟩ = some (.int .u64 (wd y 0 : Int)) ∧ w'.cell? ⟨d, 1, none⟩ = some (.int .u64 (wd y 1 : Int)) ∧ w'.cell? ⟨d, 2, none⟩ = some (.int .u64 (wd y 2 : Int)) ∧ w'.cell? ⟨d, 3, none⟩ = some (.int .u64 (wd y 3 : Int))) ∧ (w'.cell? ⟨u1.heap.size, 0, none⟩ = some (.int .i64 2) ∧ w'.cell? ⟨u1.heap.size, 1, none⟩ = some (.int .u64 (wd p 0 : Int)) ∧ w'.cell? ⟨u1.heap.size, 2, none⟩ = some (.int .u64 (wd p 1 : Int)) ∧ w'.cell? ⟨u1.heap.size, 3, none⟩ = some (.int .u64 (wd p 2 : Int)) ∧ w'.cell? ⟨u1.heap.size, 4, none⟩ = some (.int .u64 (wd p 3 : Int)) ∧ w'.cell? ⟨u1.heap.size, 5, none⟩ = some (.int .u64 (i : Int)) ∧ w'.cell? ⟨u1.heap.size, 6, none⟩ = some (.int .u64 (wd r 0 : Int)) ∧ w'.cell? ⟨u1.heap.size, 7, none⟩ = some (.int .u64 (wd r 1 : Int)) ∧ w'.cell? ⟨u1.heap.size, 8, none⟩ = some (.int .u64 (wd r 2 : Int)) ∧ w'.cell? ⟨u1.heap.size, 9, none⟩ = some (.int .u64 (wd r 3 : Int)) ∧ w'.cell? ⟨u1.heap.size, 10, none⟩ = some (.int .u64 (wd s 0 : Int)) ∧ w'.cell? ⟨u1.heap.size, 11, none⟩ = some (.int .u64 (wd s 1 : Int)) ∧ w'.cell? ⟨u1.heap.size, 12, none⟩ = some (.int .u64 (wd s 2 : Int)) ∧ w'.cell? ⟨u1.heap.size, 13, none⟩ = some (.int .u64 (wd s 3 : Int))) ∧ Off (fun _ => False) W9 w')
        ((refine HK.out _ ?_; repeat' (first | with_reducible assumption | with_reducible refine Off.drew ?_ | with_reducible refine Off.alloc ?_ _ | with_reducible refine Off.store ?_ (by omega) _ _)))
        (first
          | (go_at_call 11; refine (held_w HT9.out alive_any (by repeat' (first | with_reducible assumption | with_reducible refine Off.drew ?_ | with_reducible refine Off.alloc ?_ _ | with_reducible refine Off.store ?_ (by omega) _ _))).mono ?_; rintro e u7 ⟨rfl, hO9, hOW⟩; have hS := HK.out _ hO9)
          | (go_at_call 20; refine (held_w HT9.out FR.out (by repeat' (first | with_reducible assumption | with_reducible refine Off.drew ?_ | with_reducible refine Off.alloc ?_ _ | with_reducible refine Off.store ?_ (by omega) _ _))).mono ?_; rintro e u7 ⟨rfl, hO9, hOW⟩; have hS := HK.out _ hO9)
          | (go_at_call 12; refine (held_w HT9.out FC.out (by repeat' (first | with_reducible assumption | with_reducible refine Off.drew ?_ | with_reducible refine Off.alloc ?_ _ | with_reducible refine Off.store ?_ (by omega) _ _))).mono ?_; rintro e u7 ⟨rfl, hO9, hOW⟩; have hS := HK.out _ hO9))
      go_wp2
      go_ret
      exact ⟨rfl, HOw.out.trans hO9 (fun _ _ c => c)⟩

theorem door_met (os : Os) (args : Array Value) : laidMetH Tryd.prog [("sharecore/field.fields", Rows.laid_sharecore_field_fields)] ((World.doorLaid Tryd.prog 400 os).forCall (fun _ _ => 0) ⟨#[], args, []⟩).memory :=
  laidMetH_of_parts3 (fuel := 8) (laidMet_of_run' 8 (by kernel_rfl) (by kernel_rfl)) (by kernel_rfl) (by kernel_rfl)

set_option maxRecDepth 100000 in
theorem lifted (os : Os) (started : os.Started) (H : Type) (enc : TypeId × Value → H) :
    ReturnsInHanded {} Tryd.checked os 6 .any (fun w args => (Rows.fieldReducesSpec.pre enc Tryd.prog Tryd.f6 [] false w args ∧ laidMetH Tryd.prog [("sharecore/field.fields", Rows.laid_sharecore_field_fields)] w) ∧ sizedMet enc Tryd.prog Tryd.f6 (OpenSpec.ofChange Rows.fieldReducesSpec) false w args)
      (Rows.fieldReducesSpec.post enc Tryd.prog Tryd.f6 false true false false) := by
  refine returnsInHanded_of_change_and (C := Tryd.checked) (X := fun w _ => laidMetH Tryd.prog [("sharecore/field.fields", Rows.laid_sharecore_field_fields)] w) (fun _ _ _ hh h => h.of_heap hh) own started (by kernel_rfl) Tryd.func6
    (ChangeSpec.witness_shaped (enc := enc) (C := Tryd.checked) (os := os) (X := fun w _ => laidMetH Tryd.prog [("sharecore/field.fields", Rows.laid_sharecore_field_fields)] w) false (World.doorLaid Tryd.prog 400 os) #[.bool false, .agg #[.int .u64 0, .int .u64 0, .int .u64 0, .int .u64 0], .agg #[.int .u64 0, .int .u64 0, .int .u64 0, .int .u64 0]] 8 rfl (World.shaped_of_RefB (by kernel_rfl) (by kernel_rfl)) (by kernel_rfl) (by kernel_rfl) (by kernel_rfl) (door_met os _)) ?_
  intro W base args ds gs before hval0 hW _ _ hL _
  have hval : ∀ (j : Nat) t v, Tryd.f6.params[j]? = some t → args[j]? = some v → Value.okWide Tryd.prog W .any base t v := hval0
  have hW' := hW
  obtain ⟨p, q, hA0, hV, rfl, hfz, hnd⟩ := hW
  have hA : DataW.TrodAll enc Tryd.prog W 0 (fun _ => true) true Tryd.f6.params.toList args.toList ds p := hA0
  rw [Tryd.params6] at hA hval
  obtain ⟨v0, vs0, d0, ds0, p0, q0, hargs, rfl, rfl, h0, r0⟩ := trodAll_cons hA
  obtain ⟨v1, vs1, d1, ds1, p1, q1, rfl, rfl, rfl, h1, r1⟩ := trodAll_cons r0
  obtain ⟨v2, vs2, d2, ds2, p2, q2, rfl, rfl, rfl, h2, r2⟩ := trodAll_cons r1
  obtain ⟨rfl, rfl, rfl⟩ := trodAll_nil r2
  obtain rfl : args = #[v0, v1, v2] := by cases args; simp_all
  obtain ⟨rfl, rfl⟩ := trodVars_none hV
  obtain ⟨i0, rfl, rfl, rfl⟩ := open_bool Tryd.underlying4 (hval 0 4 v0 rfl rfl) h0
  have w0 := trivial
  have k1 := h1
  have lt1 : ∀ x ∈ p1, x.block < W.heap.size := by obtain ⟨m, hm⟩ := k1; exact DataW.trod_lt m _ _ _ hm
  obtain ⟨n1, w1, rfl⟩ := open_vec (hval 1 23 v1 rfl rfl) h1
  have k2 := h2
  have lt2 : ∀ x ∈ p2, x.block < W.heap.size := by obtain ⟨m, hm⟩ := k2; exact DataW.trod_lt m _ _ _ hm
  obtain ⟨n2, w2, rfl⟩ := open_vec (hval 2 23 v2 rfl rfl) h2
  have hT := tab_of_laid hL
  clear hA0 hval0
  refine (walk i0 n1 n2 W w0 w1 w2 hT).mono fun e W' ⟨he, hoff⟩ => ?_
  have bel : Below W.heap.size W W' := hoff.below (Nat.le_refl _) (fun _ _ c => c)
  subst he
  exact ⟨_, rfl, _, _, _, [], _, [], hW', trodAll_mk1 (shut_bool Tryd.underlying4 _), (trodAll_cons_mk (shut_bool Tryd.underlying4 _) (trodAll_cons_mk (Below.trod laidOut (by kernel_rfl) (of_decide_eq_true (by kernel_rfl)) k1 bel lt1) (trodAll_cons_mk (Below.trod laidOut (by kernel_rfl) (of_decide_eq_true (by kernel_rfl)) k2 bel lt2) trodAll_mk0))), rfl, bel.frame _, fun h => by cases h⟩

theorem over : Rows.fieldReducesRow.holds Tryd.pinned (OpenSpec.ofChange Rows.fieldReducesSpec) :=
  OpenClaim.holds_of_wide 6 Tryd.f6 rfl rfl rfl rfl rfl rfl rfl ⟨rfl, rfl, rfl, rfl, rfl⟩ rfl rfl rfl rfl rfl (by kernel_rfl) Tryd.func6 (by kernel_rfl)
    (of_decide_eq_true (by kernel_rfl)) (by unfold Func.isWrapper; first | (rw [if_pos (by decide +kernel)]; kernel_rfl) | (rw [if_neg (by decide +kernel)]; exact ⟨rfl, rfl⟩))
    (fun os started H enc _ => lifted os started H enc)

theorem proved : Rows.FieldReducesCardSaid :=
  Claim7.holds_tied_plain_at .later [] [.data] true (true, "8d33200e40fec3579d79c2056285ba5d5493a356e675c7f0ac56b4f91c6d33fd") false
    over (fun _ h => by cases h) (by kernel_rfl) (fun _ h => by cases h) fieldReduces_row_tie rfl ⟨rfl, rfl⟩ (by kernel_rfl) rfl
    (fun f fn hf hfn => by
      obtain rfl : f = 6 := Option.some.inj ((show Tryd.prog.funcNamed "sharecore/sharecorelaw04.FieldReduces" = some 6 by kernel_rfl).symm.trans hf) |>.symm
      obtain rfl : fn = Tryd.f6 := (Option.some.inj (Tryd.func6.symm.trans hfn)).symm
      exact ⟨by kernel_rfl, fun j t ht => by
        rw [Tryd.params6] at ht
        have hm : t ∈ [4, 23] := by simpa using Array.mem_of_getElem? ht
        have hall : ([4, 23].all fun u => !Tryd.prog.wantsStandIn u) = true := by kernel_rfl
        exact (show Tryd.prog.wantsStandIn t = false by simpa using List.all_eq_true.1 hall t hm)⟩)
    (by kernel_rfl)
#print axioms proved
end Go.Proofs.YtiappkokbdhgeaaDoor.fieldReduces
