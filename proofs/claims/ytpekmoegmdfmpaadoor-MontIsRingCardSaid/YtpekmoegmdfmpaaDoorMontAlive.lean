/-
  The examples of layer 5's chapter hold: the function 'alive' of its statements returns true and changes nothing that lay in memory before. Condition: the table of fields lies in memory as it was laid.
-/
import Derived.Test.YtpekmoegmdfmpaaDoorMontOps
namespace Go.Proofs.YtpekmoegmdfmpaaDoor
open Go.RowKit

theorem fld1_one : fm P1 (1 % P1) = 38 := by decide +kernel
theorem fld1_sum : ((P1 - 38) % P1 + fm P1 (2 % P1)) % P1 = 38 := by decide +kernel
theorem fld1_from : mm P1 38 1 = 1 := by
  have h := mm_one mp1 1
  rw [show fm P1 1 = 38 by decide +kernel] at h
  exact h.trans (by decide +kernel)
set_option maxRecDepth 100000 in
set_option maxHeartbeats 4000000 in
theorem malive_any (w : World) (hT : TabAt w) : Calls Tryd.prog 11 #[] w fun e w' => e = .returned (.bool true) ∧ Off (fun _ => False) w w' := by
  have hF := fld1
  have c38 : (38 : Nat) < P1 := by decide +kernel
  have q0 := fun W hT => fget_in 1 P1 p1_lt p1_one rfl W hT
  have q1 := fun W (_ : TabAt W) => mto_any hF 1 (by decide) W
  have q2 := fun W (_ : TabAt W) => mto_any hF 2 (by decide) W
  have q3 := fun W (_ : TabAt W) => mfrom_any hF 38 c38 W
  have q4 := fun W (_ : TabAt W) => mneg_any hF 38 c38 W
  have q5 := fun W (_ : TabAt W) => madd_any hF ((P1 - 38) % P1) (fm P1 (2 % P1)) (Nat.mod_lt _ (by decide)) (fm_lt (by decide) _) W
  simp only [fld1_one, fld1_sum, fld1_from, lit_small 38 (by decide), lit_small 1 (by decide), lit_small 2 (by decide)] at q1 q2 q3 q4 q5
  obtain ⟨k, hk⟩ : ∃ k, k = (P1 - 38) % P1 := ⟨_, rfl⟩
  obtain ⟨j, hj⟩ : ∃ j, j = fm P1 (2 % P1) := ⟨_, rfl⟩
  obtain ⟨i, hi⟩ : ∃ i, i = negInv (wd P1 0) := ⟨_, rfl⟩
  obtain ⟨s, hs⟩ : ∃ s, s = radV P1 256 * radV P1 256 % P1 := ⟨_, rfl⟩
  obtain ⟨r, hr⟩ : ∃ r, r = radV P1 256 := ⟨_, rfl⟩
  obtain ⟨p, hp⟩ : ∃ p, p = P1 := ⟨_, rfl⟩
  simp only [← hs] at q0 q1 q2 q3 q4 q5
  simp only [← hi, ← hr] at q0 q1 q2 q3 q4 q5
  simp only [← hk] at q4 q5
  simp only [← hj] at q2 q5
  simp only [← hp] at q0 q1 q2 q3 q4 q5
  have FG := Lib.hid q0
  have F1 := Lib.hid q1
  have F2 := Lib.hid q2
  have FF := Lib.hid q3
  have FN := Lib.hid q4
  have FA := Lib.hid q5
  have e1 : ∀ W, (Op.equalIn 10000 24 (.agg #[.int .u64 38, .int .u64 0, .int .u64 0, .int .u64 0]) (.agg #[.int .u64 38, .int .u64 0, .int .u64 0, .int .u64 0])).run Tryd.prog W = .ok true W := fun W => by rw [equalIn_elem]; simp
  have e2 : ∀ W, (Op.equalIn 10000 23 (.agg #[.int .u64 1, .int .u64 0, .int .u64 0, .int .u64 0]) (.agg #[.int .u64 1, .int .u64 0, .int .u64 0, .int .u64 0])).run Tryd.prog W = .ok true W := fun W => by rw [equalIn_four]; simp
  have HT := Lib.hid hT
  clear q0 q1 q2 q3 q4 q5 hk hj hi hs hr hp hF c38 hT
  go_enter Tryd.func11, Tryd.ntmps11
  go_wp2_with fail
  refine (FG.out _ HT.out).mono ?_
  rintro e u1 ⟨rfl, hO1⟩
  have HT1 := Lib.hid ((HT.out.off hO1).off ((Off.refl _ u1).alloc (.cells #[.int .i64 1, .int .u64 (wd p 0 : Int), .int .u64 (wd p 1 : Int), .int .u64 (wd p 2 : Int), .int .u64 (wd p 3 : Int), .int .u64 (i : Int), .int .u64 (wd r 0 : Int), .int .u64 (wd r 1 : Int), .int .u64 (wd r 2 : Int), .int .u64 (wd r 3 : Int), .int .u64 (wd s 0 : Int), .int .u64 (wd s 1 : Int), .int .u64 (wd s 2 : Int), .int .u64 (wd s 3 : Int)] 26)))
  have HO1 := Lib.hid hO1
  clear hO1 HT
  go_wp2_with fail
  refine (F1.out _ HT1.out).mono ?_
  rintro e u2 ⟨rfl, hO2⟩
  obtain ⟨W9, hW9⟩ : ∃ W9, W9 = u2.alloc (.cells #[.int .u64 38, .int .u64 0, .int .u64 0, .int .u64 0] 24) := ⟨_, rfl⟩
  have h12 : Off (fun _ => False) u1 u2 := ((Off.refl _ u1).alloc _).trans hO2 (fun _ _ c => c)
  have h29 : Off (fun _ => False) u2 W9 := by rw [hW9]; exact (Off.refl _ u2).alloc _
  have HFc := Lib.hid (show W9.heap[u1.heap.size]? = some (.cells #[.int .i64 1, .int .u64 (wd p 0 : Int), .int .u64 (wd p 1 : Int), .int .u64 (wd p 2 : Int), .int .u64 (wd p 3 : Int), .int .u64 (i : Int), .int .u64 (wd r 0 : Int), .int .u64 (wd r 1 : Int), .int .u64 (wd r 2 : Int), .int .u64 (wd r 3 : Int), .int .u64 (wd s 0 : Int), .int .u64 (wd s 1 : Int), .int .u64 (wd s 2 : Int), .int .u64 (wd s 3 : Int)] 26) from h29.heap (hO2.heap (heap_new' rfl _) (fun c => c)) (fun c => c))
  have HEc := Lib.hid (show W9.heap[u2.heap.size]? = some (.cells #[.int .u64 38, .int .u64 0, .int .u64 0, .int .u64 0] 24) by rw [hW9]; exact heap_new' rfl _)
  have HT9 := Lib.hid ((HT1.out.off hO2).off h29)
  have HOw := Lib.hid ((HO1.out.trans h12 (fun _ _ c => c)).trans h29 (fun _ _ c => c))
  have HK9 : Hid (∀ W, Off (fun _ => False) W9 W → (W.cell? ⟨u1.heap.size, 0, none⟩ = some (.int .i64 1) ∧ W.cell? ⟨u1.heap.size, 1, none⟩ = some (.int .u64 (wd p 0 : Int)) ∧ W.cell? ⟨u1.heap.size, 2, none⟩ = some (.int .u64 (wd p 1 : Int)) ∧ W.cell? ⟨u1.heap.size, 3, none⟩ = some (.int .u64 (wd p 2 : Int)) ∧ W.cell? ⟨u1.heap.size, 4, none⟩ = some (.int .u64 (wd p 3 : Int)) ∧ W.cell? ⟨u1.heap.size, 5, none⟩ = some (.int .u64 (i : Int)) ∧ W.cell? ⟨u1.heap.size, 6, none⟩ = some (.int .u64 (wd r 0 : Int)) ∧ W.cell? ⟨u1.heap.size, 7, none⟩ = some (.int .u64 (wd r 1 : Int)) ∧ W.cell? ⟨u1.heap.size, 8, none⟩ = some (.int .u64 (wd r 2 : Int)) ∧ W.cell? ⟨u1.heap.size, 9, none⟩ = some (.int .u64 (wd r 3 : Int)) ∧ W.cell? ⟨u1.heap.size, 10, none⟩ = some (.int .u64 (wd s 0 : Int)) ∧ W.cell? ⟨u1.heap.size, 11, none⟩ = some (.int .u64 (wd s 1 : Int)) ∧ W.cell? ⟨u1.heap.size, 12, none⟩ = some (.int .u64 (wd s 2 : Int)) ∧ W.cell? ⟨u1.heap.size, 13, none⟩ = some (.int .u64 (wd s 3 : Int))) ∧ (W.cell? ⟨u2.heap.size, 0, none⟩ = some (.int .u64 38) ∧ W.cell? ⟨u2.heap.size, 1, none⟩ = some (.int .u64 0) ∧ W.cell? ⟨u2.heap.size, 2, none⟩ = some (.int .u64 0) ∧ W.cell? ⟨u2.heap.size, 3, none⟩ = some (.int .u64 0)) ∧ Off (fun _ => False) W9 W) := Lib.hid (fun W h => ⟨fv_cells (h.heap HFc.out (fun c => c)), cells4 (h.heap HEc.out (fun c => c)), h⟩)
  have HW9 := Lib.hid hW9
  clear hO2 hW9 h12 h29 HT1 HO1 FG F1
  go_upto_region 3 with fail
  rw [← HW9.out]
  have hS := HK9.out W9.drew (Off.refl _ W9).drew
  have hO9 := hS.2.2
  have hO10 := Off.refl (fun _ => False) W9
  go_region_held3 (fun w' => (w'.cell? ⟨u1.heap.size, 0, none⟩ = some (.int .i64 1) ∧ w'.cell? ⟨u1.heap.size, 1, none⟩ = some (.int .u64 (wd p 0 : Int)) ∧ w'.cell? ⟨u1.heap.size, 2, none⟩ = some (.int .u64 (wd p 1 : Int)) ∧ w'.cell? ⟨u1.heap.size, 3, none⟩ = some (.int .u64 (wd p 2 : Int)) ∧ w'.cell? ⟨u1.heap.size, 4, none⟩ = some (.int .u64 (wd p 3 : Int)) ∧ w'.cell? ⟨u1.heap.size, 5, none⟩ = some (.int .u64 (i : Int)) ∧ w'.cell? ⟨u1.heap.size, 6, none⟩ = some (.int .u64 (wd r 0 : Int)) ∧ w'.cell? ⟨u1.heap.size, 7, none⟩ = some (.int .u64 (wd r 1 : Int)) ∧ w'.cell? ⟨u1.heap.size, 8, none⟩ = some (.int .u64 (wd r 2 : Int)) ∧ w'.cell? ⟨u1.heap.size, 9, none⟩ = some (.int .u64 (wd r 3 : Int)) ∧ w'.cell? ⟨u1.heap.size, 10, none⟩ = some (.int .u64 (wd s 0 : Int)) ∧ w'.cell? ⟨u1.heap.size, 11, none⟩ = some (.int .u64 (wd s 1 : Int)) ∧ w'.cell? ⟨u1.heap.size, 12, none⟩ = some (.int .u64 (wd s 2 : Int)) ∧ w'.cell? ⟨u1.heap.size, 13, none⟩ = some (.int .u64 (wd s 3 : Int))) ∧ (w'.cell? ⟨u2.heap.size, 0, none⟩ = some (.int .u64 38) ∧ w'.cell? ⟨u2.heap.size, 1, none⟩ = some (.int .u64 0) ∧ w'.cell? ⟨u2.heap.size, 2, none⟩ = some (.int .u64 0) ∧ w'.cell? ⟨u2.heap.size, 3, none⟩ = some (.int .u64 0)) ∧ Off (fun _ => False) W9 w')
    ((refine HK9.out _ ?_; repeat' (first | with_reducible assumption | with_reducible refine Off.drew ?_ | with_reducible refine Off.alloc ?_ _ | with_reducible refine Off.store ?_ (by omega) _ _)))
    (first
      | (go_at_call 21; refine (held_w HT9.out FF.out (by repeat' (first | with_reducible assumption | with_reducible refine Off.drew ?_ | with_reducible refine Off.alloc ?_ _ | with_reducible refine Off.store ?_ (by omega) _ _))).mono ?_; rintro e w7 ⟨rfl, hO9, hOW⟩; have hS := HK9.out _ hO9)
      | (go_at_call 19; refine (held_w HT9.out FN.out (by repeat' (first | with_reducible assumption | with_reducible refine Off.drew ?_ | with_reducible refine Off.alloc ?_ _ | with_reducible refine Off.store ?_ (by omega) _ _))).mono ?_; rintro e w7 ⟨rfl, hO9, hOW⟩; have hS := HK9.out _ hO9)
      | (go_at_call 20; refine (held_w HT9.out F2.out (by repeat' (first | with_reducible assumption | with_reducible refine Off.drew ?_ | with_reducible refine Off.alloc ?_ _ | with_reducible refine Off.store ?_ (by omega) _ _))).mono ?_; rintro e w7 ⟨rfl, hO9, hOW⟩; have hS := HK9.out _ hO9)
      | (go_at_call 15; refine (held_w HT9.out FA.out (by repeat' (first | with_reducible assumption | with_reducible refine Off.drew ?_ | with_reducible refine Off.alloc ?_ _ | with_reducible refine Off.store ?_ (by omega) _ _))).mono ?_; rintro e w7 ⟨rfl, hO9, hOW⟩; have hS := HK9.out _ hO9))
  go_wp2
  go_ret
  exact ⟨rfl, HOw.out.trans hO9 (fun _ _ c => c)⟩
end Go.Proofs.YtpekmoegmdfmpaaDoor
