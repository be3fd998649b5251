/-
  For every word and two elements, the examples of the chapter hold, Choose is one of the elements by the lowest bit of the word, and IsZero the mask of whether the first is zero: the statement of P5.3. No condition.
-/
import Derived.Test.YtpekmoegmdfmpaaDoorRows
import Derived.Test.YtpekmoegmdfmpaaDoorTie
import Derived.Test.YtpekmoegmdfmpaaDoorCards
import Derived.LaidMore
import Derived.LaidHandle
import Derived.SevenTiedAt
import Derived.Stop.Joined
import Derived.JoinedOf
import Derived.Test.YtpekmoegmdfmpaaDoorLimbOpen
import Derived.Test.YtpekmoegmdfmpaaDoorMontOpen
import Derived.Test.YtpekmoegmdfmpaaDoorFieldTab
import Derived.Test.YtpekmoegmdfmpaaDoorFieldHeld
import Derived.Test.YtpekmoegmdfmpaaDoorMontOps
import Derived.Test.YtpekmoegmdfmpaaDoorMontAlive
import Derived.Test.YtpekmoegmdfmpaaDoorInvMem
import Derived.WalkKit
import Derived.ProofKit
import Derived.OpenShut
import Derived.ShutString
import Derived.ChangeOld
import Derived.Below
namespace Go.Proofs.YtpekmoegmdfmpaaDoor.montChooses
open Go.ChangeShapes Go.WideShapes Go.ChangeAt Go.RowKit
set_option linter.unusedVariables false

theorem own : ownKnob Tryd.prog.godebug = none := by kernel_rfl
theorem laidOut : laidOutB Tryd.prog = true := by kernel_rfl

theorem elem_zero (a : Nat) (ha : a < R256) (W : World) : (Op.equalIn 10000 24 (V a) (.agg #[.int .u64 0, .int .u64 0, .int .u64 0, .int .u64 0])).run Tryd.prog W = .ok (zeroN a) W := by
  have h := equalIn_num ha (show 0 < R256 by decide) W
  rw [lit_small 0 (by decide), equalIn_four] at h
  rw [equalIn_elem]
  exact h
theorem sel_cases (m : Int) (hm : Word m) (a b : Nat) : (m % 2 = 1 ∧ selN m a b = a) ∨ (m % 2 = 0 ∧ selN m a b = b) := by
  unfold selN oddB
  rcases (show m % 2 = 1 ∨ m % 2 = 0 by omega) with h | h
  · exact .inl ⟨h, by simp [h]⟩
  · exact .inr ⟨h, by simp [h]⟩
set_option maxHeartbeats 4000000 in
theorem walk (i0 : Int) (n1 : Nat) (n2 : Nat) (w : World) (w0 : (Lit.int .u64 i0).wf = true) (w1 : n1 < R256) (w2 : n2 < R256) (hT : TabAt w) :
    Calls Tryd.prog 6 #[.int .u64 i0, V n1, V n2] w fun e w' => e = .returned (.bool true) ∧ Off (fun _ => False) w w' := by
  have hm : Word i0 := by have := bounds_u64 w0; exact ⟨by omega, by omega⟩
  have qC := fun W (_ : TabAt W) => mchoose_any i0 hm n1 n2 W
  have qZ := fun W (_ : TabAt W) => miszero_any n1 w1 W
  have q3 := fun W => elem_zero n1 w1 W
  obtain ⟨z, hz⟩ : ∃ z, z = zeroN n1 := ⟨_, rfl⟩
  rw [← hz] at qZ q3
  have FZ := Lib.hid qZ
  have FK := Lib.hid (fun W (_ : TabAt W) => mask_off z W)
  have FAL := Lib.hid (fun W hT => malive_any W hT)
  have e1 := equalIn_elem_same
  have e3 := q3
  have k0 := hm.1
  have k1 := hm.2
  clear q3 qZ hz w1 w2 w0
  rcases sel_cases i0 hm n1 n2 with ⟨hodd, hs⟩ | ⟨hodd, hs⟩
  · rw [hs] at qC
    have FC := Lib.hid qC
    have t1 : (i0 % 2 == 1) = true := by simp [hodd]
    clear qC hs hm
    obtain ⟨W9, hW9⟩ : ∃ W9, W9 = ((w.alloc (.cells #[.int .u64 (wd n1 0 : Int), .int .u64 (wd n1 1 : Int), .int .u64 (wd n1 2 : Int), .int .u64 (wd n1 3 : Int)] 24)).alloc (.cells #[.int .u64 (wd n2 0 : Int), .int .u64 (wd n2 1 : Int), .int .u64 (wd n2 2 : Int), .int .u64 (wd n2 3 : Int)] 24)).alloc (.cells #[.int .u64 (wd n1 0 : Int), .int .u64 (wd n1 1 : Int), .int .u64 (wd n1 2 : Int), .int .u64 (wd n1 3 : Int)] 24) := ⟨_, rfl⟩
    have hO : Off (fun _ => False) w W9 := by rw [hW9]; exact (((Off.refl _ w).alloc _).alloc _).alloc _
    have HA := Lib.hid (show W9.heap[w.heap.size]? = some (.cells #[.int .u64 (wd n1 0 : Int), .int .u64 (wd n1 1 : Int), .int .u64 (wd n1 2 : Int), .int .u64 (wd n1 3 : Int)] 24) by rw [hW9]; exact heap_old' (heap_old' (heap_new' rfl _) _) _)
    have HB := Lib.hid (show W9.heap[w.heap.size + 1]? = some (.cells #[.int .u64 (wd n2 0 : Int), .int .u64 (wd n2 1 : Int), .int .u64 (wd n2 2 : Int), .int .u64 (wd n2 3 : Int)] 24) by rw [hW9]; exact heap_old' (heap_new' (by simp) _) _)
    have HC := Lib.hid (show W9.heap[w.heap.size + 1 + 1]? = some (.cells #[.int .u64 (wd n1 0 : Int), .int .u64 (wd n1 1 : Int), .int .u64 (wd n1 2 : Int), .int .u64 (wd n1 3 : Int)] 24) by rw [hW9]; exact heap_new' (by simp) _)
    have HT9 := Lib.hid (hT.off hO)
    have HOw := Lib.hid hO
    have HK9 : Hid (∀ W, Off (fun _ => False) W9 W → (W.cell? ⟨w.heap.size, 0, none⟩ = some (.int .u64 (wd n1 0 : Int)) ∧ W.cell? ⟨w.heap.size, 1, none⟩ = some (.int .u64 (wd n1 1 : Int)) ∧ W.cell? ⟨w.heap.size, 2, none⟩ = some (.int .u64 (wd n1 2 : Int)) ∧ W.cell? ⟨w.heap.size, 3, none⟩ = some (.int .u64 (wd n1 3 : Int))) ∧ (W.cell? ⟨(w.heap.size + 1), 0, none⟩ = some (.int .u64 (wd n2 0 : Int)) ∧ W.cell? ⟨(w.heap.size + 1), 1, none⟩ = some (.int .u64 (wd n2 1 : Int)) ∧ W.cell? ⟨(w.heap.size + 1), 2, none⟩ = some (.int .u64 (wd n2 2 : Int)) ∧ W.cell? ⟨(w.heap.size + 1), 3, none⟩ = some (.int .u64 (wd n2 3 : Int))) ∧ (W.cell? ⟨(w.heap.size + 1 + 1), 0, none⟩ = some (.int .u64 (wd n1 0 : Int)) ∧ W.cell? ⟨(w.heap.size + 1 + 1), 1, none⟩ = some (.int .u64 (wd n1 1 : Int)) ∧ W.cell? ⟨(w.heap.size + 1 + 1), 2, none⟩ = some (.int .u64 (wd n1 2 : Int)) ∧ W.cell? ⟨(w.heap.size + 1 + 1), 3, none⟩ = some (.int .u64 (wd n1 3 : Int))) ∧ Off (fun _ => False) W9 W) := Lib.hid (fun W h => ⟨cells4 (h.heap HA.out (fun c => c)), cells4 (h.heap HB.out (fun c => c)), cells4 (h.heap HC.out (fun c => c)), h⟩)
    have HW9 := Lib.hid hW9
    clear hO hW9 hT hodd
    go_enter Tryd.func6, Tryd.ntmps6
    go_upto_region 4 with fail
    rw [← HW9.out]
    have hS := HK9.out W9.drew (Off.refl _ W9).drew
    have hO9 := hS.2.2.2
    have hO10 := Off.refl (fun _ => False) W9
    go_region_held3 (fun w' => (w'.cell? ⟨w.heap.size, 0, none⟩ = some (.int .u64 (wd n1 0 : Int)) ∧ w'.cell? ⟨w.heap.size, 1, none⟩ = some (.int .u64 (wd n1 1 : Int)) ∧ w'.cell? ⟨w.heap.size, 2, none⟩ = some (.int .u64 (wd n1 2 : Int)) ∧ w'.cell? ⟨w.heap.size, 3, none⟩ = some (.int .u64 (wd n1 3 : Int))) ∧ (w'.cell? ⟨(w.heap.size + 1), 0, none⟩ = some (.int .u64 (wd n2 0 : Int)) ∧ w'.cell? ⟨(w.heap.size + 1), 1, none⟩ = some (.int .u64 (wd n2 1 : Int)) ∧ w'.cell? ⟨(w.heap.size + 1), 2, none⟩ = some (.int .u64 (wd n2 2 : Int)) ∧ w'.cell? ⟨(w.heap.size + 1), 3, none⟩ = some (.int .u64 (wd n2 3 : Int))) ∧ (w'.cell? ⟨(w.heap.size + 1 + 1), 0, none⟩ = some (.int .u64 (wd n1 0 : Int)) ∧ w'.cell? ⟨(w.heap.size + 1 + 1), 1, none⟩ = some (.int .u64 (wd n1 1 : Int)) ∧ w'.cell? ⟨(w.heap.size + 1 + 1), 2, none⟩ = some (.int .u64 (wd n1 2 : Int)) ∧ w'.cell? ⟨(w.heap.size + 1 + 1), 3, none⟩ = some (.int .u64 (wd n1 3 : Int))) ∧ Off (fun _ => False) W9 w')
      ((refine HK9.out _ ?_; repeat' (first | with_reducible assumption | with_reducible refine Off.drew ?_ | with_reducible refine Off.alloc ?_ _ | with_reducible refine Off.store ?_ (by omega) _ _)))
      (first
        | (go_at_call 11; refine (held_w HT9.out FAL.out (by repeat' (first | with_reducible assumption | with_reducible refine Off.drew ?_ | with_reducible refine Off.alloc ?_ _ | with_reducible refine Off.store ?_ (by omega) _ _))).mono ?_; rintro e w7 ⟨rfl, hO9, hOW⟩; have hS := HK9.out _ hO9)
        | (go_at_call 22; refine (held_w HT9.out FC.out (by repeat' (first | with_reducible assumption | with_reducible refine Off.drew ?_ | with_reducible refine Off.alloc ?_ _ | with_reducible refine Off.store ?_ (by omega) _ _))).mono ?_; rintro e w7 ⟨rfl, hO9, hOW⟩; have hS := HK9.out _ hO9)
        | (go_at_call 23; refine (held_w HT9.out FZ.out (by repeat' (first | with_reducible assumption | with_reducible refine Off.drew ?_ | with_reducible refine Off.alloc ?_ _ | with_reducible refine Off.store ?_ (by omega) _ _))).mono ?_; rintro e w7 ⟨rfl, hO9, hOW⟩; have hS := HK9.out _ hO9)
        | (go_at_call 24; refine (held_w HT9.out FK.out (by repeat' (first | with_reducible assumption | with_reducible refine Off.drew ?_ | with_reducible refine Off.alloc ?_ _ | with_reducible refine Off.store ?_ (by omega) _ _))).mono ?_; rintro e w7 ⟨rfl, hO9, hOW⟩; have hS := HK9.out _ hO9))
    go_wp2
    go_ret
    exact ⟨rfl, HOw.out.trans hO9 (fun _ _ c => c)⟩
  · rw [hs] at qC
    have FC := Lib.hid qC
    have t1 : (i0 % 2 == 1) = false := by simp [hodd]
    clear qC hs hm
    obtain ⟨W9, hW9⟩ : ∃ W9, W9 = ((w.alloc (.cells #[.int .u64 (wd n1 0 : Int), .int .u64 (wd n1 1 : Int), .int .u64 (wd n1 2 : Int), .int .u64 (wd n1 3 : Int)] 24)).alloc (.cells #[.int .u64 (wd n2 0 : Int), .int .u64 (wd n2 1 : Int), .int .u64 (wd n2 2 : Int), .int .u64 (wd n2 3 : Int)] 24)).alloc (.cells #[.int .u64 (wd n2 0 : Int), .int .u64 (wd n2 1 : Int), .int .u64 (wd n2 2 : Int), .int .u64 (wd n2 3 : Int)] 24) := ⟨_, rfl⟩
    have hO : Off (fun _ => False) w W9 := by rw [hW9]; exact (((Off.refl _ w).alloc _).alloc _).alloc _
    have HA := Lib.hid (show W9.heap[w.heap.size]? = some (.cells #[.int .u64 (wd n1 0 : Int), .int .u64 (wd n1 1 : Int), .int .u64 (wd n1 2 : Int), .int .u64 (wd n1 3 : Int)] 24) by rw [hW9]; exact heap_old' (heap_old' (heap_new' rfl _) _) _)
    have HB := Lib.hid (show W9.heap[w.heap.size + 1]? = some (.cells #[.int .u64 (wd n2 0 : Int), .int .u64 (wd n2 1 : Int), .int .u64 (wd n2 2 : Int), .int .u64 (wd n2 3 : Int)] 24) by rw [hW9]; exact heap_old' (heap_new' (by simp) _) _)
    have HC := Lib.hid (show W9.heap[w.heap.size + 1 + 1]? = some (.cells #[.int .u64 (wd n2 0 : Int), .int .u64 (wd n2 1 : Int), .int .u64 (wd n2 2 : Int), .int .u64 (wd n2 3 : Int)] 24) by rw [hW9]; exact heap_new' (by simp) _)
    have HT9 := Lib.hid (hT.off hO)
    have HOw := Lib.hid hO
    have HK9 : Hid (∀ W, Off (fun _ => False) W9 W → (W.cell? ⟨w.heap.size, 0, none⟩ = some (.int .u64 (wd n1 0 : Int)) ∧ W.cell? ⟨w.heap.size, 1, none⟩ = some (.int .u64 (wd n1 1 : Int)) ∧ W.cell? ⟨w.heap.size, 2, none⟩ = some (.int .u64 (wd n1 2 : Int)) ∧ W.cell? ⟨w.heap.size, 3, none⟩ = some (.int .u64 (wd n1 3 : Int))) ∧ (W.cell? ⟨(w.heap.size + 1), 0, none⟩ = some (.int .u64 (wd n2 0 : Int)) ∧ W.cell? ⟨(w.heap.size + 1), 1, none⟩ = some (.int .u64 (wd n2 1 : Int)) ∧ W.cell? ⟨(w.heap.size + 1), 2, none⟩ = some (.int .u64 (wd n2 2 : Int)) ∧ W.cell? ⟨(w.heap.size + 1), 3, none⟩ = some (.int .u64 (wd n2 3 : Int))) ∧ (W.cell? ⟨(w.heap.size + 1 + 1), 0, none⟩ = some (.int .u64 (wd n2 0 : Int)) ∧ W.cell? ⟨(w.heap.size + 1 + 1), 1, none⟩ = some (.int .u64 (wd n2 1 : Int)) ∧ W.cell? ⟨(w.heap.size + 1 + 1), 2, none⟩ = some (.int .u64 (wd n2 2 : Int)) ∧ W.cell? ⟨(w.heap.size + 1 + 1), 3, none⟩ = some (.int .u64 (wd n2 3 : Int))) ∧ Off (fun _ => False) W9 W) := Lib.hid (fun W h => ⟨cells4 (h.heap HA.out (fun c => c)), cells4 (h.heap HB.out (fun c => c)), cells4 (h.heap HC.out (fun c => c)), h⟩)
    have HW9 := Lib.hid hW9
    clear hO hW9 hT hodd
    go_enter Tryd.func6, Tryd.ntmps6
    go_upto_region 4 with fail
    rw [← HW9.out]
    have hS := HK9.out W9.drew (Off.refl _ W9).drew
    have hO9 := hS.2.2.2
    have hO10 := Off.refl (fun _ => False) W9
    go_region_held3 (fun w' => (w'.cell? ⟨w.heap.size, 0, none⟩ = some (.int .u64 (wd n1 0 : Int)) ∧ w'.cell? ⟨w.heap.size, 1, none⟩ = some (.int .u64 (wd n1 1 : Int)) ∧ w'.cell? ⟨w.heap.size, 2, none⟩ = some (.int .u64 (wd n1 2 : Int)) ∧ w'.cell? ⟨w.heap.size, 3, none⟩ = some (.int .u64 (wd n1 3 : Int))) ∧ (w'.cell? ⟨(w.heap.size + 1), 0, none⟩ = some (.int .u64 (wd n2 0 : Int)) ∧ w'.cell? ⟨(w.heap.size + 1), 1, none⟩ = some (.int .u64 (wd n2 1 : Int)) ∧ w'.cell? ⟨(w.heap.size + 1), 2, none⟩ = some (.int .u64 (wd n2 2 : Int)) ∧ w'.cell? ⟨(w.heap.size + 1), 3, none⟩ = some (.int .u64 (wd n2 3 : Int))) ∧ (w'.cell? ⟨(w.heap.size + 1 + 1), 0, none⟩ = some (.int .u64 (wd n2 0 : Int)) ∧ w'.cell? ⟨(w.heap.size + 1 + 1), 1, none⟩ = some (.int .u64 (wd n2 1 : Int)) ∧ w'.cell? ⟨(w.heap.size + 1 + 1), 2, none⟩ = some (.int .u64 (wd n2 2 : Int)) ∧ w'.cell? ⟨(w.heap.size + 1 + 1), 3, none⟩ = some (.int .u64 (wd n2 3 : Int))) ∧ Off (fun _ => False) W9 w')
      ((refine HK9.out _ ?_; repeat' (first | with_reducible assumption | with_reducible refine Off.drew ?_ | with_reducible refine Off.alloc ?_ _ | with_reducible refine Off.store ?_ (by omega) _ _)))
      (first
        | (go_at_call 11; refine (held_w HT9.out FAL.out (by repeat' (first | with_reducible assumption | with_reducible refine Off.drew ?_ | with_reducible refine Off.alloc ?_ _ | with_reducible refine Off.store ?_ (by omega) _ _))).mono ?_; rintro e w7 ⟨rfl, hO9, hOW⟩; have hS := HK9.out _ hO9)
        | (go_at_call 22; refine (held_w HT9.out FC.out (by repeat' (first | with_reducible assumption | with_reducible refine Off.drew ?_ | with_reducible refine Off.alloc ?_ _ | with_reducible refine Off.store ?_ (by omega) _ _))).mono ?_; rintro e w7 ⟨rfl, hO9, hOW⟩; have hS := HK9.out _ hO9)
        | (go_at_call 23; refine (held_w HT9.out FZ.out (by repeat' (first | with_reducible assumption | with_reducible refine Off.drew ?_ | with_reducible refine Off.alloc ?_ _ | with_reducible refine Off.store ?_ (by omega) _ _))).mono ?_; rintro e w7 ⟨rfl, hO9, hOW⟩; have hS := HK9.out _ hO9)
        | (go_at_call 24; refine (held_w HT9.out FK.out (by repeat' (first | with_reducible assumption | with_reducible refine Off.drew ?_ | with_reducible refine Off.alloc ?_ _ | with_reducible refine Off.store ?_ (by omega) _ _))).mono ?_; rintro e w7 ⟨rfl, hO9, hOW⟩; have hS := HK9.out _ hO9))
    go_wp2
    go_ret
    exact ⟨rfl, HOw.out.trans hO9 (fun _ _ c => c)⟩

theorem door_met (os : Os) (args : Array Value) : laidMetH Tryd.prog [("sharecore/field.fields", Rows.laid_sharecore_field_fields)] ((World.doorLaid Tryd.prog 400 os).forCall (fun _ _ => 0) ⟨#[], args, []⟩).memory :=
  laidMetH_of_parts3 (fuel := 8) (laidMet_of_run' 8 (by kernel_rfl) (by kernel_rfl)) (by kernel_rfl) (by kernel_rfl)

set_option maxRecDepth 100000 in
theorem lifted (os : Os) (started : os.Started) (H : Type) (enc : TypeId × Value → H) :
    ReturnsInHanded {} Tryd.checked os 6 .any (fun w args => (Rows.montChoosesSpec.pre enc Tryd.prog Tryd.f6 [] false w args ∧ laidMetH Tryd.prog [("sharecore/field.fields", Rows.laid_sharecore_field_fields)] w) ∧ sizedMet enc Tryd.prog Tryd.f6 (OpenSpec.ofChange Rows.montChoosesSpec) false w args)
      (Rows.montChoosesSpec.post enc Tryd.prog Tryd.f6 false true false false) := by
  refine returnsInHanded_of_change_and (C := Tryd.checked) (X := fun w _ => laidMetH Tryd.prog [("sharecore/field.fields", Rows.laid_sharecore_field_fields)] w) (fun _ _ _ hh h => h.of_heap hh) own started (by kernel_rfl) Tryd.func6
    (ChangeSpec.witness_shaped (enc := enc) (C := Tryd.checked) (os := os) (X := fun w _ => laidMetH Tryd.prog [("sharecore/field.fields", Rows.laid_sharecore_field_fields)] w) false (World.doorLaid Tryd.prog 400 os) #[.int .u64 0, .agg #[.int .u64 0, .int .u64 0, .int .u64 0, .int .u64 0], .agg #[.int .u64 0, .int .u64 0, .int .u64 0, .int .u64 0]] 8 rfl (World.shaped_of_RefB (by kernel_rfl) (by kernel_rfl)) (by kernel_rfl) (by kernel_rfl) (by kernel_rfl) (door_met os _)) ?_
  intro W base args ds gs before hval0 hW _ _ hL _
  have hval : ∀ (j : Nat) t v, Tryd.f6.params[j]? = some t → args[j]? = some v → Value.okWide Tryd.prog W .any base t v := hval0
  have hW' := hW
  obtain ⟨p, q, hA0, hV, rfl, hfz, hnd⟩ := hW
  have hA : DataW.TrodAll enc Tryd.prog W 0 (fun _ => true) true Tryd.f6.params.toList args.toList ds p := hA0
  rw [Tryd.params6] at hA hval
  obtain ⟨v0, vs0, d0, ds0, p0, q0, hargs, rfl, rfl, h0, r0⟩ := trodAll_cons hA
  obtain ⟨v1, vs1, d1, ds1, p1, q1, rfl, rfl, rfl, h1, r1⟩ := trodAll_cons r0
  obtain ⟨v2, vs2, d2, ds2, p2, q2, rfl, rfl, rfl, h2, r2⟩ := trodAll_cons r1
  obtain ⟨rfl, rfl, rfl⟩ := trodAll_nil r2
  obtain rfl : args = #[v0, v1, v2] := by cases args; simp_all
  obtain ⟨rfl, rfl⟩ := trodVars_none hV
  obtain ⟨i0, rfl, rfl, rfl, w0⟩ := open_int Tryd.underlying22 (hval 0 22 v0 rfl rfl) h0
  have k1 := h1
  have lt1 : ∀ x ∈ p1, x.block < W.heap.size := by obtain ⟨m, hm⟩ := k1; exact DataW.trod_lt m _ _ _ hm
  obtain ⟨n1, w1, rfl⟩ := open_elem (hval 1 24 v1 rfl rfl) h1
  have k2 := h2
  have lt2 : ∀ x ∈ p2, x.block < W.heap.size := by obtain ⟨m, hm⟩ := k2; exact DataW.trod_lt m _ _ _ hm
  obtain ⟨n2, w2, rfl⟩ := open_elem (hval 2 24 v2 rfl rfl) h2
  have hT := tab_of_laid hL
  clear hA0 hval0
  refine (walk i0 n1 n2 W w0 w1 w2 hT).mono fun e W' ⟨he, hoff⟩ => ?_
  have bel : Below W.heap.size W W' := hoff.below (Nat.le_refl _) (fun _ _ c => c)
  subst he
  exact ⟨_, rfl, _, _, _, [], _, [], hW', trodAll_mk1 (shut_bool Tryd.underlying4 _), (trodAll_cons_mk (shut_int Tryd.underlying22 w0) (trodAll_cons_mk (Below.trod laidOut (by kernel_rfl) (of_decide_eq_true (by kernel_rfl)) k1 bel lt1) (trodAll_cons_mk (Below.trod laidOut (by kernel_rfl) (of_decide_eq_true (by kernel_rfl)) k2 bel lt2) trodAll_mk0))), rfl, bel.frame _, fun h => by cases h⟩

theorem over : Rows.montChoosesRow.holds Tryd.pinned (OpenSpec.ofChange Rows.montChoosesSpec) :=
  OpenClaim.holds_of_wide 6 Tryd.f6 rfl rfl rfl rfl rfl rfl rfl ⟨rfl, rfl, rfl, rfl, rfl⟩ rfl rfl rfl rfl rfl (by kernel_rfl) Tryd.func6 (by kernel_rfl)
    (of_decide_eq_true (by kernel_rfl)) (by unfold Func.isWrapper; first | (rw [if_pos (by decide +kernel)]; kernel_rfl) | (rw [if_neg (by decide +kernel)]; exact ⟨rfl, rfl⟩))
    (fun os started H enc _ => lifted os started H enc)

theorem proved : Rows.MontChoosesCardSaid :=
  Claim7.holds_tied_plain_at .later [] [.data] true (true, "4c6eef73345a3410bd4bab3dc88cb1ebf74aad4678ff4b3ba42a5157f493b774") false
    over (fun _ h => by cases h) (by kernel_rfl) (fun _ h => by cases h) montChooses_row_tie rfl ⟨rfl, rfl⟩ (by kernel_rfl) rfl
    (fun f fn hf hfn => by
      obtain rfl : f = 6 := Option.some.inj ((show Tryd.prog.funcNamed "sharecore/sharecorelaw05.MontChooses" = some 6 by kernel_rfl).symm.trans hf) |>.symm
      obtain rfl : fn = Tryd.f6 := (Option.some.inj (Tryd.func6.symm.trans hfn)).symm
      exact ⟨by kernel_rfl, fun j t ht => by
        rw [Tryd.params6] at ht
        have hm : t ∈ [22, 24] := by simpa using Array.mem_of_getElem? ht
        have hall : ([22, 24].all fun u => !Tryd.prog.wantsStandIn u) = true := by kernel_rfl
        exact (show Tryd.prog.wantsStandIn t = false by simpa using List.all_eq_true.1 hall t hm)⟩)
    (by kernel_rfl)
#print axioms proved
end Go.Proofs.YtpekmoegmdfmpaaDoor.montChooses
