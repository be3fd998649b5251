/-
  For every field and number, the examples of the chapter hold, To is the form of the number modulo p, and From its value: the statement of P5.2 and P5.4. No condition.
-/
import Derived.Test.YtpekmoegmdfmpaaDoorRows
import Derived.Test.YtpekmoegmdfmpaaDoorTie
import Derived.Test.YtpekmoegmdfmpaaDoorCards
import Derived.LaidMore
import Derived.LaidHandle
import Derived.SevenTiedAt
import Derived.Stop.Joined
import Derived.JoinedOf
import Derived.Test.YtpekmoegmdfmpaaDoorLimbOpen
import Derived.Test.YtpekmoegmdfmpaaDoorMontOpen
import Derived.Test.YtpekmoegmdfmpaaDoorFieldTab
import Derived.Test.YtpekmoegmdfmpaaDoorFieldHeld
import Derived.Test.YtpekmoegmdfmpaaDoorMontOps
import Derived.Test.YtpekmoegmdfmpaaDoorMontAlive
import Derived.Test.YtpekmoegmdfmpaaDoorInvMem
import Derived.WalkKit
import Derived.ProofKit
import Derived.OpenShut
import Derived.ShutString
import Derived.ChangeOld
import Derived.Below
namespace Go.Proofs.YtpekmoegmdfmpaaDoor.montConverts
open Go.ChangeShapes Go.WideShapes Go.ChangeAt Go.RowKit
set_option linter.unusedVariables false

theorem own : ownKnob Tryd.prog.godebug = none := by kernel_rfl
theorem laidOut : laidOutB Tryd.prog = true := by kernel_rfl

set_option maxHeartbeats 4000000 in
theorem walk (i0 : Bool) (n1 : Nat) (w : World) (w0 : True) (w1 : n1 < R256) (hT : TabAt w) :
    Calls Tryd.prog 5 #[.bool i0, V n1] w fun e w' => e = .returned (.bool true) ∧ Off (fun _ => False) w w' := by
  obtain ⟨id, p, i, r, s, hF, hid⟩ := fld_of i0
  have hp := hF.mp.lt
  have h1 := hF.mp.one
  have qP := fun W hT => pair_any i0 hF hid n1 n1 w1 w1 W hT
  obtain ⟨x, hx⟩ : ∃ x, x = n1 % p := ⟨_, rfl⟩
  have hxp : x < p := by rw [hx]; exact Nat.mod_lt _ (by omega)
  rw [← hx] at qP
  have FP := Lib.hid qP
  obtain ⟨u, hu⟩ : ∃ u, u = fm p x := ⟨_, rfl⟩
  have hup : u < p := by rw [hu]; exact fm_lt (by omega) _
  have FU : Hid (∀ W, TabAt W → Calls Tryd.prog 10 #[V p, V x] W fun e w' => e = .returned (V u) ∧ Off (fun _ => False) W w') := Lib.hid (fun W hT => by have h := lform_any p x hp h1 (by have := hxp; omega) W; rw [← hu] at h; exact h)
  have FTO : Hid (∀ W, TabAt W → Calls Tryd.prog 20 #[FV id p i r s, V n1] W fun e w' => e = .returned (V u) ∧ Off (fun _ => False) W w') := Lib.hid (fun W hT => by have h := mto_any hF n1 w1 W; rw [← hx, ← hu] at h; exact h)
  have FFR : Hid (∀ W, TabAt W → Calls Tryd.prog 21 #[FV id p i r s, V u] W fun e w' => e = .returned (V x) ∧ Off (fun _ => False) W w') := Lib.hid (fun W hT => by have h := mfrom_any hF u hup W; rw [show mm p u 1 = x by rw [hu, mm_one hF.mp, Nat.mod_eq_of_lt hxp]] at h; exact h)
  have FAL : Hid (∀ W, TabAt W → Calls Tryd.prog 11 #[] W fun e w' => e = .returned (.bool true) ∧ Off (fun _ => False) W w') := Lib.hid (fun W hT => by exact malive_any W hT)
  clear qP hp h1 hx hxp hu hup hF hid w0 w1 
  have e1 := equalIn_elem_same
  have e2 := equalIn_same
  go_enter Tryd.func5, Tryd.ntmps5
  go_wp2_with fail
  refine (FP.out _ (hT.off ((Off.refl _ w).alloc _))).mono ?_
  rintro e u0 ⟨rfl, hO1⟩
  obtain ⟨W0, hW0⟩ : ∃ W0, W0 = (((u0.alloc (.cells #[.int .i64 id, .int .u64 (wd p 0 : Int), .int .u64 (wd p 1 : Int), .int .u64 (wd p 2 : Int), .int .u64 (wd p 3 : Int), .int .u64 (i : Int), .int .u64 (wd r 0 : Int), .int .u64 (wd r 1 : Int), .int .u64 (wd r 2 : Int), .int .u64 (wd r 3 : Int), .int .u64 (wd s 0 : Int), .int .u64 (wd s 1 : Int), .int .u64 (wd s 2 : Int), .int .u64 (wd s 3 : Int)] 26)).alloc (.cells #[.int .u64 (wd p 0 : Int), .int .u64 (wd p 1 : Int), .int .u64 (wd p 2 : Int), .int .u64 (wd p 3 : Int)] 23)).alloc (.cells #[.int .u64 (wd x 0 : Int), .int .u64 (wd x 1 : Int), .int .u64 (wd x 2 : Int), .int .u64 (wd x 3 : Int)] 23)).alloc (.cells #[.int .u64 (wd x 0 : Int), .int .u64 (wd x 1 : Int), .int .u64 (wd x 2 : Int), .int .u64 (wd x 3 : Int)] 23) := ⟨_, rfl⟩
  have hO : Off (fun _ => False) w W0 := by rw [hW0]; exact ((((((Off.refl _ w).alloc _).trans hO1 (fun _ _ c => c)).alloc _).alloc _).alloc _).alloc _
  have HF0 := Lib.hid (show W0.heap[u0.heap.size]? = some (.cells #[.int .i64 id, .int .u64 (wd p 0 : Int), .int .u64 (wd p 1 : Int), .int .u64 (wd p 2 : Int), .int .u64 (wd p 3 : Int), .int .u64 (i : Int), .int .u64 (wd r 0 : Int), .int .u64 (wd r 1 : Int), .int .u64 (wd r 2 : Int), .int .u64 (wd r 3 : Int), .int .u64 (wd s 0 : Int), .int .u64 (wd s 1 : Int), .int .u64 (wd s 2 : Int), .int .u64 (wd s 3 : Int)] 26) by rw [hW0]; exact heap_old' (heap_old' (heap_old' (heap_new' rfl _) _) _) _)
  have HP0 := Lib.hid (show NumAt W0 (u0.heap.size + 1) p by rw [hW0]; exact heap_old' (heap_old' (heap_new' (by simp) _) _) _)
  have HX0 := Lib.hid (show NumAt W0 (u0.heap.size + 1 + 1) x by rw [hW0]; exact heap_old' (heap_new' (by simp) _) _)
  have HY0 := Lib.hid (show NumAt W0 (u0.heap.size + 1 + 1 + 1) x by rw [hW0]; exact heap_new' (by simp) _)
  have HA0 := Lib.hid (show NumAt W0 w.heap.size n1 by rw [hW0]; exact heap_old' (heap_old' (heap_old' (heap_old' (hO1.heap (heap_new' rfl _) (fun c => c)) _) _) _) _)
  have HT0 := Lib.hid (hT.off hO)
  have HTW := Lib.hid (fun W (h : Off (fun _ => False) W0 W) => HT0.out.off h)
  have HO0 := Lib.hid hO
  have HW0 := Lib.hid hW0
  obtain ⟨f0, f1, f2, f3, f4, f5, f6, f7, f8, f9, f10, f11, f12, f13⟩ := fv_cells HF0.out
  obtain ⟨a0, a1, a2, a3⟩ := HA0.out.four
  have lf := heap_lt HF0.out
  have la := HA0.out.lt
  clear hO hO1 hT hW0 FP HA0
  go_upto_region 2 with fail
  rw [← HW0.out]
  go_wp2_with fail
  refine (FTO.out _ HT0.out).mono ?_
  rintro e u1 ⟨rfl, hO2⟩
  obtain ⟨W9, hW9⟩ : ∃ W9, W9 = u1.alloc (.cells #[.int .u64 (wd u 0 : Int), .int .u64 (wd u 1 : Int), .int .u64 (wd u 2 : Int), .int .u64 (wd u 3 : Int)] 24) := ⟨_, rfl⟩
  have hO9 : Off (fun _ => False) W0 W9 := by rw [hW9]; exact hO2.alloc _
  have HFc := Lib.hid (hO9.heap HF0.out (fun c => c))
  have HPc := Lib.hid (show NumAt W9 (u0.heap.size + 1) p from hO9.heap HP0.out (fun c => c))
  have HXc := Lib.hid (show NumAt W9 (u0.heap.size + 1 + 1) x from hO9.heap HX0.out (fun c => c))
  have HUc := Lib.hid (show W9.heap[u1.heap.size]? = some (.cells #[.int .u64 (wd u 0 : Int), .int .u64 (wd u 1 : Int), .int .u64 (wd u 2 : Int), .int .u64 (wd u 3 : Int)] 24) by rw [hW9]; exact heap_new' rfl _)
  have HT9 := Lib.hid (HT0.out.off hO9)
  have HOw := Lib.hid (HO0.out.trans hO9 (fun _ _ c => c))
  have HK9 : Hid (∀ W, Off (fun _ => False) W9 W → (W.cell? ⟨u0.heap.size, 0, none⟩ = some (.int .i64 id) ∧ W.cell? ⟨u0.heap.size, 1, none⟩ = some (.int .u64 (wd p 0 : Int)) ∧ W.cell? ⟨u0.heap.size, 2, none⟩ = some (.int .u64 (wd p 1 : Int)) ∧ W.cell? ⟨u0.heap.size, 3, none⟩ = some (.int .u64 (wd p 2 : Int)) ∧ W.cell? ⟨u0.heap.size, 4, none⟩ = some (.int .u64 (wd p 3 : Int)) ∧ W.cell? ⟨u0.heap.size, 5, none⟩ = some (.int .u64 (i : Int)) ∧ W.cell? ⟨u0.heap.size, 6, none⟩ = some (.int .u64 (wd r 0 : Int)) ∧ W.cell? ⟨u0.heap.size, 7, none⟩ = some (.int .u64 (wd r 1 : Int)) ∧ W.cell? ⟨u0.heap.size, 8, none⟩ = some (.int .u64 (wd r 2 : Int)) ∧ W.cell? ⟨u0.heap.size, 9, none⟩ = some (.int .u64 (wd r 3 : Int)) ∧ W.cell? ⟨u0.heap.size, 10, none⟩ = some (.int .u64 (wd s 0 : Int)) ∧ W.cell? ⟨u0.heap.size, 11, none⟩ = some (.int .u64 (wd s 1 : Int)) ∧ W.cell? ⟨u0.heap.size, 12, none⟩ = some (.int .u64 (wd s 2 : Int)) ∧ W.cell? ⟨u0.heap.size, 13, none⟩ = some (.int .u64 (wd s 3 : Int))) ∧ (W.cell? ⟨(u0.heap.size + 1), 0, none⟩ = some (.int .u64 (wd p 0 : Int)) ∧ W.cell? ⟨(u0.heap.size + 1), 1, none⟩ = some (.int .u64 (wd p 1 : Int)) ∧ W.cell? ⟨(u0.heap.size + 1), 2, none⟩ = some (.int .u64 (wd p 2 : Int)) ∧ W.cell? ⟨(u0.heap.size + 1), 3, none⟩ = some (.int .u64 (wd p 3 : Int))) ∧ (W.cell? ⟨(u0.heap.size + 1 + 1), 0, none⟩ = some (.int .u64 (wd x 0 : Int)) ∧ W.cell? ⟨(u0.heap.size + 1 + 1), 1, none⟩ = some (.int .u64 (wd x 1 : Int)) ∧ W.cell? ⟨(u0.heap.size + 1 + 1), 2, none⟩ = some (.int .u64 (wd x 2 : Int)) ∧ W.cell? ⟨(u0.heap.size + 1 + 1), 3, none⟩ = some (.int .u64 (wd x 3 : Int))) ∧ (W.cell? ⟨u1.heap.size, 0, none⟩ = some (.int .u64 (wd u 0 : Int)) ∧ W.cell? ⟨u1.heap.size, 1, none⟩ = some (.int .u64 (wd u 1 : Int)) ∧ W.cell? ⟨u1.heap.size, 2, none⟩ = some (.int .u64 (wd u 2 : Int)) ∧ W.cell? ⟨u1.heap.size, 3, none⟩ = some (.int .u64 (wd u 3 : Int))) ∧ Off (fun _ => False) W9 W) := Lib.hid (fun W h => ⟨fv_cells (h.heap HFc.out (fun c => c)), Four.off HPc.out.four h, Four.off HXc.out.four h, cells4 (h.heap HUc.out (fun c => c)), h⟩)
  have HW9 := Lib.hid hW9
  clear hO2 hO9 hW9 f0 f1 f2 f3 f4 f5 f6 f7 f8 f9 f10 f11 f12 f13 lf la a0 a1 a2 a3 HF0 HP0 HX0 HY0 HTW FTO
  go_upto_region 3 with fail
  rw [← HW9.out]
  have hS := HK9.out W9.drew (Off.refl _ W9).drew
  have hO9 := hS.2.2.2.2
  have hO10 := Off.refl (fun _ => False) W9
  go_region_held3 (fun w' => (w'.cell? ⟨u0.heap.size, 0, none⟩ = some (.int .i64 id) ∧ w'.cell? ⟨u0.heap.size, 1, none⟩ = some (.int .u64 (wd p 0 : Int)) ∧ w'.cell? ⟨u0.heap.size, 2, none⟩ = some (.int .u64 (wd p 1 : Int)) ∧ w'.cell? ⟨u0.heap.size, 3, none⟩ = some (.int .u64 (wd p 2 : Int)) ∧ w'.cell? ⟨u0.heap.size, 4, none⟩ = some (.int .u64 (wd p 3 : Int)) ∧ w'.cell? ⟨u0.heap.size, 5, none⟩ = some (.int .u64 (i : Int)) ∧ w'.cell? ⟨u0.heap.size, 6, none⟩ = some (.int .u64 (wd r 0 : Int)) ∧ w'.cell? ⟨u0.heap.size, 7, none⟩ = some (.int .u64 (wd r 1 : Int)) ∧ w'.cell? ⟨u0.heap.size, 8, none⟩ = some (.int .u64 (wd r 2 : Int)) ∧ w'.cell? ⟨u0.heap.size, 9, none⟩ = some (.int .u64 (wd r 3 : Int)) ∧ w'.cell? ⟨u0.heap.size, 10, none⟩ = some (.int .u64 (wd s 0 : Int)) ∧ w'.cell? ⟨u0.heap.size, 11, none⟩ = some (.int .u64 (wd s 1 : Int)) ∧ w'.cell? ⟨u0.heap.size, 12, none⟩ = some (.int .u64 (wd s 2 : Int)) ∧ w'.cell? ⟨u0.heap.size, 13, none⟩ = some (.int .u64 (wd s 3 : Int))) ∧ (w'.cell? ⟨(u0.heap.size + 1), 0, none⟩ = some (.int .u64 (wd p 0 : Int)) ∧ w'.cell? ⟨(u0.heap.size + 1), 1, none⟩ = some (.int .u64 (wd p 1 : Int)) ∧ w'.cell? ⟨(u0.heap.size + 1), 2, none⟩ = some (.int .u64 (wd p 2 : Int)) ∧ w'.cell? ⟨(u0.heap.size + 1), 3, none⟩ = some (.int .u64 (wd p 3 : Int))) ∧ (w'.cell? ⟨(u0.heap.size + 1 + 1), 0, none⟩ = some (.int .u64 (wd x 0 : Int)) ∧ w'.cell? ⟨(u0.heap.size + 1 + 1), 1, none⟩ = some (.int .u64 (wd x 1 : Int)) ∧ w'.cell? ⟨(u0.heap.size + 1 + 1), 2, none⟩ = some (.int .u64 (wd x 2 : Int)) ∧ w'.cell? ⟨(u0.heap.size + 1 + 1), 3, none⟩ = some (.int .u64 (wd x 3 : Int))) ∧ (w'.cell? ⟨u1.heap.size, 0, none⟩ = some (.int .u64 (wd u 0 : Int)) ∧ w'.cell? ⟨u1.heap.size, 1, none⟩ = some (.int .u64 (wd u 1 : Int)) ∧ w'.cell? ⟨u1.heap.size, 2, none⟩ = some (.int .u64 (wd u 2 : Int)) ∧ w'.cell? ⟨u1.heap.size, 3, none⟩ = some (.int .u64 (wd u 3 : Int))) ∧ Off (fun _ => False) W9 w')
    ((refine HK9.out _ ?_; repeat' (first | with_reducible assumption | with_reducible refine Off.drew ?_ | with_reducible refine Off.alloc ?_ _ | with_reducible refine Off.store ?_ (by omega) _ _)))
    (first
      | (go_at_call 11; refine (held_w HT9.out FAL.out (by repeat' (first | with_reducible assumption | with_reducible refine Off.drew ?_ | with_reducible refine Off.alloc ?_ _ | with_reducible refine Off.store ?_ (by omega) _ _))).mono ?_; rintro e w7 ⟨rfl, hO9, hOW⟩; have hS := HK9.out _ hO9)
      | (go_at_call 10; refine (held_w HT9.out FU.out (by repeat' (first | with_reducible assumption | with_reducible refine Off.drew ?_ | with_reducible refine Off.alloc ?_ _ | with_reducible refine Off.store ?_ (by omega) _ _))).mono ?_; rintro e w7 ⟨rfl, hO9, hOW⟩; have hS := HK9.out _ hO9)
      | (go_at_call 21; refine (held_w HT9.out FFR.out (by repeat' (first | with_reducible assumption | with_reducible refine Off.drew ?_ | with_reducible refine Off.alloc ?_ _ | with_reducible refine Off.store ?_ (by omega) _ _))).mono ?_; rintro e w7 ⟨rfl, hO9, hOW⟩; have hS := HK9.out _ hO9))
  go_wp2
  go_ret
  exact ⟨rfl, HOw.out.trans hO9 (fun _ _ c => c)⟩

theorem door_met (os : Os) (args : Array Value) : laidMetH Tryd.prog [("sharecore/field.fields", Rows.laid_sharecore_field_fields)] ((World.doorLaid Tryd.prog 400 os).forCall (fun _ _ => 0) ⟨#[], args, []⟩).memory :=
  laidMetH_of_parts3 (fuel := 8) (laidMet_of_run' 8 (by kernel_rfl) (by kernel_rfl)) (by kernel_rfl) (by kernel_rfl)

set_option maxRecDepth 100000 in
theorem lifted (os : Os) (started : os.Started) (H : Type) (enc : TypeId × Value → H) :
    ReturnsInHanded {} Tryd.checked os 5 .any (fun w args => (Rows.montConvertsSpec.pre enc Tryd.prog Tryd.f5 [] false w args ∧ laidMetH Tryd.prog [("sharecore/field.fields", Rows.laid_sharecore_field_fields)] w) ∧ sizedMet enc Tryd.prog Tryd.f5 (OpenSpec.ofChange Rows.montConvertsSpec) false w args)
      (Rows.montConvertsSpec.post enc Tryd.prog Tryd.f5 false true false false) := by
  refine returnsInHanded_of_change_and (C := Tryd.checked) (X := fun w _ => laidMetH Tryd.prog [("sharecore/field.fields", Rows.laid_sharecore_field_fields)] w) (fun _ _ _ hh h => h.of_heap hh) own started (by kernel_rfl) Tryd.func5
    (ChangeSpec.witness_shaped (enc := enc) (C := Tryd.checked) (os := os) (X := fun w _ => laidMetH Tryd.prog [("sharecore/field.fields", Rows.laid_sharecore_field_fields)] w) false (World.doorLaid Tryd.prog 400 os) #[.bool false, .agg #[.int .u64 0, .int .u64 0, .int .u64 0, .int .u64 0]] 8 rfl (World.shaped_of_RefB (by kernel_rfl) (by kernel_rfl)) (by kernel_rfl) (by kernel_rfl) (by kernel_rfl) (door_met os _)) ?_
  intro W base args ds gs before hval0 hW _ _ hL _
  have hval : ∀ (j : Nat) t v, Tryd.f5.params[j]? = some t → args[j]? = some v → Value.okWide Tryd.prog W .any base t v := hval0
  have hW' := hW
  obtain ⟨p, q, hA0, hV, rfl, hfz, hnd⟩ := hW
  have hA : DataW.TrodAll enc Tryd.prog W 0 (fun _ => true) true Tryd.f5.params.toList args.toList ds p := hA0
  rw [Tryd.params5] at hA hval
  obtain ⟨v0, vs0, d0, ds0, p0, q0, hargs, rfl, rfl, h0, r0⟩ := trodAll_cons hA
  obtain ⟨v1, vs1, d1, ds1, p1, q1, rfl, rfl, rfl, h1, r1⟩ := trodAll_cons r0
  obtain ⟨rfl, rfl, rfl⟩ := trodAll_nil r1
  obtain rfl : args = #[v0, v1] := by cases args; simp_all
  obtain ⟨rfl, rfl⟩ := trodVars_none hV
  obtain ⟨i0, rfl, rfl, rfl⟩ := open_bool Tryd.underlying4 (hval 0 4 v0 rfl rfl) h0
  have w0 := trivial
  have k1 := h1
  have lt1 : ∀ x ∈ p1, x.block < W.heap.size := by obtain ⟨m, hm⟩ := k1; exact DataW.trod_lt m _ _ _ hm
  obtain ⟨n1, w1, rfl⟩ := open_vec (hval 1 23 v1 rfl rfl) h1
  have hT := tab_of_laid hL
  clear hA0 hval0
  refine (walk i0 n1 W w0 w1 hT).mono fun e W' ⟨he, hoff⟩ => ?_
  have bel : Below W.heap.size W W' := hoff.below (Nat.le_refl _) (fun _ _ c => c)
  subst he
  exact ⟨_, rfl, _, _, _, [], _, [], hW', trodAll_mk1 (shut_bool Tryd.underlying4 _), (trodAll_cons_mk (shut_bool Tryd.underlying4 _) (trodAll_cons_mk (Below.trod laidOut (by kernel_rfl) (of_decide_eq_true (by kernel_rfl)) k1 bel lt1) trodAll_mk0)), rfl, bel.frame _, fun h => by cases h⟩

theorem over : Rows.montConvertsRow.holds Tryd.pinned (OpenSpec.ofChange Rows.montConvertsSpec) :=
  OpenClaim.holds_of_wide 5 Tryd.f5 rfl rfl rfl rfl rfl rfl rfl ⟨rfl, rfl, rfl, rfl, rfl⟩ rfl rfl rfl rfl rfl (by kernel_rfl) Tryd.func5 (by kernel_rfl)
    (of_decide_eq_true (by kernel_rfl)) (by unfold Func.isWrapper; first | (rw [if_pos (by decide +kernel)]; kernel_rfl) | (rw [if_neg (by decide +kernel)]; exact ⟨rfl, rfl⟩))
    (fun os started H enc _ => lifted os started H enc)

theorem proved : Rows.MontConvertsCardSaid :=
  Claim7.holds_tied_plain_at .later [] [.data] true (true, "4c6eef73345a3410bd4bab3dc88cb1ebf74aad4678ff4b3ba42a5157f493b774") false
    over (fun _ h => by cases h) (by kernel_rfl) (fun _ h => by cases h) montConverts_row_tie rfl ⟨rfl, rfl⟩ (by kernel_rfl) rfl
    (fun f fn hf hfn => by
      obtain rfl : f = 5 := Option.some.inj ((show Tryd.prog.funcNamed "sharecore/sharecorelaw05.MontConverts" = some 5 by kernel_rfl).symm.trans hf) |>.symm
      obtain rfl : fn = Tryd.f5 := (Option.some.inj (Tryd.func5.symm.trans hfn)).symm
      exact ⟨by kernel_rfl, fun j t ht => by
        rw [Tryd.params5] at ht
        have hm : t ∈ [4, 23] := by simpa using Array.mem_of_getElem? ht
        have hall : ([4, 23].all fun u => !Tryd.prog.wantsStandIn u) = true := by kernel_rfl
        exact (show Tryd.prog.wantsStandIn t = false by simpa using List.all_eq_true.1 hall t hm)⟩)
    (by kernel_rfl)
#print axioms proved
end Go.Proofs.YtpekmoegmdfmpaaDoor.montConverts
