/-
  For every word and every two numbers of four words, the examples of the chapter hold, IsZero, Equal and Less return the masks of their conditions, and Choose one of the numbers: the statement of P3.3. No condition.
-/
import Derived.Test.YtaealjhndlobiaaRows
import Derived.Test.YtaealjhndlobiaaLimbOpen
import Derived.WalkKit
import Derived.ProofKit
import Derived.OpenShut
import Derived.ShutString
import Derived.ChangeOld
import Derived.Below
namespace Go.Proofs.Ytaealjhndlobiaa.limbCompares
open Go.ChangeShapes Go.WideShapes Go.ChangeAt Go.RowKit
set_option linter.unusedVariables false

theorem own : ownKnob Try.prog.godebug = none := by kernel_rfl
theorem laidOut : laidOutB Try.prog = true := by kernel_rfl

theorem eql_zero {a : Nat} (ha : a < R256) (w : World) : (binOp .eql 23 (V a) (.agg #[.int .u64 0, .int .u64 0, .int .u64 0, .int .u64 0])).run Try.prog w = .ok (.bool (zeroN a)) w := by
  have h := eql_num ha (show 0 < R256 by decide) w
  rw [lit_small 0 (by decide)] at h
  exact h
set_option maxHeartbeats 4000000 in
theorem walk (i0 : Int) (n1 : Nat) (n2 : Nat) (w : World) (w0 : (Lit.int .u64 i0).wf = true) (w1 : n1 < R256) (w2 : n2 < R256) :
    Calls Try.prog 5 #[.int .u64 i0, V n1, V n2] w fun e w' => e = .returned (.bool true) ∧ Off (fun _ => False) w w' := by
  have hm : Word i0 := by have := bounds_u64 w0; exact ⟨by omega, by omega⟩
  have h0 := hm.1
  have e1 := fun W => eql_zero w1 W
  have e2 := fun W => eql_num w1 w2 W
  have F1 := fun W => limb_iszero n1 w1 W
  have F2 := fun W => limb_equal n1 n2 w1 w2 W
  have F3 := fun W => limb_less n1 n2 w1 w2 W
  have F4 := fun W => refless_any n1 n2 w1 w2 W
  have F5 := fun W => limb_choose i0 hm n1 n2 W
  obtain ⟨z, hz⟩ : ∃ z, z = zeroN n1 := ⟨_, rfl⟩
  obtain ⟨q, hq⟩ : ∃ q, q = eqN n1 n2 := ⟨_, rfl⟩
  obtain ⟨l, hl⟩ : ∃ l, l = lessN n1 n2 := ⟨_, rfl⟩
  simp only [← hz] at e1 F1
  simp only [← hq] at e2 F2
  simp only [← hl] at F3 F4
  have F1 := Lib.hid F1
  have F2 := Lib.hid F2
  have F3 := Lib.hid F3
  have F4 := Lib.hid F4
  have M1 := Lib.hid (mask_off z)
  have M2 := Lib.hid (mask_off q)
  have M3 := Lib.hid (mask_off l)
  have hodd : (i0 % 2 == 1) = oddB i0 := by simp [oddB]; rfl
  clear hz hq hl w0 w1 w2 hm
  by_cases hc : oddB i0 = true
  · have hs : selN i0 n1 n2 = n1 := by unfold selN; rw [if_pos hc]
    rw [hc] at hodd
    have e3 := fun W => eql_same n1 W
    simp only [hs] at F5
    have F5 := Lib.hid F5
    obtain ⟨W0, hW0⟩ : ∃ W0, W0 = (((w.alloc (.cells #[.int .u64 (wd n1 0 : Int), .int .u64 (wd n1 1 : Int), .int .u64 (wd n1 2 : Int), .int .u64 (wd n1 3 : Int)] 23)).alloc (.cells #[.int .u64 (wd n2 0 : Int), .int .u64 (wd n2 1 : Int), .int .u64 (wd n2 2 : Int), .int .u64 (wd n2 3 : Int)] 23)).alloc (.cells #[.int .u64 (wd n1 0 : Int), .int .u64 (wd n1 1 : Int), .int .u64 (wd n1 2 : Int), .int .u64 (wd n1 3 : Int)] 23)) := ⟨_, rfl⟩
    have hA : NumAt W0.drew w.heap.size n1 := by rw [hW0]; exact heap_old' (heap_old' (heap_new' rfl _) _) _
    have hB : NumAt W0.drew (w.heap.size + 1) n2 := by rw [hW0]; exact heap_old' (heap_new' (by simp) _) _
    have hT : NumAt W0.drew (w.heap.size + 1 + 1) n1 := by rw [hW0]; exact heap_new' (by simp) _
    have hO : Off (fun _ => False) w W0.drew := by rw [hW0]; exact ((((Off.refl _ w).alloc _).alloc _).alloc _).drew
    have hS := Lib.hid (And.intro hA.four (And.intro hB.four (And.intro hT.four hO)))
    rw [hW0] at hS
    clear hA hB hT hO hW0 hs hc
    go_enter Try.func5, Try.ntmps5
    go_wp2_with fail
    have hS := hS.out
    go_region_held3 (fun w' => (w'.cell? ⟨w.heap.size, 0, none⟩ = some (.int .u64 (wd n1 0 : Int)) ∧ w'.cell? ⟨w.heap.size, 1, none⟩ = some (.int .u64 (wd n1 1 : Int)) ∧ w'.cell? ⟨w.heap.size, 2, none⟩ = some (.int .u64 (wd n1 2 : Int)) ∧ w'.cell? ⟨w.heap.size, 3, none⟩ = some (.int .u64 (wd n1 3 : Int))) ∧ (w'.cell? ⟨w.heap.size + 1, 0, none⟩ = some (.int .u64 (wd n2 0 : Int)) ∧ w'.cell? ⟨w.heap.size + 1, 1, none⟩ = some (.int .u64 (wd n2 1 : Int)) ∧ w'.cell? ⟨w.heap.size + 1, 2, none⟩ = some (.int .u64 (wd n2 2 : Int)) ∧ w'.cell? ⟨w.heap.size + 1, 3, none⟩ = some (.int .u64 (wd n2 3 : Int))) ∧ (w'.cell? ⟨w.heap.size + 1 + 1, 0, none⟩ = some (.int .u64 (wd n1 0 : Int)) ∧ w'.cell? ⟨w.heap.size + 1 + 1, 1, none⟩ = some (.int .u64 (wd n1 1 : Int)) ∧ w'.cell? ⟨w.heap.size + 1 + 1, 2, none⟩ = some (.int .u64 (wd n1 2 : Int)) ∧ w'.cell? ⟨w.heap.size + 1 + 1, 3, none⟩ = some (.int .u64 (wd n1 3 : Int))) ∧ Off (fun _ => False) w w')
      (first | assumption | go_keep)
      (first
        | (go_at_call 13; refine (held_three alive_any (by assumption)).mono ?_; rintro e w' ⟨rfl, hS⟩)
        | (go_at_call 16; refine (held_three F1.out (by assumption)).mono ?_; rintro e w' ⟨rfl, hS⟩)
        | (go_at_call_of 17 (Value.bool z); refine (held_three M1.out (by assumption)).mono ?_; rintro e w' ⟨rfl, hS⟩)
        | (go_at_call 18; refine (held_three F2.out (by assumption)).mono ?_; rintro e w' ⟨rfl, hS⟩)
        | (go_at_call_of 17 (Value.bool q); refine (held_three M2.out (by assumption)).mono ?_; rintro e w' ⟨rfl, hS⟩)
        | (go_at_call 19; refine (held_three F3.out (by assumption)).mono ?_; rintro e w' ⟨rfl, hS⟩)
        | (go_at_call 20; refine (held_three F4.out (by assumption)).mono ?_; rintro e w' ⟨rfl, hS⟩)
        | (go_at_call_of 17 (Value.bool l); refine (held_three M3.out (by assumption)).mono ?_; rintro e w' ⟨rfl, hS⟩)
        | (go_at_call 21; refine (held_three F5.out (by assumption)).mono ?_; rintro e w' ⟨rfl, hS⟩))
    go_wp2
    go_ret
    exact ⟨rfl, by go_split_ands; assumption⟩
  · have hs : selN i0 n1 n2 = n2 := by unfold selN; rw [if_neg hc]
    rw [show oddB i0 = false by simpa using hc] at hodd
    have e3 := fun W => eql_same n2 W
    simp only [hs] at F5
    have F5 := Lib.hid F5
    obtain ⟨W0, hW0⟩ : ∃ W0, W0 = (((w.alloc (.cells #[.int .u64 (wd n1 0 : Int), .int .u64 (wd n1 1 : Int), .int .u64 (wd n1 2 : Int), .int .u64 (wd n1 3 : Int)] 23)).alloc (.cells #[.int .u64 (wd n2 0 : Int), .int .u64 (wd n2 1 : Int), .int .u64 (wd n2 2 : Int), .int .u64 (wd n2 3 : Int)] 23)).alloc (.cells #[.int .u64 (wd n2 0 : Int), .int .u64 (wd n2 1 : Int), .int .u64 (wd n2 2 : Int), .int .u64 (wd n2 3 : Int)] 23)) := ⟨_, rfl⟩
    have hA : NumAt W0.drew w.heap.size n1 := by rw [hW0]; exact heap_old' (heap_old' (heap_new' rfl _) _) _
    have hB : NumAt W0.drew (w.heap.size + 1) n2 := by rw [hW0]; exact heap_old' (heap_new' (by simp) _) _
    have hT : NumAt W0.drew (w.heap.size + 1 + 1) n2 := by rw [hW0]; exact heap_new' (by simp) _
    have hO : Off (fun _ => False) w W0.drew := by rw [hW0]; exact ((((Off.refl _ w).alloc _).alloc _).alloc _).drew
    have hS := Lib.hid (And.intro hA.four (And.intro hB.four (And.intro hT.four hO)))
    rw [hW0] at hS
    clear hA hB hT hO hW0 hs hc
    go_enter Try.func5, Try.ntmps5
    go_wp2_with fail
    have hS := hS.out
    go_region_held3 (fun w' => (w'.cell? ⟨w.heap.size, 0, none⟩ = some (.int .u64 (wd n1 0 : Int)) ∧ w'.cell? ⟨w.heap.size, 1, none⟩ = some (.int .u64 (wd n1 1 : Int)) ∧ w'.cell? ⟨w.heap.size, 2, none⟩ = some (.int .u64 (wd n1 2 : Int)) ∧ w'.cell? ⟨w.heap.size, 3, none⟩ = some (.int .u64 (wd n1 3 : Int))) ∧ (w'.cell? ⟨w.heap.size + 1, 0, none⟩ = some (.int .u64 (wd n2 0 : Int)) ∧ w'.cell? ⟨w.heap.size + 1, 1, none⟩ = some (.int .u64 (wd n2 1 : Int)) ∧ w'.cell? ⟨w.heap.size + 1, 2, none⟩ = some (.int .u64 (wd n2 2 : Int)) ∧ w'.cell? ⟨w.heap.size + 1, 3, none⟩ = some (.int .u64 (wd n2 3 : Int))) ∧ (w'.cell? ⟨w.heap.size + 1 + 1, 0, none⟩ = some (.int .u64 (wd n2 0 : Int)) ∧ w'.cell? ⟨w.heap.size + 1 + 1, 1, none⟩ = some (.int .u64 (wd n2 1 : Int)) ∧ w'.cell? ⟨w.heap.size + 1 + 1, 2, none⟩ = some (.int .u64 (wd n2 2 : Int)) ∧ w'.cell? ⟨w.heap.size + 1 + 1, 3, none⟩ = some (.int .u64 (wd n2 3 : Int))) ∧ Off (fun _ => False) w w')
      (first | assumption | go_keep)
      (first
        | (go_at_call 13; refine (held_three alive_any (by assumption)).mono ?_; rintro e w' ⟨rfl, hS⟩)
        | (go_at_call 16; refine (held_three F1.out (by assumption)).mono ?_; rintro e w' ⟨rfl, hS⟩)
        | (go_at_call_of 17 (Value.bool z); refine (held_three M1.out (by assumption)).mono ?_; rintro e w' ⟨rfl, hS⟩)
        | (go_at_call 18; refine (held_three F2.out (by assumption)).mono ?_; rintro e w' ⟨rfl, hS⟩)
        | (go_at_call_of 17 (Value.bool q); refine (held_three M2.out (by assumption)).mono ?_; rintro e w' ⟨rfl, hS⟩)
        | (go_at_call 19; refine (held_three F3.out (by assumption)).mono ?_; rintro e w' ⟨rfl, hS⟩)
        | (go_at_call 20; refine (held_three F4.out (by assumption)).mono ?_; rintro e w' ⟨rfl, hS⟩)
        | (go_at_call_of 17 (Value.bool l); refine (held_three M3.out (by assumption)).mono ?_; rintro e w' ⟨rfl, hS⟩)
        | (go_at_call 21; refine (held_three F5.out (by assumption)).mono ?_; rintro e w' ⟨rfl, hS⟩))
    go_wp2
    go_ret
    exact ⟨rfl, by go_split_ands; assumption⟩

set_option maxRecDepth 100000 in
theorem lifted (os : Os) (started : os.Started) (H : Type) (enc : TypeId × Value → H) :
    ReturnsInHanded {} Try.checked os 5 .any (Rows.limbComparesSpec.pre6 enc Try.prog Try.f5 Rows.limbComparesRow.domain false) (Rows.limbComparesSpec.post enc Try.prog Try.f5 false true false false) := by
  refine returnsInHanded_of_change (C := Try.checked) own started (by kernel_rfl) Try.func5
    (ChangeSpec.witness6 (enc := enc) (C := Try.checked) false ⟨#[], #[.int .u64 0, .agg #[.int .u64 0, .int .u64 0, .int .u64 0, .int .u64 0], .agg #[.int .u64 0, .int .u64 0, .int .u64 0, .int .u64 0]], []⟩ 8 (by kernel_rfl) (by kernel_rfl) (by kernel_rfl) (by kernel_rfl)) ?_
  intro W base args ds gs before hval0 hW hcnd _
  have hval : ∀ (j : Nat) t v, Try.f5.params[j]? = some t → args[j]? = some v → Value.okWide Try.prog W .any base t v := hval0
  have hW' := hW
  obtain ⟨p, q, hA0, hV, rfl, hfz, hnd⟩ := hW
  have hA : DataW.TrodAll enc Try.prog W 0 (fun _ => true) true Try.f5.params.toList args.toList ds p := hA0
  rw [Try.params5] at hA hval
  obtain ⟨v0, vs0, d0, ds0, p0, q0, hargs, rfl, rfl, h0, r0⟩ := trodAll_cons hA
  obtain ⟨v1, vs1, d1, ds1, p1, q1, rfl, rfl, rfl, h1, r1⟩ := trodAll_cons r0
  obtain ⟨v2, vs2, d2, ds2, p2, q2, rfl, rfl, rfl, h2, r2⟩ := trodAll_cons r1
  obtain ⟨rfl, rfl, rfl⟩ := trodAll_nil r2
  obtain rfl : args = #[v0, v1, v2] := by cases args; simp_all
  obtain ⟨rfl, rfl⟩ := trodVars_none hV
  obtain ⟨i0, rfl, rfl, rfl, w0⟩ := open_int Try.underlying22 (hval 0 22 v0 rfl rfl) h0
  have k1 := h1
  have lt1 : ∀ x ∈ p1, x.block < W.heap.size := by obtain ⟨m, hm⟩ := k1; exact DataW.trod_lt m _ _ _ hm
  obtain ⟨n1, w1, rfl⟩ := open_vec (hval 1 23 v1 rfl rfl) h1
  have k2 := h2
  have lt2 : ∀ x ∈ p2, x.block < W.heap.size := by obtain ⟨m, hm⟩ := k2; exact DataW.trod_lt m _ _ _ hm
  obtain ⟨n2, w2, rfl⟩ := open_vec (hval 2 23 v2 rfl rfl) h2
  clear hA0 hval0
  refine (walk i0 n1 n2 W w0 w1 w2).mono fun e W' ⟨he, hoff⟩ => ?_
  have bel : Below W.heap.size W W' := hoff.below (Nat.le_refl _) (fun _ _ c => c)
  subst he
  exact ⟨_, rfl, _, _, _, [], _, [], hW', trodAll_mk1 (shut_bool Try.underlying4 _), (trodAll_cons_mk (shut_int Try.underlying22 w0) (trodAll_cons_mk (Below.trod laidOut (by kernel_rfl) (of_decide_eq_true (by kernel_rfl)) k1 bel lt1) (trodAll_cons_mk (Below.trod laidOut (by kernel_rfl) (of_decide_eq_true (by kernel_rfl)) k2 bel lt2) trodAll_mk0))), rfl, bel.frame _, fun h => by cases h⟩

theorem over : Rows.limbComparesRow.holds Try.pinned (OpenSpec.ofChange Rows.limbComparesSpec) :=
  OpenClaim.holds_of_wide 5 Try.f5 rfl rfl rfl rfl rfl rfl rfl ⟨rfl, rfl, rfl, rfl, rfl⟩ rfl rfl rfl rfl rfl (by kernel_rfl) Try.func5 (by kernel_rfl)
    (of_decide_eq_true (by kernel_rfl)) (by unfold Func.isWrapper; first | (rw [if_pos (by decide +kernel)]; kernel_rfl) | (rw [if_neg (by decide +kernel)]; exact ⟨rfl, rfl⟩))
    (fun os started H enc _ => lifted os started H enc)

theorem proved : Rows.LimbComparesSaid := over
#print axioms proved
end Go.Proofs.Ytaealjhndlobiaa.limbCompares
