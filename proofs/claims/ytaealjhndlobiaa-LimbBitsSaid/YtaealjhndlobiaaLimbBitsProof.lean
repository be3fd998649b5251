/-
  For every number of four words, every position and every number of bits, the examples of the chapter hold, and Bits returns the same number as the reference: the statement of P3.4. No condition.
-/
import Derived.Test.YtaealjhndlobiaaRows
import Derived.Test.YtaealjhndlobiaaLimbOpen
import Derived.WalkKit
import Derived.ProofKit
import Derived.OpenShut
import Derived.ShutString
import Derived.ChangeOld
import Derived.Below
namespace Go.Proofs.Ytaealjhndlobiaa.limbBits
open Go.ChangeShapes Go.WideShapes Go.ChangeAt Go.RowKit
set_option linter.unusedVariables false

theorem own : ownKnob Try.prog.godebug = none := by kernel_rfl
theorem laidOut : laidOutB Try.prog = true := by kernel_rfl

set_option maxHeartbeats 4000000 in
theorem walk (n0 : Nat) (i1 : Int) (i2 : Int) (w : World) (w0 : n0 < R256) (w1 : (Lit.int .i64 i1).wf = true) (w2 : (Lit.int .i64 i2).wf = true) :
    Calls Try.prog 6 #[V n0, .int .i64 i1, .int .i64 i2] w fun e w' => e = .returned (.bool true) ∧ Off (fun _ => False) w w' := by
  have hp : i1 < 9223372036854775808 := by have := bounds_i64 w1; omega
  have F1 := fun W => bits_any n0 w0 i1 i2 W
  have F2 := fun W => refbits_any n0 w0 i1 i2 hp W
  obtain ⟨x, hx⟩ : ∃ x, x = bitsV n0 i1 i2 := ⟨_, rfl⟩
  simp only [← hx] at F1 F2
  have hN : NumAt (w.alloc (.cells #[.int .u64 (wd n0 0 : Int), .int .u64 (wd n0 1 : Int), .int .u64 (wd n0 2 : Int), .int .u64 (wd n0 3 : Int)] 23)).drew w.heap.size n0 := heap_new' rfl _
  obtain ⟨a0, a1, a2, a3⟩ := hN.four
  have hO : Off (fun _ => False) w (w.alloc (.cells #[.int .u64 (wd n0 0 : Int), .int .u64 (wd n0 1 : Int), .int .u64 (wd n0 2 : Int), .int .u64 (wd n0 3 : Int)] 23)).drew := ((Off.refl _ w).alloc _).drew
  have F1 := Lib.hid F1
  have F2 := Lib.hid F2
  clear hx hp hN w0 w1 w2
  go_enter Try.func6, Try.ntmps6
  go_wp2_with fail
  go_region_held3 (fun w' => w'.cell? ⟨w.heap.size, 0, none⟩ = some (.int .u64 (wd n0 0 : Int)) ∧ w'.cell? ⟨w.heap.size, 1, none⟩ = some (.int .u64 (wd n0 1 : Int)) ∧ w'.cell? ⟨w.heap.size, 2, none⟩ = some (.int .u64 (wd n0 2 : Int)) ∧ w'.cell? ⟨w.heap.size, 3, none⟩ = some (.int .u64 (wd n0 3 : Int)) ∧ Off (fun _ => False) w w')
    (first | assumption | go_keep)
    (first
      | (go_at_call 13; refine (held_one alive_any (by assumption)).mono ?_; rintro e w' ⟨rfl, hS⟩)
      | (go_at_call 22; refine (held_one F1.out (by assumption)).mono ?_; rintro e w' ⟨rfl, hS⟩)
      | (go_at_call 23; refine (held_one F2.out (by assumption)).mono ?_; rintro e w' ⟨rfl, hS⟩))
  go_wp2
  go_ret
  exact ⟨rfl, by go_split_ands; assumption⟩

set_option maxRecDepth 100000 in
theorem lifted (os : Os) (started : os.Started) (H : Type) (enc : TypeId × Value → H) :
    ReturnsInHanded {} Try.checked os 6 .any (Rows.limbBitsSpec.pre6 enc Try.prog Try.f6 Rows.limbBitsRow.domain false) (Rows.limbBitsSpec.post enc Try.prog Try.f6 false true false false) := by
  refine returnsInHanded_of_change (C := Try.checked) own started (by kernel_rfl) Try.func6
    (ChangeSpec.witness6 (enc := enc) (C := Try.checked) false ⟨#[], #[.agg #[.int .u64 0, .int .u64 0, .int .u64 0, .int .u64 0], .int .i64 0, .int .i64 0], []⟩ 8 (by kernel_rfl) (by kernel_rfl) (by kernel_rfl) (by kernel_rfl)) ?_
  intro W base args ds gs before hval0 hW hcnd _
  have hval : ∀ (j : Nat) t v, Try.f6.params[j]? = some t → args[j]? = some v → Value.okWide Try.prog W .any base t v := hval0
  have hW' := hW
  obtain ⟨p, q, hA0, hV, rfl, hfz, hnd⟩ := hW
  have hA : DataW.TrodAll enc Try.prog W 0 (fun _ => true) true Try.f6.params.toList args.toList ds p := hA0
  rw [Try.params6] at hA hval
  obtain ⟨v0, vs0, d0, ds0, p0, q0, hargs, rfl, rfl, h0, r0⟩ := trodAll_cons hA
  obtain ⟨v1, vs1, d1, ds1, p1, q1, rfl, rfl, rfl, h1, r1⟩ := trodAll_cons r0
  obtain ⟨v2, vs2, d2, ds2, p2, q2, rfl, rfl, rfl, h2, r2⟩ := trodAll_cons r1
  obtain ⟨rfl, rfl, rfl⟩ := trodAll_nil r2
  obtain rfl : args = #[v0, v1, v2] := by cases args; simp_all
  obtain ⟨rfl, rfl⟩ := trodVars_none hV
  have k0 := h0
  have lt0 : ∀ x ∈ p0, x.block < W.heap.size := by obtain ⟨m, hm⟩ := k0; exact DataW.trod_lt m _ _ _ hm
  obtain ⟨n0, w0, rfl⟩ := open_vec (hval 0 23 v0 rfl rfl) h0
  obtain ⟨i1, rfl, rfl, rfl, w1⟩ := open_int Try.underlying3 (hval 1 3 v1 rfl rfl) h1
  obtain ⟨i2, rfl, rfl, rfl, w2⟩ := open_int Try.underlying3 (hval 2 3 v2 rfl rfl) h2
  clear hA0 hval0
  refine (walk n0 i1 i2 W w0 w1 w2).mono fun e W' ⟨he, hoff⟩ => ?_
  have bel : Below W.heap.size W W' := hoff.below (Nat.le_refl _) (fun _ _ c => c)
  subst he
  exact ⟨_, rfl, _, _, _, [], _, [], hW', trodAll_mk1 (shut_bool Try.underlying4 _), (trodAll_cons_mk (Below.trod laidOut (by kernel_rfl) (of_decide_eq_true (by kernel_rfl)) k0 bel lt0) (trodAll_cons_mk (shut_int Try.underlying3 w1) (trodAll_cons_mk (shut_int Try.underlying3 w2) trodAll_mk0))), rfl, bel.frame _, fun h => by cases h⟩

theorem over : Rows.limbBitsRow.holds Try.pinned (OpenSpec.ofChange Rows.limbBitsSpec) :=
  OpenClaim.holds_of_wide 6 Try.f6 rfl rfl rfl rfl rfl rfl rfl ⟨rfl, rfl, rfl, rfl, rfl⟩ rfl rfl rfl rfl rfl (by kernel_rfl) Try.func6 (by kernel_rfl)
    (of_decide_eq_true (by kernel_rfl)) (by unfold Func.isWrapper; first | (rw [if_pos (by decide +kernel)]; kernel_rfl) | (rw [if_neg (by decide +kernel)]; exact ⟨rfl, rfl⟩))
    (fun os started H enc _ => lifted os started H enc)

theorem proved : Rows.LimbBitsSaid := over
#print axioms proved
end Go.Proofs.Ytaealjhndlobiaa.limbBits
