/-
  For every two words, the examples of the chapter hold, exactly one of the three comparisons is a mask of ones, and Equal is IsZero of the bits in which the words differ: the statement of P1.2 and P1.5. No condition.
-/
import Derived.Test.YtcjeodjhdhelnaaRows
import Derived.Test.YtcjeodjhdhelnaaMaskAlive
import Derived.WalkKit
import Derived.ProofKit
import Derived.OpenShut
import Derived.ShutString
import Derived.ChangeOld
import Derived.Below
namespace Go.Proofs.Ytcjeodjhdhelnaa.maskTrichotomy
open Go.ChangeShapes Go.WideShapes Go.ChangeAt Go.RowKit
open Go.ChangeMaps (open_string shut_string)
set_option linter.unusedVariables false      -- a walk need not use every 'w<i>' (that an integer argument fits its kind)

theorem own : ownKnob Try.prog.godebug = none := by kernel_rfl

/-- IsZero of a list of one word, the bits in which a and b differ. -/
theorem iszero_xor (a b : Int) (ha : Word a) (hb : Word b) (w : World) :
    Calls Try.prog 13 #[.slice (some ⟨w.heap.size, 0, none⟩) 1 1] (w.alloc (.cells #[.int .u64 (bits .xor .u64 a b)] 22)) fun e w' => e = .returned (.int .u64 (mk (eqB a b))) ∧ w' = w.alloc (.cells #[.int .u64 (bits .xor .u64 a b)] 22) := by
  refine (iszero_any [bits .xor .u64 a b] _ _ (words_one w _ (xor_word ha hb) _)).mono ?_
  rintro e w' ⟨rfl, rfl⟩
  exact ⟨ret_u64 (by rw [zeroB_one, xor_eq ha hb]), rfl⟩
theorem less_is (a b m : Int) (ha : Word a) (hb : Word b) (h : mk (ltB a b) = m) (w : World) :
    Calls Try.prog 17 #[.int .u64 a, .int .u64 b] w fun e w' => e = .returned (.int .u64 m) ∧ w = w' := by rw [← h]; exact less_any a b ha hb w
theorem equal_is (a b m : Int) (ha : Word a) (hb : Word b) (h : mk (eqB a b) = m) (w : World) :
    Calls Try.prog 16 #[.int .u64 a, .int .u64 b] w fun e w' => e = .returned (.int .u64 m) ∧ ∃ c, w' = w.alloc (.cells c 22) := by rw [← h]; exact equal_any a b ha hb w
theorem iszero_is (a b m : Int) (ha : Word a) (hb : Word b) (h : mk (eqB a b) = m) (w : World) :
    Calls Try.prog 13 #[.slice (some ⟨w.heap.size, 0, none⟩) 1 1] (w.alloc (.cells #[.int .u64 (bits .xor .u64 a b)] 22)) fun e w' => e = .returned (.int .u64 m) ∧ w' = w.alloc (.cells #[.int .u64 (bits .xor .u64 a b)] 22) := by rw [← h]; exact iszero_xor a b ha hb w
/-- The three cases. -/
theorem three (a b : Int) : (mk (ltB a b) = 18446744073709551615 ∧ mk (ltB b a) = 0 ∧ mk (eqB a b) = 0) ∨ (mk (ltB a b) = 0 ∧ mk (ltB b a) = 18446744073709551615 ∧ mk (eqB a b) = 0) ∨ (mk (ltB a b) = 0 ∧ mk (ltB b a) = 0 ∧ mk (eqB a b) = 18446744073709551615) := by
  unfold mk ltB eqB
  by_cases h1 : a < b
  · left; exact ⟨by simp [h1], by simp; omega, by simp; omega⟩
  · by_cases h2 : b < a
    · right; left; exact ⟨by simp [h1], by simp [h2], by simp; omega⟩
    · right; right; exact ⟨by simp [h1], by simp [h2], by simp; omega⟩

set_option maxHeartbeats 1000000 in
theorem walk (a0 : Int) (a1 : Int) (w0 : (Lit.int .u64 a0).wf = true) (w1 : (Lit.int .u64 a1).wf = true) (w : World) :
    Calls Try.prog 8 #[.int .u64 a0, .int .u64 a1] w fun e w' => e = .returned (.bool true) ∧ Below w.heap.size w w' := by
  have ha : Word a0 := by have := bounds_u64 w0; exact ⟨by omega, by omega⟩
  have hb : Word a1 := by have := bounds_u64 w1; exact ⟨by omega, by omega⟩
  rcases three a0 a1 with ⟨e1, e2, e3⟩ | ⟨e1, e2, e3⟩ | ⟨e1, e2, e3⟩
  all_goals
    have c1 := less_is a0 a1 _ ha hb e1
    have c2 := less_is a1 a0 _ hb ha e2
    have c3 := equal_is a0 a1 _ ha hb e3
    have c4 := iszero_is a0 a1 _ ha hb e3
    clear e1 e2 e3
    go_enter Try.func8, Try.ntmps8
    go_wp2_with fail
    refine (c1 _).mono ?_
    rintro e w' ⟨rfl, rfl⟩
    go_wp2_with fail
    refine (c2 _).mono ?_
    rintro e w' ⟨rfl, rfl⟩
    go_wp2_with fail
    refine (c3 _).mono ?_
    rintro e w' ⟨rfl, c, rfl⟩
    go_wp2_with fail
    refine (alive_any _).mono ?_
    rintro e w1 ⟨rfl, hbel⟩
    go_wp2_with fail
    refine (c4 _).mono ?_
    rintro e w' ⟨rfl, rfl⟩
    go_wp2_with fail
    go_ret
    exact ⟨rfl, (((Below.refl _ w).alloc (Nat.le_refl _) _).trans (hbel.mono (by simp))).alloc (Nat.le_trans (by simp) hbel.size) _⟩

set_option maxRecDepth 100000 in
theorem lifted (os : Os) (started : os.Started) (H : Type) (enc : TypeId × Value → H) :
    ReturnsInHanded {} Try.checked os 8 .any (Rows.maskTrichotomySpec.pre6 enc Try.prog Try.f8 Rows.maskTrichotomyRow.domain false) (Rows.maskTrichotomySpec.post enc Try.prog Try.f8 false true false false) := by
  refine returnsInHanded_of_change (C := Try.checked) own started (by kernel_rfl) Try.func8
    (ChangeSpec.witness6 (enc := enc) (C := Try.checked) false ⟨#[], #[.int .u64 0, .int .u64 0], []⟩ 8 (by kernel_rfl) (by kernel_rfl) (by kernel_rfl) (by kernel_rfl)) ?_
  intro W base args ds gs before hval0 hW hcnd _
  have hval : ∀ (j : Nat) t v, Try.f8.params[j]? = some t → args[j]? = some v → Value.okWide Try.prog W .any base t v := hval0
  have hW' := hW
  obtain ⟨p, q, hA0, hV, rfl, hfz, hnd⟩ := hW
  have hA : DataW.TrodAll enc Try.prog W 0 (fun _ => true) true Try.f8.params.toList args.toList ds p := hA0
  rw [Try.params8] at hA hval
  obtain ⟨v0, vs0, d0, ds0, p0, q0, hargs, rfl, rfl, h0, r0⟩ := trodAll_cons hA
  obtain ⟨v1, vs1, d1, ds1, p1, q1, rfl, rfl, rfl, h1, r1⟩ := trodAll_cons r0
  obtain ⟨rfl, rfl, rfl⟩ := trodAll_nil r1
  obtain rfl : args = #[v0, v1] := by cases args; simp_all
  obtain ⟨rfl, rfl⟩ := trodVars_none hV
  obtain ⟨a0, rfl, rfl, rfl, w0⟩ := open_int Try.underlying22 (hval 0 22 v0 rfl rfl) h0
  obtain ⟨a1, rfl, rfl, rfl, w1⟩ := open_int Try.underlying22 (hval 1 22 v1 rfl rfl) h1
  clear hA0 hval0
  refine (walk a0 a1 w0 w1 W).mono fun e W' ⟨he, hg⟩ => ?_
  subst he
  exact ⟨_, rfl, _, _, _, [], _, [], hW', trodAll_mk1 (shut_bool Try.underlying4 _), (trodAll_cons_mk (shut_int Try.underlying22 w0) (trodAll_cons_mk (shut_int Try.underlying22 w1) trodAll_mk0)), rfl, hg.frame _, fun h => by cases h⟩

theorem over : Rows.maskTrichotomyRow.holds Try.pinned (OpenSpec.ofChange Rows.maskTrichotomySpec) :=
  OpenClaim.holds_of_wide 8 Try.f8 rfl rfl rfl rfl rfl rfl rfl ⟨rfl, rfl, rfl, rfl, rfl⟩ rfl rfl rfl rfl rfl (by kernel_rfl) Try.func8 (by kernel_rfl)
    (of_decide_eq_true (by kernel_rfl)) (by unfold Func.isWrapper; first | (rw [if_pos (by decide +kernel)]; kernel_rfl) | (rw [if_neg (by decide +kernel)]; exact ⟨rfl, rfl⟩))
    (fun os started H enc _ => lifted os started H enc)

theorem proved : Rows.MaskTrichotomySaid :=
  over
#print axioms proved
end Go.Proofs.Ytcjeodjhdhelnaa.maskTrichotomy
