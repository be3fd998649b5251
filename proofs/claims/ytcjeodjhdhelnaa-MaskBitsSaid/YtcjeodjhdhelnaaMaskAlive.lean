/-
  The examples of layer 1's chapter hold: the function 'alive' of its statements returns true and changes nothing that lay in memory before. No condition.
-/
import Derived.Test.YtcjeodjhdhelnaaMaskTable
namespace Go.Proofs.Ytcjeodjhdhelnaa
open Go.RowKit

theorem word_lit {n : Nat} (h : n < 18446744073709551616) : Word (n : Int) := word_cast h

theorem wordsB_three (w : World) (x y z : Int) (hx : Word x) (hy : Word y) (hz : Word z) (T : Nat) : WordsB (w.heap.size + 1) (w.alloc (.cells #[.int .u64 x, .int .u64 y, .int .u64 z] T)) (.slice (some ⟨w.heap.size, 0, none⟩) 3 3) [x, y, z] := by
  refine ⟨_, _, rfl, by simp, ?_, fun _ => ⟨_, _, rfl, by omega, ?_⟩⟩
  · intro n hn
    simp at hn
    rcases hn with rfl | rfl | rfl <;> assumption
  · intro j hj
    have : j = 0 ∨ j = 1 ∨ j = 2 := by simp at hj; omega
    rcases this with rfl | rfl | rfl <;> simp [go_sem, nth]

theorem words_nil (w : World) : Words w (.slice none 0 0) [] := ⟨none, 0, rfl, by simp, by simp, fun h => by simp at h⟩

theorem less_const (a b m : Int) (ha : Word a) (hb : Word b) (h : mk (ltB a b) = m) (w : World) :
    Calls Try.prog 17 #[.int .u64 a, .int .u64 b] w fun e w' => e = .returned (.int .u64 m) ∧ w = w' := by rw [← h]; exact less_any a b ha hb w
theorem choose_const (m a b r : Int) (hm : Word m) (ha : Word a) (hb : Word b) (h : chooseV m a b = r) (w : World) :
    Calls Try.prog 18 #[.int .u64 m, .int .u64 a, .int .u64 b] w fun e w' => e = .returned (.int .u64 r) ∧ w = w' := by rw [← h]; exact choose_any m a b hm ha hb w
theorem iszero_const (w : World) :
    Calls Try.prog 13 #[.slice none 0 0] w fun e w' => e = .returned (.int .u64 18446744073709551615) ∧ w = w' := by
  have h : mk (zeroB []) = 18446744073709551615 := by decide
  rw [← h]; exact iszero_any [] _ w (words_nil w)
theorem equal_const (a m : Int) (ha : Word a) (h : mk (eqB a a) = m) (w : World) :
    Calls Try.prog 16 #[.int .u64 a, .int .u64 a] w fun e w' => e = .returned (.int .u64 m) ∧ ∃ c, w' = w.alloc (.cells c 22) := by rw [← h]; exact equal_any a a ha ha w
theorem table_const (w : World) :
    Calls Try.prog 20 #[.slice (some ⟨w.heap.size, 0, none⟩) 3 3, .int .u64 1] (w.alloc (.cells #[.int .u64 7, .int .u64 8, .int .u64 9] 22)) fun e w' => e = .returned (.int .u64 8) ∧ Below w.heap.size w w' := by
  refine (table_any (some ⟨w.heap.size, 0, none⟩) 3 3 [7, 8, 9] 1 ⟨by omega, by omega⟩ _ ?_).mono ?_
  · rw [World.size_alloc]
    exact wordsB_three w 7 8 9 ⟨by omega, by omega⟩ ⟨by omega, by omega⟩ ⟨by omega, by omega⟩ _
  · rintro e w' ⟨rfl, hb⟩
    exact ⟨ret_u64 (by decide), ((Below.refl _ w).alloc (Nat.le_refl _) _).trans (hb.mono (by simp))⟩

set_option maxHeartbeats 1000000 in
theorem alive_any (w : World) :
    Calls Try.prog 9 #[] w fun e w' => e = .returned (.bool true) ∧ Below w.heap.size w w' := by
  have h1 := less_const 1 2 18446744073709551615 ⟨by omega, by omega⟩ ⟨by omega, by omega⟩ (by decide)
  have h2 := less_const 2 1 0 ⟨by omega, by omega⟩ ⟨by omega, by omega⟩ (by decide)
  have h3 := choose_const 255 4660 22136 22068 ⟨by omega, by omega⟩ ⟨by omega, by omega⟩ ⟨by omega, by omega⟩ (by decide)
  have h4 := table_const w
  have h6 := equal_const 3 18446744073709551615 ⟨by omega, by omega⟩ (by decide)
  go_enter Try.func9, Try.ntmps9
  go_wp2_with fail
  refine (h1 _).mono ?_
  rintro e w' ⟨rfl, rfl⟩
  go_wp2_with fail
  refine (h2 _).mono ?_
  rintro e w' ⟨rfl, rfl⟩
  go_wp2_with fail
  refine (h3 _).mono ?_
  rintro e w' ⟨rfl, rfl⟩
  go_wp2_with fail
  refine h4.mono ?_
  rintro e w1 ⟨rfl, hb⟩
  go_wp2_with fail
  refine (iszero_const _).mono ?_
  rintro e w' ⟨rfl, rfl⟩
  go_wp2_with fail
  refine (h6 _).mono ?_
  rintro e w' ⟨rfl, c, rfl⟩
  go_wp2_with fail
  go_ret
  exact ⟨rfl, hb.alloc hb.size _⟩
end Go.Proofs.Ytcjeodjhdhelnaa
