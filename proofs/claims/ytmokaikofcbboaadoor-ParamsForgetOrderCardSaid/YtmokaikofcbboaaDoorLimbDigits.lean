/-
  Contracts of the reference's Digits and Vec over this seat's translation: the digits of 16 bits of a number of four words, and the number of sixteen digits. Conditions: as each says.
-/
import Derived.Test.YtmokaikofcbboaaDoorLimbOps
import Derived.Laws.OwnMore
import Derived.StillTailTactics
import Derived.Laws.AppendOwnNone
namespace Go.Proofs.YtmokaikofcbboaaDoor
open Go.RowKit

/-- The block b holds the words of the first k digits of n. -/
def LowAt (w : World) (b n k : Nat) : Prop := w.heap[b]? = some (.cells #[.int .u64 (lowW n k 0 : Int), .int .u64 (lowW n k 1 : Int), .int .u64 (lowW n k 2 : Int), .int .u64 (lowW n k 3 : Int)] 45 (0, 0))
theorem LowAt.cell {w : World} {b n k : Nat} (h : LowAt w b n k) (i : Nat) (hi : i < 4) : w.cell? ⟨b, i, none⟩ = some (.int .u64 (lowW n k i : Int)) := by
  rw [cell_of_heap h]
  have : i = 0 ∨ i = 1 ∨ i = 2 ∨ i = 3 := by omega
  rcases this with rfl | rfl | rfl | rfl <;> rfl
theorem LowAt.step {w : World} {b n k : Nat} (h : LowAt w b n k) (hk : k < 16) : LowAt (w.setCell ⟨b, k / 4, none⟩ (.int .u64 (lowW n (k + 1) (k / 4) : Int))) b n (k + 1) := by
  have := heap_set h (k / 4) (.int .u64 (lowW n (k + 1) (k / 4) : Int))
  unfold LowAt
  rw [this]
  have e : ∀ i, i < 4 → i ≠ k / 4 → lowW n (k + 1) i = lowW n k i := fun i hi hne => by rw [lowW_succ n k i hk hi, if_neg hne]; rfl
  have : k / 4 = 0 ∨ k / 4 = 1 ∨ k / 4 = 2 ∨ k / 4 = 3 := by omega
  rcases this with h4 | h4 | h4 | h4 <;> rw [h4] at e ⊢
  · simp [e 1 (by omega) (by omega), e 2 (by omega) (by omega), e 3 (by omega) (by omega)]
  · simp [e 0 (by omega) (by omega), e 2 (by omega) (by omega), e 3 (by omega) (by omega)]
  · simp [e 0 (by omega) (by omega), e 1 (by omega) (by omega), e 3 (by omega) (by omega)]
  · simp [e 0 (by omega) (by omega), e 1 (by omega) (by omega), e 2 (by omega) (by omega)]
theorem d16_shift (M fr k : Nat) : d16 (M / 65536 ^ fr) k = d16 M (fr + k) := by
  unfold d16 dg; rw [Nat.div_div_eq_div_mul, ← Nat.pow_add]

end Go.Proofs.YtmokaikofcbboaaDoor
