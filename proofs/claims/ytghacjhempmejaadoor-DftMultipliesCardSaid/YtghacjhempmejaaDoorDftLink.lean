/-
  The product of lists of integers as a sum of rational numbers. Plain facts.
-/
import Derived.Test.YtghacjhempmejaaDoorDftConv
import Derived.Test.YtghacjhempmejaaDoorCqAll
namespace Go.Proofs.YtghacjhempmejaaDoor
theorem cv_link (a b : List Int) (q : Nat) : ∀ n, sumR n (fun i => if i ≤ q ∧ q - i < b.length then ((a.getD i 0 : Int) : Rat) * ((b.getD (q - i) 0 : Int) : Rat) else 0) = ((cvS a b q n : Int) : Rat)
  | 0 => rfl
  | n + 1 => by
    unfold sumR cvS
    rw [cv_link a b q n, Rat.intCast_add]
    unfold tmC
    by_cases c : n ≤ q ∧ q - n < b.length
    · simp only [if_pos c]; rw [Rat.intCast_mul]
    · simp only [if_neg c]; rfl
end Go.Proofs.YtghacjhempmejaaDoor
