/-
  An argument of bytes is as long as its datum. No condition.
-/
import Derived.Test.YthjfhgnmaepafaaDoorBytOpen
import Derived.SizedLaws
namespace Go.Proofs.YthjfhgnmaepafaaDoor
open Go.RowKit Go.ChangeShapes Go.WideShapes Go.ChangeAt Go.Deep
theorem slice_of_trod {H : Type} {enc : TypeId × Value → H} {w : World} {spare : Nat → Bool} {held : Bool} {a : Option Addr} {len cap fuel : Nat} {d : DataW H} {p : List MemPlace}
    (h : DataW.trod enc Tryd.prog w 0 spare held fuel 22 [.slice a len cap] = some (d, p)) : len = 0 ∨ ∃ el sp, d = .slice el sp ∧ el.length = len := by
  rcases open_slice Tryd.underlying22 h with ⟨hcs, _⟩ | ⟨b, l, c, m, n, D, Pl, hcs, _, hl, hm, _, hx, _⟩
  · simp at hcs
    obtain ⟨rfl, rfl, rfl⟩ := hcs
    exact .inl rfl
  · simp at hcs
    obtain ⟨rfl, rfl, rfl⟩ := hcs
    simp at hx
    exact .inr ⟨_, _, hx.1, by simp⟩
end Go.Proofs.YthjfhgnmaepafaaDoor
