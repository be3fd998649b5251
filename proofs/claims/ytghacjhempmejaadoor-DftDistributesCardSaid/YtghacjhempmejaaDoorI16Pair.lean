/-
  An argument of two rows of eight int16, opened. No condition.
-/
import Derived.Test.YtghacjhempmejaaDoorOff
import Derived.Deep.Slices
import Derived.ProofKit
namespace Go.Proofs.YtghacjhempmejaaDoor
open Go.RowKit Go.ChangeShapes Go.WideShapes Go.ChangeAt
def i16v (x : Int) : Value := .int .i16 x
/-- Two rows, one behind the other. -/
def i16pair (ps qs : List Int) : Value := .agg ((ps ++ qs).map i16v).toArray
theorem mapM_all {α β : Type} {f : α → Option β} : ∀ {l : List α} {xs : List β}, l.mapM f = some xs → ∀ i ∈ l, ∃ y, f i = some y
  | [], _, _, i, hi => by cases hi
  | a :: l, xs, h, i, hi => by
    rw [List.mapM_cons] at h
    simp only [bind, Option.bind_eq_some_iff, pure, Option.some.injEq] at h
    obtain ⟨y, hy, ys, hys, _⟩ := h
    rcases List.mem_cons.1 hi with rfl | hi
    · exact ⟨y, hy⟩
    · exact mapM_all hys i hi
section
variable {H : Type} {enc : TypeId × Value → H} {P : Program} {w : World} {base : Nat} {spare : Nat → Bool} {held : Bool}
theorem trod_array_at {n : Nat} {t e : TypeId} {fuel : Nat} {cs : List Value} {x : DataW H × List MemPlace} (hu : P.underlying t = some (.array n e)) (h : DataW.trod enc P w base spare held fuel t cs = some x) {i : Nat} (hi : i < n) :
    ∃ m y, DataW.trod enc P w base spare held m e ((cs.drop (i * P.cellsOf e)).take (P.cellsOf e)) = some y := by
  cases fuel with
  | zero => simp [DataW.trod] at h
  | succ fuel =>
    unfold DataW.trod at h
    rw [hu] at h
    simp only at h
    split at h
    · simp only [Option.map_eq_some_iff] at h
      obtain ⟨xs, hx, _⟩ := h
      obtain ⟨y, hy⟩ := mapM_all hx i (List.mem_range.2 hi)
      exact ⟨fuel, y, hy⟩
    · cases h
end
theorem list16 {α : Type} (l : List α) (h : (⟨l⟩ : Array α).size = 16) : ∃ a0 a1 a2 a3 a4 a5 a6 a7 b0 b1 b2 b3 b4 b5 b6 b7, l = [a0, a1, a2, a3, a4, a5, a6, a7, b0, b1, b2, b3, b4, b5, b6, b7] := by
  match l, h with
  | [a0, a1, a2, a3, a4, a5, a6, a7, b0, b1, b2, b3, b4, b5, b6, b7], _ => exact ⟨a0, a1, a2, a3, a4, a5, a6, a7, b0, b1, b2, b3, b4, b5, b6, b7, rfl⟩
theorem cells_pair16 : Tryd.prog.cellsOf 45 = 16 := by kernel_rfl
theorem cells_row8 : Tryd.prog.cellsOf 44 = 8 := by kernel_rfl
theorem cells_one16 : Tryd.prog.cellsOf 43 = 1 := by kernel_rfl
theorem one_i16 {H : Type} {enc : TypeId × Value → H} {w : World} {base : Nat} {spare : Nat → Bool} {held : Bool} {m : Nat} {c : Value} {y : DataW H × List MemPlace} (h : DataW.trod enc Tryd.prog w base spare held m 43 [c] = some y) : ∃ x, c = i16v x := by
  obtain ⟨x, e, _⟩ := DataW.trod_int Tryd.underlying43 h
  simp at e
  exact ⟨x, e⟩
theorem open_i16pair {H : Type} {enc : TypeId × Value → H} {W : World} {r : Reach} {base b0 : Nat} {sp : Nat → Bool} {held : Bool} {v : Value} {d : DataW H} {p : List MemPlace}
    (hok : Value.okWide Tryd.prog W r base 45 v) (h : DataW.Trod enc Tryd.prog W b0 sp held 45 v d p) : ∃ ps qs : List Int, (ps.length = 8 ∧ qs.length = 8) ∧ v = i16pair ps qs := by
  obtain ⟨cs, rfl, hsz, _⟩ : ∃ cs, v = .agg cs ∧ cs.size = Tryd.prog.cellsOf 45 ∧ Row.okWide Tryd.prog W r base 45 cs := by
    simpa [Value.okWide, Tryd.underlying45] using hok
  rw [cells_pair16] at hsz
  obtain ⟨l⟩ := cs
  obtain ⟨a0, a1, a2, a3, a4, a5, a6, a7, b0, b1, b2, b3, b4, b5, b6, b7, rfl⟩ := list16 l hsz
  obtain ⟨fuel, hf⟩ := h
  obtain ⟨m, y, hy⟩ := trod_array_at Tryd.underlying45 hf (i := 0) (by decide)
  obtain ⟨m', z, hz⟩ := trod_array_at Tryd.underlying45 hf (i := 1) (by decide)
  rw [cells_row8] at hy hz
  have ga : ∀ j, j < 8 → ∃ x, ([a0, a1, a2, a3, a4, a5, a6, a7][j]?).getD undef = i16v x := fun j hj => by
    obtain ⟨k, u, hu⟩ := trod_array_at Tryd.underlying44 hy (i := j) hj
    rw [cells_one16] at hu
    rcases (show j = 0 ∨ j = 1 ∨ j = 2 ∨ j = 3 ∨ j = 4 ∨ j = 5 ∨ j = 6 ∨ j = 7 by omega) with rfl | rfl | rfl | rfl | rfl | rfl | rfl | rfl <;> exact one_i16 hu
  have gb : ∀ j, j < 8 → ∃ x, ([b0, b1, b2, b3, b4, b5, b6, b7][j]?).getD undef = i16v x := fun j hj => by
    obtain ⟨k, u, hu⟩ := trod_array_at Tryd.underlying44 hz (i := j) hj
    rw [cells_one16] at hu
    rcases (show j = 0 ∨ j = 1 ∨ j = 2 ∨ j = 3 ∨ j = 4 ∨ j = 5 ∨ j = 6 ∨ j = 7 by omega) with rfl | rfl | rfl | rfl | rfl | rfl | rfl | rfl <;> exact one_i16 hu
  obtain ⟨x0, e0⟩ := ga 0 (by decide)
  obtain ⟨x1, e1⟩ := ga 1 (by decide)
  obtain ⟨x2, e2⟩ := ga 2 (by decide)
  obtain ⟨x3, e3⟩ := ga 3 (by decide)
  obtain ⟨x4, e4⟩ := ga 4 (by decide)
  obtain ⟨x5, e5⟩ := ga 5 (by decide)
  obtain ⟨x6, e6⟩ := ga 6 (by decide)
  obtain ⟨x7, e7⟩ := ga 7 (by decide)
  obtain ⟨y0, f0⟩ := gb 0 (by decide)
  obtain ⟨y1, f1⟩ := gb 1 (by decide)
  obtain ⟨y2, f2⟩ := gb 2 (by decide)
  obtain ⟨y3, f3⟩ := gb 3 (by decide)
  obtain ⟨y4, f4⟩ := gb 4 (by decide)
  obtain ⟨y5, f5⟩ := gb 5 (by decide)
  obtain ⟨y6, f6⟩ := gb 6 (by decide)
  obtain ⟨y7, f7⟩ := gb 7 (by decide)
  simp at e0 e1 e2 e3 e4 e5 e6 e7 f0 f1 f2 f3 f4 f5 f6 f7
  subst e0 e1 e2 e3 e4 e5 e6 e7 f0 f1 f2 f3 f4 f5 f6 f7
  exact ⟨[x0, x1, x2, x3, x4, x5, x6, x7], [y0, y1, y2, y3, y4, y5, y6, y7], ⟨rfl, rfl⟩, rfl⟩
end Go.Proofs.YtghacjhempmejaaDoor
