/-
  Arguments of layer 5's statements, opened: an element is the value of a number below 2^256, a pair of numbers the values of two. No condition.
-/
import Derived.Test.YtpekmoegmdfmpaaDoorLimbOpen
namespace Go.Proofs.YtpekmoegmdfmpaaDoor
open Go.RowKit Go.ChangeShapes Go.WideShapes Go.ChangeAt

theorem cells_elem : Tryd.prog.cellsOf 24 = 4 := by kernel_rfl
theorem open_elem {H : Type} {enc : TypeId × Value → H} {W : World} {r : Reach} {base b0 : Nat} {sp : Nat → Bool} {held : Bool} {v : Value} {d : DataW H} {p : List MemPlace}
    (hok : Value.okWide Tryd.prog W r base 24 v) (h : DataW.Trod enc Tryd.prog W b0 sp held 24 v d p) : ∃ n, n < R256 ∧ v = V n := by
  obtain ⟨cs, rfl, hsz, _⟩ : ∃ cs, v = .agg cs ∧ cs.size = Tryd.prog.cellsOf 24 ∧ Row.okWide Tryd.prog W r base 24 cs := by
    simpa [Value.okWide, Tryd.underlying24] using hok
  rw [cells_elem] at hsz
  obtain ⟨l⟩ := cs
  obtain ⟨c0, c1, c2, c3, rfl⟩ := list4 l hsz
  obtain ⟨fuel, hf⟩ := h
  obtain ⟨y0, y1, y2, y3, m, hx, hy0, hy1, hy2, hy3⟩ := trod_array4 Tryd.underlying24 cells_word hf
  obtain ⟨x0, e0, rfl, w0⟩ := DataW.trod_int Tryd.underlying22 hy0
  obtain ⟨x1, e1, rfl, w1⟩ := DataW.trod_int Tryd.underlying22 hy1
  obtain ⟨x2, e2, rfl, w2⟩ := DataW.trod_int Tryd.underlying22 hy2
  obtain ⟨x3, e3, rfl, w3⟩ := DataW.trod_int Tryd.underlying22 hy3
  simp at e0 e1 e2 e3
  subst e0 e1 e2 e3
  have word : ∀ {x : Int}, (Lit.int .u64 x).wf = true → Word x := fun h => by have := bounds_u64 h; exact ⟨by omega, by omega⟩
  obtain ⟨n, hn, rfl, rfl, rfl, rfl⟩ := words_num (word w0) (word w1) (word w2) (word w3)
  exact ⟨n, hn, rfl⟩

/-- Two numbers, one behind the other. -/
abbrev V2 (n o : Nat) : Value := .agg #[.int .u64 (wd n 0 : Int), .int .u64 (wd n 1 : Int), .int .u64 (wd n 2 : Int), .int .u64 (wd n 3 : Int), .int .u64 (wd o 0 : Int), .int .u64 (wd o 1 : Int), .int .u64 (wd o 2 : Int), .int .u64 (wd o 3 : Int)]
theorem cells_vec2 : Tryd.prog.cellsOf 42 = 8 := by kernel_rfl
theorem list8 {α : Type} (l : List α) (h : (⟨l⟩ : Array α).size = 8) : ∃ a b c d e f g k, l = [a, b, c, d, e, f, g, k] := by
  match l, h with
  | [a, b, c, d, e, f, g, k], _ => exact ⟨a, b, c, d, e, f, g, k, rfl⟩
theorem trod_twice4 {H : Type} {enc : TypeId × Value → H} {P : Program} {w : World} {base : Nat} {spare : Nat → Bool} {held : Bool} {t e : TypeId} {fuel : Nat} {c0 c1 c2 c3 c4 c5 c6 c7 : Value} {x : DataW H × List MemPlace} (ht : P.underlying t = some (.array 2 e)) (hce : P.cellsOf e = 4)
    (h : DataW.trod enc P w base spare held fuel t [c0, c1, c2, c3, c4, c5, c6, c7] = some x) :
    ∃ y0 y1 n, DataW.trod enc P w base spare held n e [c0, c1, c2, c3] = some y0 ∧ DataW.trod enc P w base spare held n e [c4, c5, c6, c7] = some y1 := by
  cases fuel with
  | zero => simp [DataW.trod] at h
  | succ n =>
    unfold DataW.trod at h
    rw [ht] at h
    have r2 : List.range 2 = [0, 1] := rfl
    simp [r2, hce] at h
    obtain ⟨_, h⟩ := h
    cases h0 : DataW.trod enc P w base spare held n e [c0, c1, c2, c3] with
    | none => simp [h0] at h
    | some y0 =>
      cases h1 : DataW.trod enc P w base spare held n e [c4, c5, c6, c7] with
      | none => simp [h0, h1] at h
      | some y1 => exact ⟨y0, y1, n, h0, h1⟩
theorem open_vec2 {H : Type} {enc : TypeId × Value → H} {W : World} {r : Reach} {base b0 : Nat} {sp : Nat → Bool} {held : Bool} {v : Value} {d : DataW H} {p : List MemPlace}
    (hok : Value.okWide Tryd.prog W r base 42 v) (h : DataW.Trod enc Tryd.prog W b0 sp held 42 v d p) : ∃ n o, (n < R256 ∧ o < R256) ∧ v = V2 n o := by
  obtain ⟨cs, rfl, hsz, _⟩ : ∃ cs, v = .agg cs ∧ cs.size = Tryd.prog.cellsOf 42 ∧ Row.okWide Tryd.prog W r base 42 cs := by
    simpa [Value.okWide, Tryd.underlying42] using hok
  rw [cells_vec2] at hsz
  obtain ⟨l⟩ := cs
  obtain ⟨c0, c1, c2, c3, c4, c5, c6, c7, rfl⟩ := list8 l hsz
  obtain ⟨fuel, hf⟩ := h
  obtain ⟨y, z, m0, hy, hz⟩ := trod_twice4 Tryd.underlying42 cells_vec hf
  have word : ∀ {x : Int}, (Lit.int .u64 x).wf = true → Word x := fun h => by have := bounds_u64 h; exact ⟨by omega, by omega⟩
  obtain ⟨y0, y1, y2, y3, m, hx, hy0, hy1, hy2, hy3⟩ := trod_array4 Tryd.underlying23 cells_word hy
  obtain ⟨x0, e0, _, w0⟩ := DataW.trod_int Tryd.underlying22 hy0
  obtain ⟨x1, e1, _, w1⟩ := DataW.trod_int Tryd.underlying22 hy1
  obtain ⟨x2, e2, _, w2⟩ := DataW.trod_int Tryd.underlying22 hy2
  obtain ⟨x3, e3, _, w3⟩ := DataW.trod_int Tryd.underlying22 hy3
  obtain ⟨z0, z1, z2, z3, m1, hx1, hz0, hz1, hz2, hz3⟩ := trod_array4 Tryd.underlying23 cells_word hz
  obtain ⟨x4, e4, _, w4⟩ := DataW.trod_int Tryd.underlying22 hz0
  obtain ⟨x5, e5, _, w5⟩ := DataW.trod_int Tryd.underlying22 hz1
  obtain ⟨x6, e6, _, w6⟩ := DataW.trod_int Tryd.underlying22 hz2
  obtain ⟨x7, e7, _, w7⟩ := DataW.trod_int Tryd.underlying22 hz3
  simp at e0 e1 e2 e3 e4 e5 e6 e7
  subst e0 e1 e2 e3 e4 e5 e6 e7
  obtain ⟨n, hn, rfl, rfl, rfl, rfl⟩ := words_num (word w0) (word w1) (word w2) (word w3)
  obtain ⟨o, ho, rfl, rfl, rfl, rfl⟩ := words_num (word w4) (word w5) (word w6) (word w7)
  exact ⟨n, o, ⟨hn, ho⟩, rfl⟩
end Go.Proofs.YtpekmoegmdfmpaaDoor
