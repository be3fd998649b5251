/-
  Arguments of statements, opened: two rows of three numbers of four words each. No condition.
-/
import Derived.Test.YtclehgconbdkpaaDoorLimbWords
namespace Go.Proofs.YtclehgconbdkpaaDoor
open Go.RowKit Go.ChangeShapes Go.WideShapes Go.ChangeAt
/-- The value that holds six numbers. -/
def V6 (n0 n1 n2 n3 n4 n5 : Nat) : Value := .agg #[.int .u64 (wd n0 0 : Int), .int .u64 (wd n0 1 : Int), .int .u64 (wd n0 2 : Int), .int .u64 (wd n0 3 : Int), .int .u64 (wd n1 0 : Int), .int .u64 (wd n1 1 : Int), .int .u64 (wd n1 2 : Int), .int .u64 (wd n1 3 : Int), .int .u64 (wd n2 0 : Int), .int .u64 (wd n2 1 : Int), .int .u64 (wd n2 2 : Int), .int .u64 (wd n2 3 : Int), .int .u64 (wd n3 0 : Int), .int .u64 (wd n3 1 : Int), .int .u64 (wd n3 2 : Int), .int .u64 (wd n3 3 : Int), .int .u64 (wd n4 0 : Int), .int .u64 (wd n4 1 : Int), .int .u64 (wd n4 2 : Int), .int .u64 (wd n4 3 : Int), .int .u64 (wd n5 0 : Int), .int .u64 (wd n5 1 : Int), .int .u64 (wd n5 2 : Int), .int .u64 (wd n5 3 : Int)]
theorem list24 {α : Type} (l : List α) (h : (⟨l⟩ : Array α).size = 24) : ∃ c0 c1 c2 c3 c4 c5 c6 c7 c8 c9 c10 c11 c12 c13 c14 c15 c16 c17 c18 c19 c20 c21 c22 c23, l = [c0, c1, c2, c3, c4, c5, c6, c7, c8, c9, c10, c11, c12, c13, c14, c15, c16, c17, c18, c19, c20, c21, c22, c23] := by
  match l, h with
  | [c0, c1, c2, c3, c4, c5, c6, c7, c8, c9, c10, c11, c12, c13, c14, c15, c16, c17, c18, c19, c20, c21, c22, c23], _ => exact ⟨c0, c1, c2, c3, c4, c5, c6, c7, c8, c9, c10, c11, c12, c13, c14, c15, c16, c17, c18, c19, c20, c21, c22, c23, rfl⟩
theorem trod_two12 {H : Type} {enc : TypeId × Value → H} {P : Program} {w : World} {base : Nat} {spare : Nat → Bool} {held : Bool} {t e : TypeId} {fuel : Nat} {c0 c1 c2 c3 c4 c5 c6 c7 c8 c9 c10 c11 c12 c13 c14 c15 c16 c17 c18 c19 c20 c21 c22 c23 : Value} {x : DataW H × List MemPlace} (ht : P.underlying t = some (.array 2 e)) (hce : P.cellsOf e = 12)
    (h : DataW.trod enc P w base spare held fuel t [c0, c1, c2, c3, c4, c5, c6, c7, c8, c9, c10, c11, c12, c13, c14, c15, c16, c17, c18, c19, c20, c21, c22, c23] = some x) :
    ∃ y0 y1 n, DataW.trod enc P w base spare held n e [c0, c1, c2, c3, c4, c5, c6, c7, c8, c9, c10, c11] = some y0 ∧ DataW.trod enc P w base spare held n e [c12, c13, c14, c15, c16, c17, c18, c19, c20, c21, c22, c23] = some y1 := by
  cases fuel with
  | zero => simp [DataW.trod] at h
  | succ n =>
    unfold DataW.trod at h
    rw [ht] at h
    have r2 : List.range 2 = [0, 1] := rfl
    simp [r2, hce] at h
    obtain ⟨_, h⟩ := h
    cases h0 : DataW.trod enc P w base spare held n e [c0, c1, c2, c3, c4, c5, c6, c7, c8, c9, c10, c11] with
    | none => simp [h0] at h
    | some y0 =>
      cases h1 : DataW.trod enc P w base spare held n e [c12, c13, c14, c15, c16, c17, c18, c19, c20, c21, c22, c23] with
      | none => simp [h0, h1] at h
      | some y1 => exact ⟨y0, y1, n, h0, h1⟩
theorem trod_three4 {H : Type} {enc : TypeId × Value → H} {P : Program} {w : World} {base : Nat} {spare : Nat → Bool} {held : Bool} {t e : TypeId} {fuel : Nat} {c0 c1 c2 c3 c4 c5 c6 c7 c8 c9 c10 c11 : Value} {x : DataW H × List MemPlace} (ht : P.underlying t = some (.array 3 e)) (hce : P.cellsOf e = 4)
    (h : DataW.trod enc P w base spare held fuel t [c0, c1, c2, c3, c4, c5, c6, c7, c8, c9, c10, c11] = some x) :
    ∃ y0 y1 y2 n, DataW.trod enc P w base spare held n e [c0, c1, c2, c3] = some y0 ∧ DataW.trod enc P w base spare held n e [c4, c5, c6, c7] = some y1 ∧ DataW.trod enc P w base spare held n e [c8, c9, c10, c11] = some y2 := by
  cases fuel with
  | zero => simp [DataW.trod] at h
  | succ n =>
    unfold DataW.trod at h
    rw [ht] at h
    have r3 : List.range 3 = [0, 1, 2] := rfl
    simp [r3, hce] at h
    obtain ⟨_, h⟩ := h
    cases h0 : DataW.trod enc P w base spare held n e [c0, c1, c2, c3] with
    | none => simp [h0] at h
    | some y0 =>
      cases h1 : DataW.trod enc P w base spare held n e [c4, c5, c6, c7] with
      | none => simp [h0, h1] at h
      | some y1 =>
        cases h2 : DataW.trod enc P w base spare held n e [c8, c9, c10, c11] with
        | none => simp [h0, h1, h2] at h
        | some y2 => exact ⟨y0, y1, y2, n, h0, h1, h2⟩
theorem vec_of_trod {H : Type} {enc : TypeId × Value → H} {w : World} {base : Nat} {spare : Nat → Bool} {held : Bool} {fuel : Nat} {c0 c1 c2 c3 : Value} {x : DataW H × List MemPlace} (h : DataW.trod enc Tryd.prog w base spare held fuel 51 [c0, c1, c2, c3] = some x) :
    ∃ n, n < R256 ∧ c0 = .int .u64 (wd n 0 : Int) ∧ c1 = .int .u64 (wd n 1 : Int) ∧ c2 = .int .u64 (wd n 2 : Int) ∧ c3 = .int .u64 (wd n 3 : Int) := by
  have word : ∀ {x : Int}, (Lit.int .u64 x).wf = true → Word x := fun h => by have := bounds_u64 h; exact ⟨by omega, by omega⟩
  obtain ⟨y0, y1, y2, y3, m, hx, hy0, hy1, hy2, hy3⟩ := trod_array4 Tryd.underlying51 cells_word h
  obtain ⟨x0, e0, _, w0⟩ := DataW.trod_int Tryd.underlying50 hy0
  obtain ⟨x1, e1, _, w1⟩ := DataW.trod_int Tryd.underlying50 hy1
  obtain ⟨x2, e2, _, w2⟩ := DataW.trod_int Tryd.underlying50 hy2
  obtain ⟨x3, e3, _, w3⟩ := DataW.trod_int Tryd.underlying50 hy3
  simp at e0 e1 e2 e3
  subst e0 e1 e2 e3
  obtain ⟨n, hn, rfl, rfl, rfl, rfl⟩ := words_num (word w0) (word w1) (word w2) (word w3)
  exact ⟨n, hn, rfl, rfl, rfl, rfl⟩
theorem cells_v6 : Tryd.prog.cellsOf 65 = 24 := by kernel_rfl
theorem cells_v3 : Tryd.prog.cellsOf 64 = 12 := by kernel_rfl
theorem cells_v1 : Tryd.prog.cellsOf 51 = 4 := by kernel_rfl
set_option maxRecDepth 100000 in
theorem open_vec6 {H : Type} {enc : TypeId × Value → H} {W : World} {r : Reach} {base b0 : Nat} {sp : Nat → Bool} {held : Bool} {v : Value} {d : DataW H} {p : List MemPlace}
    (hok : Value.okWide Tryd.prog W r base 65 v) (h : DataW.Trod enc Tryd.prog W b0 sp held 65 v d p) : ∃ n0 n1 n2 n3 n4 n5, (n0 < R256 ∧ n1 < R256 ∧ n2 < R256 ∧ n3 < R256 ∧ n4 < R256 ∧ n5 < R256) ∧ v = V6 n0 n1 n2 n3 n4 n5 := by
  obtain ⟨cs, rfl, hsz, _⟩ : ∃ cs, v = .agg cs ∧ cs.size = Tryd.prog.cellsOf 65 ∧ Row.okWide Tryd.prog W r base 65 cs := by
    simpa [Value.okWide, Tryd.underlying65] using hok
  rw [cells_v6] at hsz
  obtain ⟨l⟩ := cs
  obtain ⟨c0, c1, c2, c3, c4, c5, c6, c7, c8, c9, c10, c11, c12, c13, c14, c15, c16, c17, c18, c19, c20, c21, c22, c23, rfl⟩ := list24 l hsz
  obtain ⟨fuel, hf⟩ := h
  obtain ⟨y, z, m0, hy, hz⟩ := trod_two12 Tryd.underlying65 cells_v3 hf
  obtain ⟨_, _, _, m1, g0, g1, g2⟩ := trod_three4 Tryd.underlying64 cells_v1 hy
  obtain ⟨_, _, _, m2, g3, g4, g5⟩ := trod_three4 Tryd.underlying64 cells_v1 hz
  obtain ⟨n0, h0, rfl, rfl, rfl, rfl⟩ := vec_of_trod g0
  obtain ⟨n1, h1, rfl, rfl, rfl, rfl⟩ := vec_of_trod g1
  obtain ⟨n2, h2, rfl, rfl, rfl, rfl⟩ := vec_of_trod g2
  obtain ⟨n3, h3, rfl, rfl, rfl, rfl⟩ := vec_of_trod g3
  obtain ⟨n4, h4, rfl, rfl, rfl, rfl⟩ := vec_of_trod g4
  obtain ⟨n5, h5, rfl, rfl, rfl, rfl⟩ := vec_of_trod g5
  exact ⟨n0, n1, n2, n3, n4, n5, ⟨h0, h1, h2, h3, h4, h5⟩, rfl⟩
end Go.Proofs.YtclehgconbdkpaaDoor
