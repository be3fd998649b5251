/-
  An argument of four words, opened: it is the value of a number below 2^256. No condition.
-/
import Derived.Test.YtmokaikofcbboaaDoorLimbEq
import Derived.Laws.IdiomArrays
import Derived.ProofKit
namespace Go.Proofs.YtmokaikofcbboaaDoor
open Go.RowKit Go.ChangeShapes Go.WideShapes Go.ChangeAt

theorem list4 {α : Type} (l : List α) (h : (⟨l⟩ : Array α).size = 4) : ∃ a b c d, l = [a, b, c, d] := by
  match l, h with
  | [a, b, c, d], _ => exact ⟨a, b, c, d, rfl⟩
theorem cells_word : Tryd.prog.cellsOf 44 = 1 := by kernel_rfl
theorem cells_vec : Tryd.prog.cellsOf 45 = 4 := by kernel_rfl

set_option maxRecDepth 100000 in
theorem open_vec {H : Type} {enc : TypeId × Value → H} {W : World} {r : Reach} {base b0 : Nat} {sp : Nat → Bool} {held : Bool} {v : Value} {d : DataW H} {p : List MemPlace}
    (hok : Value.okWide Tryd.prog W r base 45 v) (h : DataW.Trod enc Tryd.prog W b0 sp held 45 v d p) : ∃ n, n < R256 ∧ v = V n := by
  obtain ⟨cs, rfl, hsz, _⟩ : ∃ cs, v = .agg cs ∧ cs.size = Tryd.prog.cellsOf 45 ∧ Row.okWide Tryd.prog W r base 45 cs := by
    simpa [Value.okWide, Tryd.underlying45] using hok
  rw [cells_vec] at hsz
  obtain ⟨l⟩ := cs
  obtain ⟨c0, c1, c2, c3, rfl⟩ := list4 l hsz
  obtain ⟨fuel, hf⟩ := h
  obtain ⟨y0, y1, y2, y3, m, hx, hy0, hy1, hy2, hy3⟩ := trod_array4 Tryd.underlying45 cells_word hf
  obtain ⟨x0, e0, rfl, w0⟩ := DataW.trod_int Tryd.underlying44 hy0
  obtain ⟨x1, e1, rfl, w1⟩ := DataW.trod_int Tryd.underlying44 hy1
  obtain ⟨x2, e2, rfl, w2⟩ := DataW.trod_int Tryd.underlying44 hy2
  obtain ⟨x3, e3, rfl, w3⟩ := DataW.trod_int Tryd.underlying44 hy3
  simp at e0 e1 e2 e3
  subst e0 e1 e2 e3
  have word : ∀ {x : Int}, (Lit.int .u64 x).wf = true → Word x := fun h => by have := bounds_u64 h; exact ⟨by omega, by omega⟩
  obtain ⟨n, hn, rfl, rfl, rfl, rfl⟩ := words_num (word w0) (word w1) (word w2) (word w3)
  exact ⟨n, hn, rfl⟩

/-- A call that changes nothing that lay in memory before keeps a number and the frame: for a region that draws its order. -/
theorem held_one {f : FuncId} {args : Array Value} {v : Value} (hc : ∀ W, Calls Tryd.prog f args W fun e w' => e = .returned v ∧ Off (fun _ => False) W w') {w W : World} {b n : Nat}
    (h : W.cell? ⟨b, 0, none⟩ = some (.int .u64 (wd n 0 : Int)) ∧ W.cell? ⟨b, 1, none⟩ = some (.int .u64 (wd n 1 : Int)) ∧ W.cell? ⟨b, 2, none⟩ = some (.int .u64 (wd n 2 : Int)) ∧ W.cell? ⟨b, 3, none⟩ = some (.int .u64 (wd n 3 : Int)) ∧ Off (fun _ => False) w W) :
    Calls Tryd.prog f args W fun e w' => e = .returned v ∧ (w'.cell? ⟨b, 0, none⟩ = some (.int .u64 (wd n 0 : Int)) ∧ w'.cell? ⟨b, 1, none⟩ = some (.int .u64 (wd n 1 : Int)) ∧ w'.cell? ⟨b, 2, none⟩ = some (.int .u64 (wd n 2 : Int)) ∧ w'.cell? ⟨b, 3, none⟩ = some (.int .u64 (wd n 3 : Int)) ∧ Off (fun _ => False) w w') := by
  obtain ⟨h0, h1, h2, h3, h4⟩ := h
  exact (hc W).mono fun e w' ⟨he, hO⟩ => ⟨he, hO.cell h0 (fun c => c), hO.cell h1 (fun c => c), hO.cell h2 (fun c => c), hO.cell h3 (fun c => c), h4.trans hO (fun _ _ c => c)⟩

/-- The same for three numbers. -/
def Four (w : World) (b n : Nat) : Prop := w.cell? ⟨b, 0, none⟩ = some (.int .u64 (wd n 0 : Int)) ∧ w.cell? ⟨b, 1, none⟩ = some (.int .u64 (wd n 1 : Int)) ∧ w.cell? ⟨b, 2, none⟩ = some (.int .u64 (wd n 2 : Int)) ∧ w.cell? ⟨b, 3, none⟩ = some (.int .u64 (wd n 3 : Int))
theorem Four.off {w w' : World} {b n : Nat} (h : Four w b n) (ho : Off (fun _ => False) w w') : Four w' b n :=
  ⟨ho.cell h.1 (fun c => c), ho.cell h.2.1 (fun c => c), ho.cell h.2.2.1 (fun c => c), ho.cell h.2.2.2 (fun c => c)⟩
theorem held_three {f : FuncId} {args : Array Value} {v : Value} (hc : ∀ W, Calls Tryd.prog f args W fun e w' => e = .returned v ∧ Off (fun _ => False) W w') {w W : World} {b n b' n' b'' n'' : Nat}
    (h : (W.cell? ⟨b, 0, none⟩ = some (.int .u64 (wd n 0 : Int)) ∧ W.cell? ⟨b, 1, none⟩ = some (.int .u64 (wd n 1 : Int)) ∧ W.cell? ⟨b, 2, none⟩ = some (.int .u64 (wd n 2 : Int)) ∧ W.cell? ⟨b, 3, none⟩ = some (.int .u64 (wd n 3 : Int))) ∧
      (W.cell? ⟨b', 0, none⟩ = some (.int .u64 (wd n' 0 : Int)) ∧ W.cell? ⟨b', 1, none⟩ = some (.int .u64 (wd n' 1 : Int)) ∧ W.cell? ⟨b', 2, none⟩ = some (.int .u64 (wd n' 2 : Int)) ∧ W.cell? ⟨b', 3, none⟩ = some (.int .u64 (wd n' 3 : Int))) ∧
      (W.cell? ⟨b'', 0, none⟩ = some (.int .u64 (wd n'' 0 : Int)) ∧ W.cell? ⟨b'', 1, none⟩ = some (.int .u64 (wd n'' 1 : Int)) ∧ W.cell? ⟨b'', 2, none⟩ = some (.int .u64 (wd n'' 2 : Int)) ∧ W.cell? ⟨b'', 3, none⟩ = some (.int .u64 (wd n'' 3 : Int))) ∧ Off (fun _ => False) w W) :
    Calls Tryd.prog f args W fun e w' => e = .returned v ∧ ((w'.cell? ⟨b, 0, none⟩ = some (.int .u64 (wd n 0 : Int)) ∧ w'.cell? ⟨b, 1, none⟩ = some (.int .u64 (wd n 1 : Int)) ∧ w'.cell? ⟨b, 2, none⟩ = some (.int .u64 (wd n 2 : Int)) ∧ w'.cell? ⟨b, 3, none⟩ = some (.int .u64 (wd n 3 : Int))) ∧
      (w'.cell? ⟨b', 0, none⟩ = some (.int .u64 (wd n' 0 : Int)) ∧ w'.cell? ⟨b', 1, none⟩ = some (.int .u64 (wd n' 1 : Int)) ∧ w'.cell? ⟨b', 2, none⟩ = some (.int .u64 (wd n' 2 : Int)) ∧ w'.cell? ⟨b', 3, none⟩ = some (.int .u64 (wd n' 3 : Int))) ∧
      (w'.cell? ⟨b'', 0, none⟩ = some (.int .u64 (wd n'' 0 : Int)) ∧ w'.cell? ⟨b'', 1, none⟩ = some (.int .u64 (wd n'' 1 : Int)) ∧ w'.cell? ⟨b'', 2, none⟩ = some (.int .u64 (wd n'' 2 : Int)) ∧ w'.cell? ⟨b'', 3, none⟩ = some (.int .u64 (wd n'' 3 : Int))) ∧ Off (fun _ => False) w w') :=
  (hc W).mono fun _ _ ⟨he, hO⟩ => ⟨he, Four.off h.1 hO, Four.off h.2.1 hO, Four.off h.2.2.1 hO, h.2.2.2.trans hO (fun _ _ c => c)⟩
end Go.Proofs.YtmokaikofcbboaaDoor
