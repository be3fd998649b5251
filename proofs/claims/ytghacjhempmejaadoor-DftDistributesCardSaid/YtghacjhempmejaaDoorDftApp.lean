/-
  Rows of ints of the call's own: as lists of ints; a list put behind a 0; one int put behind. Condition: the rows are short.
-/
import Derived.Test.YtghacjhempmejaaDoorDftMul
import Derived.Maps.AppendAt
import Derived.Lib.AppendZeros
import Derived.Laws.OwnMore
namespace Go.Proofs.YtghacjhempmejaaDoor
open Go.RowKit
def iv64 (z : Int) : Value := .int .i64 z
/-- A row of ints of the call's own. -/
def RowI (B : Nat) (W : World) (v : Value) (xs : List Int) : Prop := W.ownsRow B 3 1 v xs.length (xs.map iv64)
theorem RowI.iv {B : Nat} {W : World} {v : Value} {xs : List Int} (h : RowI B W v xs) (hl : xs.length ≤ 1000) (hw : ∀ x ∈ xs, (Lit.int .i64 x).wf = true) : Iv W v xs := by
  rcases h.2 with ⟨rfl, hn⟩ | ⟨g, cap, cur, rfl, _, hgc, hnc, hcm, hcs, htake⟩
  · exact ⟨none, 0, by rw [hn], by unfold maxLen; omega, hw, fun hp => by omega⟩
  · refine ⟨some ⟨g, 0, none⟩, cap, rfl, by unfold maxLen; omega, hw, fun _ => ⟨g, 0, rfl, trivial, fun j x hj => ?_⟩⟩
    have hlt := (List.getElem?_eq_some_iff.1 hj).1
    have hc := World.ownsRow.cellAt h j (by omega)
    rw [Nat.zero_add, hc, List.getElem?_map, hj]; rfl
theorem app_int_off {w W w' : World} {v : Value} {xs : List Int} (hO : Off (fun _ => False) w W) (h1 : RowI w.heap.size W v xs) (hg : W.grownBy w' v.ownBlock) : Off (fun _ => False) w w' := by
  refine hO.grown hg (fun j ej => ?_)
  have hx := (World.ownsRow.lt h1 j ej).1
  refine ⟨fun h => by omega, fun o ho => ?_⟩
  rcases h1.2 with ⟨rfl, _⟩ | ⟨g, cap, cur, rfl, _, hgb, _⟩
  · simp [Value.ownBlock] at ej
  · obtain rfl : g = j := by simpa [Value.ownBlock] using ej
    rw [hgb] at ho; cases ho; rfl
theorem app_list {w W : World} {a : Option Addr} {n cap : Nat} {is : List Int} (hO : Off (fun _ => False) w W) (h : Iv W (.slice a n cap) is) (hn : n = is.length) (hp : 0 < n) (hl : n ≤ 999) :
    ∃ v' w', (Builtin.append_ #[22, 22] 22 #[.slice (some ⟨W.heap.size, 0, none⟩) 1 1, .slice a n cap]).run Tryd.prog (W.alloc (.cells #[.int .i64 0] 3)) = .ok v' w' ∧ Iv w' v' (0 :: is) ∧ Off (fun _ => False) w w' := by
  obtain ⟨i0, hi, hz0, hz1, hz2⟩ := info_parts int_info'
  have hO1 := hO.alloc (.cells #[.int .i64 0] 3)
  have h2 : Iv (W.alloc (.cells #[.int .i64 0] 3)) (.slice a n cap) is := Iv.off h ((Off.refl _ W).alloc _)
  obtain ⟨x, b, off, _, rfl, _⟩ := IvAt.at h2 hp
  have hown : RowI w.heap.size (W.alloc (.cells #[.int .i64 0] 3)) (.slice (some ⟨W.heap.size, 0, none⟩) 1 1) [0] := World.ownsRow_lit W #[.int .i64 0] 1 hO.size (by decide) rfl
  obtain ⟨v', w', hr, ho, hg, _, _⟩ := run_append_own_at (P := Tryd.prog) _ w.heap.size 22 22 3 i0 _ 1 8 Tryd.underlying22 hi hz0 hz1 hz2 rfl (by decide) _ 1 _ hown ⟨b, off, none⟩ n cap (is.map iv64) (by rw [List.length_map]; omega) (fun j u hu => by
    rw [List.getElem?_map] at hu
    cases hx : is[j]? with
    | none => rw [hx] at hu; cases hu
    | some y =>
      rw [hx] at hu
      cases hu
      have hj : j < n := by have := (List.getElem?_eq_some_iff.1 hx).1; omega
      obtain ⟨y', b', off', hy', eb, hc, _⟩ := IvAt.at h2 hj
      cases eb
      rw [hx] at hy'
      cases hy'
      rw [Addr.add_lit]; exact hc) (fun u hu => by
    obtain ⟨y, _, rfl⟩ := List.mem_map.1 hu
    rfl) (by unfold maxLen; omega) (by omega) hO1.size
  refine ⟨v', w', hr, ?_, app_int_off hO1 hown hg⟩
  have hrow : RowI w.heap.size w' v' (0 :: is) := by
    unfold RowI
    rw [show (0 :: is).length = 1 + n by rw [List.length_cons]; omega]
    exact ho
  refine RowI.iv hrow (by rw [List.length_cons]; omega) (fun y hy => ?_)
  rcases List.mem_cons.1 hy with rfl | hy
  · decide
  · exact (IvAt.len h).2.2 y hy
/-- An append behind a guard that holds. -/
theorem wpList_append_guard {P : Program} (w : World) {ops : Array Oper} {rest : List Oper} {o : Oper} {a : Act} {Q : Exit → Act → World → Prop} (hw : Region.wanted o (yielded ops a.tmps) = true) (s x : Operand) (t tn : TypeId)
    (ho : o.op = .call { callee := .builtin .append, args := #[s, x], argTypes := #[t, tn] }) (vs vx : Value) (hs : a.eval s = vs) (hx : a.eval x = vx)
    (v' : Value) (w' : World) (hr : (Builtin.append_ #[t, tn] o.type #[vs, vx]).run P w = .ok v' w') (h : wpList P ops Q rest (a.put o.dst v') w') : wpList P ops Q (o :: rest) a w :=
  wpList_step fun K hK => by
    rw [if_pos hw]
    exact Go.Lib.wp_append_run w s x t tn ho vs vx hs hx v' w' hr (hK _ _ h)
end Go.Proofs.YtghacjhempmejaaDoor
