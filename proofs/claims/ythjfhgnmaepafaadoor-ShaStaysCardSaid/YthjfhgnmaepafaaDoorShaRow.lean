/-
  Rows of words of 32 bits and of bytes, of the call's own; one cell put behind. Condition: the rows are short.
-/
import Derived.Test.YthjfhgnmaepafaaDoorShaRoots
import Derived.Test.YthjfhgnmaepafaaDoorBytMem
import Derived.Maps.AppendAt
import Derived.Lib.AppendZeros
import Derived.Laws.OwnMore
namespace Go.Proofs.YthjfhgnmaepafaaDoor
open Go.RowKit
set_option maxRecDepth 100000
set_option maxHeartbeats 4000000
theorem word_info : (Tryd.prog.info? 42).map (fun i => (i.zero, i.size, i.bytes)) = some (some (.int .u32 0), 1, 4) := by kernel_rfl
/-- A row of cells of the type T of the call's own. -/
def RowT (T : TypeId) (f : Nat → Value) (B : Nat) (W : World) (v : Value) (xs : List Nat) : Prop := W.ownsRow B T 1 v xs.length (xs.map f)
/-- A row of words, a row of bytes. -/
abbrev RowW := RowT 42 u32v
abbrev RowB := RowT 5 u8v
section
variable {T : TypeId} {f : Nat → Value} {B : Nat} {W : World} {v : Value} {xs : List Nat}
theorem RowT.nil (W : World) : RowT T f B W (.slice none 0 0) [] := World.ownsRow_nil _ _ _ _
theorem RowT.form (h : RowT T f B W v xs) (hp : 0 < xs.length) : ∃ g cap, v = .slice (some ⟨g, 0, none⟩) xs.length cap ∧ xs.length ≤ cap ∧ B ≤ g ∧ g < W.heap.size ∧ ∀ j x, xs[j]? = some x → W.cell? ⟨g, j, none⟩ = some (f x) := by
  rcases h.2 with ⟨rfl, hn⟩ | ⟨g, cap, cur, rfl, hBg, hgc, hnc, hcm, hcs, htake⟩
  · omega
  · refine ⟨g, cap, rfl, by omega, hBg, heap_lt hgc, fun j x hj => ?_⟩
    have hlt := (List.getElem?_eq_some_iff.1 hj).1
    have hc := World.ownsRow.cellAt h j (by omega)
    rw [hc, List.getElem?_map, hj]; rfl
theorem RowT.shape (h : RowT T f B W v xs) : ∃ a cap, v = .slice a xs.length cap ∧ xs.length ≤ cap := by
  rcases h.2 with ⟨rfl, hn⟩ | ⟨g, cap, cur, rfl, hBg, hgc, hnc, hcm, hcs, htake⟩
  · exact ⟨none, 0, by rw [hn], by omega⟩
  · exact ⟨_, cap, rfl, by omega⟩
theorem RowT.off {W' : World} {S : Nat → Prop} (h : RowT T f B W v xs) (ho : Off S W W') (hd : ∀ k, v.ownBlock = some k → ¬ S k) : RowT T f B W' v xs := by
  obtain ⟨hl, h⟩ := h
  refine ⟨hl, ?_⟩
  rcases h with hn | ⟨g, cap, cur, rfl, hb, hg, r⟩
  · exact .inl hn
  · exact .inr ⟨g, cap, cur, rfl, hb, ho.heap hg (hd g (by simp [Value.ownBlock])), r⟩
end
/-- One word put behind. -/
theorem app_word {w W : World} {v : Value} {xs : List Nat} (hO : Off (fun _ => False) w W) (h1 : RowW w.heap.size W v xs) (hk : xs.length ≤ 10000) (a : Addr) (x : Nat) (hz : W.cell? a = some (u32v x)) :
    ∃ v' w', (Builtin.append_ #[39, 39] 39 #[v, .slice (some a) 1 1]).run Tryd.prog W = .ok v' w' ∧ RowW w.heap.size w' v' (xs ++ [x]) ∧ Off (fun _ => False) w w' := by
  obtain ⟨i0, hi, hz0, hz1, hz2⟩ := info_parts word_info
  obtain ⟨v', w', hr, ho, hg, _, hb⟩ := run_append_own_at (P := Tryd.prog) W w.heap.size 39 39 42 i0 _ 1 4 Tryd.underlying39 hi hz0 hz1 hz2 rfl (by decide) v xs.length _ h1 a 1 1 [u32v x] rfl (fun j y hj => by
    cases j with
    | zero => simp at hj; subst hj; simpa [Addr.add] using hz
    | succ j => simp at hj) (by simp [Value.oneCell']) (by unfold maxLen; omega) (by omega) hO.size
  refine ⟨v', w', hr, ?_, ?_⟩
  · unfold RowW RowT
    rw [List.map_append, List.length_append]
    exact ho
  · refine hO.grown hg (fun j ej => ?_)
    have hx := (World.ownsRow.lt h1 j ej).1
    refine ⟨fun h => by omega, fun o ho => ?_⟩
    rcases h1.2 with ⟨rfl, _⟩ | ⟨g, cap, cur, rfl, _, hgb, _⟩
    · simp [Value.ownBlock] at ej
    · obtain rfl : g = j := by simpa [Value.ownBlock] using ej
      rw [hgb] at ho; cases ho; rfl
/-- Bytes put behind a row of bytes. -/
theorem app_bytes {w W : World} {v : Value} {xs ys : List Nat} (hO : Off (fun _ => False) w W) (h1 : RowB w.heap.size W v xs) {a : Option Addr} {n cap : Nat} {S : Nat → Prop} (h2 : BsAt W a ys S) (hn : n = ys.length) (hp : 0 < n) (hk : xs.length + n ≤ 100000) :
    ∃ v' w', (Builtin.append_ #[22, 22] 22 #[v, .slice a n cap]).run Tryd.prog W = .ok v' w' ∧ RowB w.heap.size w' v' (xs ++ ys) ∧ Off (fun _ => False) w w' := by
  obtain ⟨i0, hi, hz0, hz1, hz2⟩ := info_parts byte_info
  obtain ⟨b, off, rfl, _, hc⟩ := h2 (by omega)
  obtain ⟨v', w', hr, ho, hg, _, hb⟩ := run_append_own_at (P := Tryd.prog) W w.heap.size 22 22 5 i0 _ 1 1 Tryd.underlying22 hi hz0 hz1 hz2 rfl (by decide) v xs.length _ h1 ⟨b, off, none⟩ n cap (ys.map u8v) (by rw [List.length_map]; omega) (fun j u hu => by
    rw [List.getElem?_map] at hu
    obtain ⟨y, hy, rfl⟩ := Option.map_eq_some_iff.1 hu
    rw [Addr.add_lit]; exact hc j y hy) (fun u hu => by
    obtain ⟨y, _, rfl⟩ := List.mem_map.1 hu
    rfl) (by unfold maxLen; omega) (by omega) hO.size
  refine ⟨v', w', hr, ?_, ?_⟩
  · unfold RowB RowT
    rw [List.map_append, List.length_append, ← hn]
    exact ho
  · refine hO.grown hg (fun j ej => ?_)
    have hx := (World.ownsRow.lt h1 j ej).1
    refine ⟨fun h => by omega, fun o ho => ?_⟩
    rcases h1.2 with ⟨rfl, _⟩ | ⟨g, cap, cur, rfl, _, hgb, _⟩
    · simp [Value.ownBlock] at ej
    · obtain rfl : g = j := by simpa [Value.ownBlock] using ej
      rw [hgb] at ho; cases ho; rfl
/-- .. none put behind. -/
theorem app_none {w W : World} {v : Value} {xs : List Nat} (h1 : RowB w.heap.size W v xs) (a : Option Addr) (cap : Nat) :
    (Builtin.append_ #[22, 22] 22 #[v, .slice a 0 cap]).run Tryd.prog W = .ok v W := by
  obtain ⟨i0, hi, hz0, hz1, hz2⟩ := info_parts byte_info
  have ht := Tryd.underlying22
  rcases h1.2 with ⟨rfl, hn⟩ | ⟨g, cp, cur, rfl, _, _, hnc, _⟩
  · cases a <;> simp [Builtin.append_, run_underlying ht, sizeOf, typeInfo, hi, Builtin.lenOf, Builtin.firstCells, loadCells, loadCellsFrom]
  · cases a <;> simp [Builtin.append_, run_underlying ht, sizeOf, typeInfo, hi, Builtin.lenOf, Builtin.firstCells, hnc, storeCells, loadCells, loadCellsFrom]
end Go.Proofs.YthjfhgnmaepafaaDoor
