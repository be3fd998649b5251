/-
  Rows of bytes of the call's own, for seats with numbers of four words: bytes, or none, put behind; bytes cloned. Condition: the rows are short.
-/
import Derived.Test.YtpiialjnjfkfeaaDoorBytMem
import Derived.Maps.AppendAt
import Derived.Lib.AppendZeros
import Derived.Laws.OwnMore
import Derived.Laws.Cover3
namespace Go.Proofs.YtpiialjnjfkfeaaDoor
open Go.RowKit
set_option maxRecDepth 100000
set_option maxHeartbeats 4000000
/-- A row of cells of the type T of the call's own. -/
def RowT (T : TypeId) (f : Nat → Value) (B : Nat) (W : World) (v : Value) (xs : List Nat) : Prop := W.ownsRow B T 1 v xs.length (xs.map f)
/-- A row of bytes. -/
abbrev RowY := RowT 5 u8v
section
variable {T : TypeId} {f : Nat → Value} {B : Nat} {W : World} {v : Value} {xs : List Nat}
theorem RowT.nil (W : World) : RowT T f B W (.slice none 0 0) [] := World.ownsRow_nil _ _ _ _
theorem RowT.form (h : RowT T f B W v xs) (hp : 0 < xs.length) : ∃ g cap, v = .slice (some ⟨g, 0, none⟩) xs.length cap ∧ xs.length ≤ cap ∧ B ≤ g ∧ g < W.heap.size ∧ ∀ j x, xs[j]? = some x → W.cell? ⟨g, j, none⟩ = some (f x) := by
  rcases h.2 with ⟨rfl, hn⟩ | ⟨g, cap, cur, rfl, hBg, hgc, hnc, hcm, hcs, htake⟩
  · omega
  · refine ⟨g, cap, rfl, by omega, hBg, heap_lt hgc, fun j x hj => ?_⟩
    have hlt := (List.getElem?_eq_some_iff.1 hj).1
    have hc := World.ownsRow.cellAt h j (by omega)
    rw [hc, List.getElem?_map, hj]; rfl
theorem RowT.shape (h : RowT T f B W v xs) : ∃ a cap, v = .slice a xs.length cap ∧ xs.length ≤ cap := by
  rcases h.2 with ⟨rfl, hn⟩ | ⟨g, cap, cur, rfl, hBg, hgc, hnc, hcm, hcs, htake⟩
  · exact ⟨none, 0, by rw [hn], by omega⟩
  · exact ⟨_, cap, rfl, by omega⟩
theorem RowT.off {W' : World} {S : Nat → Prop} (h : RowT T f B W v xs) (ho : Off S W W') (hd : ∀ k, v.ownBlock = some k → ¬ S k) : RowT T f B W' v xs := by
  obtain ⟨hl, h⟩ := h
  refine ⟨hl, ?_⟩
  rcases h with hn | ⟨g, cap, cur, rfl, hb, hg, r⟩
  · exact .inl hn
  · exact .inr ⟨g, cap, cur, rfl, hb, ho.heap hg (hd g (by simp [Value.ownBlock])), r⟩
theorem RowT.base {B' : Nat} (h : RowT T f B W v xs) (hb : B' ≤ B) : RowT T f B' W v xs :=
  ⟨h.1, h.2.imp id (fun ⟨g, cap, cur, e, hB, r⟩ => ⟨g, cap, cur, e, Nat.le_trans hb hB, r⟩)⟩
end
theorem RowT.at {T : TypeId} {B : Nat} {W : World} {v : Value} {xs : List Nat} (h : RowT T u8v B W v xs) : ∃ a cap, v = .slice a xs.length cap ∧ xs.length ≤ cap ∧ BsAt W a xs (fun k => B ≤ k ∧ k < W.heap.size) := by
  obtain ⟨a, cap, hv, hc⟩ := h.shape
  refine ⟨a, cap, hv, hc, fun hp => ?_⟩
  obtain ⟨g, cap', hv', _, hB, hg, hx⟩ := h.form hp
  rw [hv] at hv'
  cases hv'
  exact ⟨g, 0, rfl, ⟨hB, hg⟩, fun j x hj => by rw [Nat.zero_add]; exact hx j x hj⟩
/-- Bytes put behind a row of bytes. -/
theorem app_bytes {w W : World} {v : Value} {xs ys : List Nat} (hO : Off (fun _ => False) w W) (h1 : RowY w.heap.size W v xs) {a : Option Addr} {n cap : Nat} {S : Nat → Prop} (h2 : BsAt W a ys S) (hn : n = ys.length) (hp : 0 < n) (hk : xs.length + n ≤ 100000) :
    ∃ v' w', (Builtin.append_ #[22, 22] 22 #[v, .slice a n cap]).run Tryd.prog W = .ok v' w' ∧ RowY w.heap.size w' v' (xs ++ ys) ∧ Off (fun _ => False) w w' := by
  obtain ⟨i0, hi, hz0, hz1, hz2⟩ := info_parts byte_info
  obtain ⟨b, off, rfl, _, hc⟩ := h2 (by omega)
  obtain ⟨v', w', hr, ho, hg, _, hb⟩ := run_append_own_at (P := Tryd.prog) W w.heap.size 22 22 5 i0 _ 1 1 Tryd.underlying22 hi hz0 hz1 hz2 rfl (by decide) v xs.length _ h1 ⟨b, off, none⟩ n cap (ys.map u8v) (by rw [List.length_map]; omega) (fun j u hu => by
    rw [List.getElem?_map] at hu
    obtain ⟨y, hy, rfl⟩ := Option.map_eq_some_iff.1 hu
    rw [Addr.add_lit]; exact hc j y hy) (fun u hu => by
    obtain ⟨y, _, rfl⟩ := List.mem_map.1 hu
    rfl) (by unfold maxLen; omega) (by omega) hO.size
  refine ⟨v', w', hr, ?_, ?_⟩
  · unfold RowY RowT
    rw [List.map_append, List.length_append, ← hn]
    exact ho
  · refine hO.grown hg (fun j ej => ?_)
    have hx := (World.ownsRow.lt h1 j ej).1
    refine ⟨fun h => by omega, fun o ho => ?_⟩
    rcases h1.2 with ⟨rfl, _⟩ | ⟨g, cap, cur, rfl, _, hgb, _⟩
    · simp [Value.ownBlock] at ej
    · obtain rfl : g = j := by simpa [Value.ownBlock] using ej
      rw [hgb] at ho; cases ho; rfl
/-- .. none put behind. -/
theorem app_none {w W : World} {v : Value} {xs : List Nat} (h1 : RowY w.heap.size W v xs) (a : Option Addr) (cap : Nat) :
    (Builtin.append_ #[22, 22] 22 #[v, .slice a 0 cap]).run Tryd.prog W = .ok v W := by
  obtain ⟨i0, hi, hz0, hz1, hz2⟩ := info_parts byte_info
  have ht := Tryd.underlying22
  rcases h1.2 with ⟨rfl, hn⟩ | ⟨g, cp, cur, rfl, _, _, hnc, _⟩
  · cases a <;> simp [Builtin.append_, run_underlying ht, sizeOf, typeInfo, hi, Builtin.lenOf, Builtin.firstCells, loadCells, loadCellsFrom]
  · cases a <;> simp [Builtin.append_, run_underlying ht, sizeOf, typeInfo, hi, Builtin.lenOf, Builtin.firstCells, hnc, storeCells, loadCells, loadCellsFrom]
/-- Bytes, or none, put behind a row. -/
theorem app_any {w W : World} {v : Value} {xs ys : List Nat} (hO : Off (fun _ => False) w W) (h1 : RowY w.heap.size W v xs) {a : Option Addr} {n cap : Nat} {S : Nat → Prop} (h2 : BsAt W a ys S) (hn : n = ys.length) (hk : xs.length + n ≤ 100000) :
    ∃ v' w', (Builtin.append_ #[22, 22] 22 #[v, .slice a n cap]).run Tryd.prog W = .ok v' w' ∧ RowY w.heap.size w' v' (xs ++ ys) ∧ Off (fun _ => False) w w' := by
  rcases Nat.eq_zero_or_pos n with h0 | hp
  · subst h0
    obtain rfl : ys = [] := List.eq_nil_of_length_eq_zero hn.symm
    exact ⟨v, W, app_none h1 a cap, by rw [List.append_nil]; exact h1, hO⟩
  · exact app_bytes hO h1 h2 hn hp hk
theorem eql_nil (a : Option Addr) (l c : Nat) (w : World) : (binOp .eql 22 (.slice a l c) (.slice none 0 0)).run Tryd.prog w = .ok (.bool a.isNone) w := by
  simp only [binOp]
  simp [run_equal_slice_nil (P := Tryd.prog) w 22 5 a l c Tryd.underlying22]
theorem clone_by (a : Option Addr) (n cap : Nat) (bs : List Nat) (S : Nat → Prop) (w : World) (hb : BsAt w a bs S) (hn : n = bs.length) (hm : n ≤ 5000) :
    Calls Tryd.prog 23 #[.slice a n cap] w fun e w' => ∃ v, e = .returned v ∧ RowY w.heap.size w' v bs ∧ Off (fun _ => False) w w' := by
  cases a with
  | none =>
    obtain rfl : bs = [] := by
      rcases Nat.eq_zero_or_pos bs.length with h | h
      · exact List.eq_nil_of_length_eq_zero h
      · obtain ⟨b, o, h1, _⟩ := hb h
        cases h1
    subst hn
    have he := fun W => eql_nil none 0 cap W
    clear hb hm
    go_enter Tryd.func23, Tryd.ntmps23
    go_wp2
    go_ret
    exact ⟨_, rfl, RowT.nil _, Off.refl _ w⟩
  | some p =>
    obtain ⟨W1, hW1⟩ : ∃ W1, W1 = w.alloc (.cells #[] 5) := ⟨_, rfl⟩
    have hO1 : Off (fun _ => False) w W1 := by rw [hW1]; exact (Off.refl _ w).alloc _
    have r1 : RowY w.heap.size W1 (.slice (some ⟨w.heap.size, 0, none⟩) 0 0) [] := by rw [hW1]; exact World.ownsRow_lit w #[] 0 (Nat.le_refl _) (by decide) rfl
    obtain ⟨v5, w5, hr5, r5, o5⟩ := app_any hO1 r1 (cap := cap) (hb.off hO1 (fun _ _ _ c => c)) hn (by simp; omega)
    rw [List.nil_append] at r5
    have HR5 := Lib.hid hr5
    have HV5 := Lib.hid r5
    have HO5 := Lib.hid o5
    have HW1 := Lib.hid hW1
    have he := fun W => eql_nil (some p) n cap W
    clear hb hn hm hW1 hO1 r1 hr5 r5 o5
    go_enter Tryd.func23, Tryd.ntmps23
    go_wp2_with first | (at_builtin; rw [← HW1.out]; refine Go.Lib.wpList_append_run _ rfl _ _ _ _ rfl _ _ rfl rfl _ _ HR5.out ?_) | fail
    go_ret
    exact ⟨_, rfl, HV5.out, HO5.out⟩
end Go.Proofs.YtpiialjnjfkfeaaDoor
