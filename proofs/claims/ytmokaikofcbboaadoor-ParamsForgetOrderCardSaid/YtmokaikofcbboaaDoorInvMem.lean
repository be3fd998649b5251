/-
  What a region's invariant says of slots and of blocks that the region makes. No condition.
-/
import Derived.Test.YtmokaikofcbboaaDoorInv
import Derived.Test.YtmokaikofcbboaaDoorRegs
namespace Go.Proofs.YtmokaikofcbboaaDoor
open Go.RowKit

/-- Slot value u is v once operation i has been carried out. -/
def Slot (l : Nat → Bool) (i : Nat) (u v : Value) : Prop := l i = true → u = v
theorem Slot.start (i : Nat) (u v : Value) : Slot (fun _ => false) i u v := fun h => by cases h
theorem Slot.new (l : Nat → Bool) (i : Nat) (v : Value) : Slot (upd l i) i v v := fun _ => rfl
theorem Slot.keep {l : Nat → Bool} {i : Nat} {u v : Value} (h : Slot l i u v) {k : Nat} (hk : (k == i) = false) : Slot (upd l k) i u v := fun hl => by
  rw [upd_ne _ (fun e => by subst e; simp at hk)] at hl; exact h hl

/-- What a row of stores leaves in its block. -/
theorem setCells_heap (b : Nat) {T : TypeId} : ∀ (vs pre mid : List Value) (w : World) (o : Nat), pre.length = o → mid.length = vs.length → w.heap[b]? = some (.cells (pre ++ mid).toArray T (0, 0)) →
    (w.setCells b o vs).heap[b]? = some (.cells (pre ++ vs).toArray T (0, 0))
  | [], pre, mid, w, o, _, hm, h => by
    have : mid = [] := List.eq_nil_of_length_eq_zero hm
    subst this; exact h
  | v :: vs, pre, [], w, o, _, hm, _ => by simp at hm
  | v :: vs, pre, x :: mid, w, o, ho, hm, h => by
    have h1 := heap_set h o v
    have e : (pre ++ x :: mid).toArray.setIfInBounds o v = ((pre ++ [v]) ++ mid).toArray := by
      subst ho
      apply Array.ext'
      simp
    rw [e] at h1
    have := setCells_heap b vs (pre ++ [v]) mid _ (o + 1) (by simp [ho]) (by simpa using hm) h1
    have e2 : (pre ++ [v]) ++ vs = pre ++ v :: vs := by simp
    rw [e2] at this
    exact this
theorem setCells_at {b : Nat} {T : TypeId} {w : World} {c : Array Value} {vs : List Value} (h : w.heap[b]? = some (.cells c T (0, 0))) (hs : c.toList.length = vs.length) : (w.setCells b 0 vs).heap[b]? = some (.cells vs.toArray T (0, 0)) := by
  have := setCells_heap b vs [] c.toList w 0 rfl hs (by simpa using h)
  simpa using this
theorem setCells_far {b c : Nat} {w : World} {vs : List Value} {o : Obj} (hne : c ≠ b) (h : w.heap[c]? = some o) : (w.setCells b 0 vs).heap[c]? = some o := by
  have ho := setCells_off b vs 0 w
  exact ho.heap h hne
theorem setCells_in {S : Nat → Prop} {a u : World} {b : Nat} (h : Off S a u) (hb : b < a.heap.size → S b) (vs : List Value) : Off S a (u.setCells b 0 vs) :=
  h.trans (setCells_off b vs 0 u) (fun _ hk e => by subst e; exact hb hk)

/-- The block b was made by operation i (slot value u points to it), and operation s stores into it: Z before, X behind. -/
structure Blk (l : Nat → Bool) (i s : Nat) (u : Value) (b : Nat) (W0 w : World) (Z X : Obj) : Prop where
  ptr : l i = true → u = .pointer (some ⟨b, 0, none⟩)
  new : l i = true → W0.heap.size ≤ b
  was : l i = true → l s = false → w.heap[b]? = some Z
  now : l i = true → l s = true → w.heap[b]? = some X
  dep : l i = false → l s = false
/-- The block b lay there before; operation s stores into it: Z before, X behind. -/
structure Old (l : Nat → Bool) (s : Nat) (b : Nat) (W0 w : World) (Z X : Obj) : Prop where
  lt : b < W0.heap.size
  was : l s = false → w.heap[b]? = some Z
  now : l s = true → w.heap[b]? = some X
theorem Old.start {b : Nat} {W0 : World} {Z : Obj} (h : W0.heap[b]? = some Z) (s : Nat) (X : Obj) : Old (fun _ => false) s b W0 W0.drew Z X := ⟨heap_lt h, fun _ => h, fun h => by cases h⟩
theorem Blk.start (i s : Nat) (u : Value) (b : Nat) (W0 w : World) (Z X : Obj) : Blk (fun _ => false) i s u b W0 w Z X := ⟨fun h => (by cases h), fun h => (by cases h), fun h => (by cases h), fun h => (by cases h), fun _ => rfl⟩
theorem upd_k (l : Nat → Bool) {i k : Nat} (hk : (k == i) = false) : upd l k i = l i := upd_ne _ (fun e => by subst e; simp at hk)
theorem Blk.lt {l : Nat → Bool} {i s : Nat} {u : Value} {b : Nat} {W0 w : World} {Z X : Obj} (h : Blk l i s u b W0 w Z X) (hi : l i = true) : b < w.heap.size := by
  cases hs : l s with
  | false => exact heap_lt (h.was hi hs)
  | true => exact heap_lt (h.now hi hs)
/-- Another operation that changes nothing that lies there. -/
theorem Blk.keep {l : Nat → Bool} {i s : Nat} {u : Value} {b : Nat} {W0 w w' : World} {Z X : Obj} (h : Blk l i s u b W0 w Z X) (ho : Off (fun _ => False) w w') {k : Nat} (hk : (k == i) = false) (hk2 : (k == s) = false) : Blk (upd l k) i s u b W0 w' Z X := by
  have e1 := upd_k l hk
  have e2 := upd_k l hk2
  refine ⟨?_, ?_, ?_, ?_, ?_⟩ <;> rw [e1] <;> try rw [e2]
  · exact h.ptr
  · exact h.new
  · exact fun a b => ho.heap (h.was a b) (fun c => c)
  · exact fun a b => ho.heap (h.now a b) (fun c => c)
  · exact h.dep
theorem Old.keep {l : Nat → Bool} {s : Nat} {b : Nat} {W0 w w' : World} {Z X : Obj} (h : Old l s b W0 w Z X) (ho : Off (fun _ => False) w w') {k : Nat} (hk2 : (k == s) = false) : Old (upd l k) s b W0 w' Z X := by
  have e2 := upd_k l hk2
  refine ⟨h.lt, ?_, ?_⟩ <;> rw [e2]
  · exact fun b => ho.heap (h.was b) (fun c => c)
  · exact fun b => ho.heap (h.now b) (fun c => c)
/-- The operation that makes it. -/
theorem Blk.make {l : Nat → Bool} {i s : Nat} {u : Value} {b : Nat} {S : Nat → Prop} {W0 w : World} {Z X : Obj} (h : Blk l i s u b W0 w Z X) (hl : l i = false) (hne : (i == s) = false) (hW : Off S W0 w) :
    Blk (upd l i) i s (.pointer (some ⟨w.heap.size, 0, none⟩)) w.heap.size W0 (w.alloc Z) Z X := by
  have e2 : upd l i s = false := (upd_ne _ (fun e => by subst e; simp at hne)).trans (h.dep hl)
  exact ⟨fun _ => rfl, fun _ => hW.size, fun _ _ => heap_new' rfl _, fun _ h2 => (by rw [e2] at h2; cases h2), fun h2 => by rw [upd_same] at h2; cases h2⟩
/-- The operation that stores into it. -/
theorem Blk.put {l : Nat → Bool} {i s : Nat} {u : Value} {b : Nat} {W0 w : World} {T : TypeId} {c : Array Value} {vs : List Value} (h : Blk l i s u b W0 w (.cells c T) (.cells vs.toArray T)) (hl : l s = false) (hi : l i = true) (hne : (i == s) = false) (hs : c.toList.length = vs.length) :
    Blk (upd l s) i s u b W0 (w.setCells b 0 vs) (.cells c T) (.cells vs.toArray T) := by
  have e1 : upd l s i = true := (upd_ne _ (fun e => by subst e; simp at hne)).trans hi
  refine ⟨fun _ => h.ptr hi, fun _ => h.new hi, fun _ h2 => (by rw [upd_same] at h2; cases h2), fun _ _ => setCells_at (h.was hi hl) hs, fun h2 => by rw [e1] at h2; cases h2⟩
theorem Old.put {l : Nat → Bool} {s : Nat} {b : Nat} {W0 w : World} {T : TypeId} {c : Array Value} {vs : List Value} (h : Old l s b W0 w (.cells c T) (.cells vs.toArray T)) (hl : l s = false) (hs : c.toList.length = vs.length) :
    Old (upd l s) s b W0 (w.setCells b 0 vs) (.cells c T) (.cells vs.toArray T) :=
  ⟨h.lt, fun h2 => (by rw [upd_same] at h2; cases h2), fun _ => setCells_at (h.was hl) hs⟩
/-- A store into another block. -/
theorem Blk.far {l : Nat → Bool} {i s : Nat} {u : Value} {b c : Nat} {W0 w : World} {Z X : Obj} {vs : List Value} (h : Blk l i s u b W0 w Z X) {k : Nat} (hk : (k == i) = false) (hk2 : (k == s) = false) (hne : l i = true → b ≠ c) : Blk (upd l k) i s u b W0 (w.setCells c 0 vs) Z X := by
  have e1 := upd_k l hk
  have e2 := upd_k l hk2
  refine ⟨?_, ?_, ?_, ?_, ?_⟩ <;> rw [e1] <;> try rw [e2]
  · exact h.ptr
  · exact h.new
  · exact fun a b => setCells_far (hne a) (h.was a b)
  · exact fun a b => setCells_far (hne a) (h.now a b)
  · exact h.dep
theorem Old.far {l : Nat → Bool} {s : Nat} {b c : Nat} {W0 w : World} {Z X : Obj} {vs : List Value} (h : Old l s b W0 w Z X) {k : Nat} (hk2 : (k == s) = false) (hne : b ≠ c) : Old (upd l k) s b W0 (w.setCells c 0 vs) Z X := by
  have e2 := upd_k l hk2
  refine ⟨h.lt, ?_, ?_⟩ <;> rw [e2]
  · exact fun b => setCells_far hne (h.was b)
  · exact fun b => setCells_far hne (h.now b)
theorem zero_cells {w : World} {b : Nat} {T : TypeId} (h : w.heap[b]? = some (.cells #[.int .u64 0, .int .u64 0, .int .u64 0, .int .u64 0] T)) : (w.cell? ⟨b, 0, none⟩ = some (.int .u64 0) ∧ w.cell? ⟨b, 1, none⟩ = some (.int .u64 0) ∧ w.cell? ⟨b, 2, none⟩ = some (.int .u64 0) ∧ w.cell? ⟨b, 3, none⟩ = some (.int .u64 0)) ∧ (∀ j, w.frozen? ⟨b, j, none⟩ = false) ∧ b < w.heap.size := by
  refine ⟨⟨?_, ?_, ?_, ?_⟩, fun j => frozen_of_heap h j, heap_lt h⟩ <;> rw [cell_of_heap h] <;> rfl
/-- The four cells of a block that is known whole. -/
theorem cells4 {w : World} {b : Nat} {T : TypeId} {c0 c1 c2 c3 : Value} (h : w.heap[b]? = some (.cells #[c0, c1, c2, c3] T (0, 0))) :
    w.cell? ⟨b, 0, none⟩ = some c0 ∧ w.cell? ⟨b, 1, none⟩ = some c1 ∧ w.cell? ⟨b, 2, none⟩ = some c2 ∧ w.cell? ⟨b, 3, none⟩ = some c3 := by
  refine ⟨?_, ?_, ?_, ?_⟩ <;> rw [cell_of_heap h] <;> rfl
/-- A call in a region: the world at hand is off the region's first one, so is the world behind it. -/
theorem held_inv {S : Nat → Prop} {f : FuncId} {args : Array Value} {v : Value} {W0 W : World} (hc : Calls Tryd.prog f args W fun e w' => e = .returned v ∧ Off (fun _ => False) W w') (h : Off S W0 W) :
    Calls Tryd.prog f args W fun e w' => e = .returned v ∧ Off S W0 w' ∧ Off (fun _ => False) W w' :=
  hc.mono fun _ _ ⟨he, hO⟩ => ⟨he, h.trans hO (fun _ _ c => c.elim), hO⟩
/-- Two blocks that the region makes are two. -/
def Dif (l : Nat → Bool) (i j b c : Nat) : Prop := l i = true → l j = true → b ≠ c
theorem Dif.start (i j b c : Nat) : Dif (fun _ => false) i j b c := fun h => by cases h
theorem Dif.keep {l : Nat → Bool} {i j b c : Nat} (h : Dif l i j b c) {k : Nat} (hk : (k == i) = false) (hk2 : (k == j) = false) : Dif (upd l k) i j b c := by
  intro h1 h2
  rw [upd_ne _ (fun e => by subst e; simp at hk)] at h1
  rw [upd_ne _ (fun e => by subst e; simp at hk2)] at h2
  exact h h1 h2
theorem Dif.left {l : Nat → Bool} {i j s : Nat} {u : Value} {c : Nat} {W0 w : World} {Z X : Obj} (hB : Blk l j s u c W0 w Z X) (hne : (i == j) = false) : Dif (upd l i) i j w.heap.size c := by
  intro _ h2
  rw [upd_ne _ (fun e => by subst e; simp at hne)] at h2
  have := hB.lt h2; omega
theorem Dif.right {l : Nat → Bool} {i j s : Nat} {u : Value} {c : Nat} {W0 w : World} {Z X : Obj} (hB : Blk l i s u c W0 w Z X) (hne : (j == i) = false) : Dif (upd l j) i j c w.heap.size := by
  intro h1 _
  rw [upd_ne _ (fun e => by subst e; simp at hne)] at h1
  have := hB.lt h1; omega
end Go.Proofs.YtmokaikofcbboaaDoor
