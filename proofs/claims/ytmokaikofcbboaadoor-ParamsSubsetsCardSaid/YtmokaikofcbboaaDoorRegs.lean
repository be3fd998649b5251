/-
  What the drawn regions with calls, allocations and stores share: a block that was made is kept by the calls behind it. No condition.
-/
import Derived.Test.YtmokaikofcbboaaDoorFieldHeld
import Derived.Deep.Cut
import Derived.Deep.CutRange
import Derived.Deep.DeepCutAuto
namespace Go.Proofs.YtmokaikofcbboaaDoor
open Go.RowKit

theorem Off.store {S : Nat → Prop} {a w : World} {b : Nat} (h : Off S a w) (hb : a.heap.size ≤ b) (o : Nat) (u : Value) : Off S a (w.setCell ⟨b, o, none⟩ u) := h.setCell (fun c => absurd c (Nat.not_lt.2 hb)) u
theorem four_off {W0 w' : World} {b n : Nat} (h : Four W0 b n) (ho : Off (fun _ => False) W0 w') : w'.cell? ⟨b, 0, none⟩ = some (.int .u64 (wd n 0 : Int)) ∧ w'.cell? ⟨b, 1, none⟩ = some (.int .u64 (wd n 1 : Int)) ∧ w'.cell? ⟨b, 2, none⟩ = some (.int .u64 (wd n 2 : Int)) ∧ w'.cell? ⟨b, 3, none⟩ = some (.int .u64 (wd n 3 : Int)) := Four.off h ho
theorem store4 {u : World} {b n : Nat} (h : PartAt u b 0 0) : NumAt ((((u.setCell ⟨b, 0, none⟩ (.int .u64 (wd n 0 : Int))).setCell ⟨b, 1, none⟩ (.int .u64 (wd n 1 : Int))).setCell ⟨b, 2, none⟩ (.int .u64 (wd n 2 : Int))).setCell ⟨b, 3, none⟩ (.int .u64 (wd n 3 : Int))) b n := by
  have h' : PartAt u b n 0 := h
  exact ((((h'.step (by omega)).step (by omega)).step (by omega)).step (by omega)).full
/-- The world behind a store of four words. -/
abbrev S4 (u : World) (b n : Nat) : World := (((u.setCell ⟨b, 0, none⟩ (.int .u64 (wd n 0 : Int))).setCell ⟨b, 1, none⟩ (.int .u64 (wd n 1 : Int))).setCell ⟨b, 2, none⟩ (.int .u64 (wd n 2 : Int))).setCell ⟨b, 3, none⟩ (.int .u64 (wd n 3 : Int))
theorem s4_at {u : World} {b n : Nat} (h : u.heap[b]? = some (.cells #[.int .u64 0, .int .u64 0, .int .u64 0, .int .u64 0] 45)) : (S4 u b n).heap[b]? = some (.cells #[.int .u64 (wd n 0 : Int), .int .u64 (wd n 1 : Int), .int .u64 (wd n 2 : Int), .int .u64 (wd n 3 : Int)] 45) := store4 h
theorem s4_far {u : World} {b c n : Nat} {o : Obj} (hne : c ≠ b) (h : u.heap[c]? = some o) : (S4 u b n).heap[c]? = some o := by
  show ((((u.setCell _ _).setCell _ _).setCell _ _).setCell _ _).heap[c]? = some o
  rw [Below.heap_setCell _ _ _ _ hne, Below.heap_setCell _ _ _ _ hne, Below.heap_setCell _ _ _ _ hne, Below.heap_setCell _ _ _ _ hne]
  exact h
theorem s4_off {a u : World} {b n : Nat} (h : Off (fun _ => False) a u) (hb : a.heap.size ≤ b) : Off (fun _ => False) a (S4 u b n) := off4 h hb _ _ _ _
theorem s4_size (u : World) (b n : Nat) : (S4 u b n).heap.size = u.heap.size := by simp [go_sem]
theorem na_s4 {u : World} {b n : Nat} (h : u.heap[b]? = some (.cells #[.int .u64 0, .int .u64 0, .int .u64 0, .int .u64 0] 45)) : NumAt (S4 u b n) b n := store4 h
theorem na_far {u : World} {b c n m : Nat} (hne : c ≠ b) (h : NumAt u c m) : NumAt (S4 u b n) c m := s4_far hne h
theorem na_new {u : World} {k n : Nat} (h : u.heap.size = k) : NumAt (u.alloc (.cells #[.int .u64 (wd n 0 : Int), .int .u64 (wd n 1 : Int), .int .u64 (wd n 2 : Int), .int .u64 (wd n 3 : Int)] 45)) k n := heap_new' h _
theorem na_old {u : World} {b n : Nat} (h : NumAt u b n) (o : Obj) : NumAt (u.alloc o) b n := heap_old' h _
theorem Off.undrew {S : Nat → Prop} {a b : World} (h : Off S a.drew b) : Off S a b := ⟨h.os, h.tape, h.output, h.size, h.block, h.others⟩
/-- Blocks that were made ahead of a call, behind it. -/
theorem zn {u w' : World} {o : Obj} (h : Off (fun _ => False) (u.alloc o) w') : w'.heap[u.heap.size]? = some o := h.heap (heap_new' rfl _) (fun c => c)
theorem zn1 {u w' : World} {o o' : Obj} (h : Off (fun _ => False) ((u.alloc o).alloc o') w') : w'.heap[u.heap.size]? = some o := h.heap (heap_old' (heap_new' rfl _) _) (fun c => c)
theorem zn2 {u w' : World} {o o' : Obj} (h : Off (fun _ => False) ((u.alloc o).alloc o') w') : w'.heap[u.heap.size + 1]? = some o' := h.heap (heap_new' (World.size_alloc _ _) _) (fun c => c)
theorem zk {u w' : World} {o : Obj} {b : Nat} (h : Off (fun _ => False) u w') (hb : u.heap[b]? = some o) : w'.heap[b]? = some o := h.heap hb (fun c => c)
theorem zk1 {u w' : World} {o o' : Obj} {b : Nat} (h : Off (fun _ => False) (u.alloc o') w') (hb : u.heap[b]? = some o) : w'.heap[b]? = some o := h.heap (heap_old' hb _) (fun c => c)
theorem four_zero {w : World} {b : Nat} (h : w.heap[b]? = some (.cells #[.int .u64 0, .int .u64 0, .int .u64 0, .int .u64 0] 45)) : (w.cell? ⟨b, 0, none⟩ = some (.int .u64 0) ∧ w.cell? ⟨b, 1, none⟩ = some (.int .u64 0) ∧ w.cell? ⟨b, 2, none⟩ = some (.int .u64 0) ∧ w.cell? ⟨b, 3, none⟩ = some (.int .u64 0)) ∧ (∀ j, w.frozen? ⟨b, j, none⟩ = false) ∧ b < w.heap.size :=
  have p : PartAt w b 0 0 := h
  ⟨p.four.1, p.four.2, heap_lt h⟩
/-- A call in a drawn region: the world at hand is off the region's first one, so is the world behind it. -/
theorem held_w {f : FuncId} {args : Array Value} {v : Value} {W0 W : World} (hT : TabAt W0) (hc : ∀ W, TabAt W → Calls Tryd.prog f args W fun e w' => e = .returned v ∧ Off (fun _ => False) W w') (h : Off (fun _ => False) W0 W) :
    Calls Tryd.prog f args W fun e w' => e = .returned v ∧ Off (fun _ => False) W0 w' ∧ Off (fun _ => False) W w' :=
  (hc W (hT.off h)).mono fun _ _ ⟨he, hO⟩ => ⟨he, h.trans hO (fun _ _ c => c), hO⟩
end Go.Proofs.YtmokaikofcbboaaDoor
