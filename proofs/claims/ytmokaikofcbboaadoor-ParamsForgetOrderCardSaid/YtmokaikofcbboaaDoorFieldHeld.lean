/-
  What the walks of the laws of layer 4 share: the table of fields and numbers in memory are kept by calls that change nothing that lay there before. No condition.
-/
import Derived.Test.YtmokaikofcbboaaDoorModGet
import Derived.Test.YtmokaikofcbboaaDoorLimbOpen
import Derived.Test.YtmokaikofcbboaaDoorFieldTab
namespace Go.Proofs.YtmokaikofcbboaaDoor
open Go.RowKit

theorem wd_zero (i : Nat) : wd 0 i = 0 := by unfold wd dg; simp
/-- A field that only its modulus is given of. -/
theorem lit_field (m : Nat) : FV 0 m 0 0 0 = .agg #[.int .i64 0, .int .u64 (wd m 0 : Int), .int .u64 (wd m 1 : Int), .int .u64 (wd m 2 : Int), .int .u64 (wd m 3 : Int), .int .u64 0, .int .u64 0, .int .u64 0, .int .u64 0, .int .u64 0, .int .u64 0, .int .u64 0, .int .u64 0, .int .u64 0] := by
  simp only [FV, wd_zero]; rfl
theorem TabAt.grow {w w' : World} (h : TabAt w) (o : Obj) (e : w' = w.alloc o) : TabAt w' := by subst e; exact h.off ((Off.refl _ w).alloc o)

/-- Two numbers, the table and the frame. -/
theorem held_tab {f : FuncId} {args : Array Value} {v : Value} (hc : ∀ W, TabAt W → Calls Tryd.prog f args W fun e w' => e = .returned v ∧ Off (fun _ => False) W w') {w W : World} {b n b' n' : Nat}
    (h : (W.cell? ⟨b, 0, none⟩ = some (.int .u64 (wd n 0 : Int)) ∧ W.cell? ⟨b, 1, none⟩ = some (.int .u64 (wd n 1 : Int)) ∧ W.cell? ⟨b, 2, none⟩ = some (.int .u64 (wd n 2 : Int)) ∧ W.cell? ⟨b, 3, none⟩ = some (.int .u64 (wd n 3 : Int))) ∧
      (W.cell? ⟨b', 0, none⟩ = some (.int .u64 (wd n' 0 : Int)) ∧ W.cell? ⟨b', 1, none⟩ = some (.int .u64 (wd n' 1 : Int)) ∧ W.cell? ⟨b', 2, none⟩ = some (.int .u64 (wd n' 2 : Int)) ∧ W.cell? ⟨b', 3, none⟩ = some (.int .u64 (wd n' 3 : Int))) ∧ TabAt W ∧ Off (fun _ => False) w W) :
    Calls Tryd.prog f args W fun e w' => e = .returned v ∧ ((w'.cell? ⟨b, 0, none⟩ = some (.int .u64 (wd n 0 : Int)) ∧ w'.cell? ⟨b, 1, none⟩ = some (.int .u64 (wd n 1 : Int)) ∧ w'.cell? ⟨b, 2, none⟩ = some (.int .u64 (wd n 2 : Int)) ∧ w'.cell? ⟨b, 3, none⟩ = some (.int .u64 (wd n 3 : Int))) ∧
      (w'.cell? ⟨b', 0, none⟩ = some (.int .u64 (wd n' 0 : Int)) ∧ w'.cell? ⟨b', 1, none⟩ = some (.int .u64 (wd n' 1 : Int)) ∧ w'.cell? ⟨b', 2, none⟩ = some (.int .u64 (wd n' 2 : Int)) ∧ w'.cell? ⟨b', 3, none⟩ = some (.int .u64 (wd n' 3 : Int))) ∧ TabAt w' ∧ Off (fun _ => False) w w') :=
  (hc W h.2.2.1).mono fun _ _ ⟨he, hO⟩ => ⟨he, Four.off h.1 hO, Four.off h.2.1 hO, h.2.2.1.off hO, h.2.2.2.trans hO (fun _ _ c => c)⟩
/-- The fourteen cells of a block that is known whole. -/
theorem fv_cells {w : World} {b : Nat} {T : TypeId} {c0 c1 c2 c3 c4 c5 c6 c7 c8 c9 c10 c11 c12 c13 : Value} (h : w.heap[b]? = some (.cells #[c0, c1, c2, c3, c4, c5, c6, c7, c8, c9, c10, c11, c12, c13] T (0, 0))) :
    w.cell? ⟨b, 0, none⟩ = some c0 ∧ w.cell? ⟨b, 1, none⟩ = some c1 ∧ w.cell? ⟨b, 2, none⟩ = some c2 ∧ w.cell? ⟨b, 3, none⟩ = some c3 ∧ w.cell? ⟨b, 4, none⟩ = some c4 ∧ w.cell? ⟨b, 5, none⟩ = some c5 ∧ w.cell? ⟨b, 6, none⟩ = some c6 ∧ w.cell? ⟨b, 7, none⟩ = some c7 ∧ w.cell? ⟨b, 8, none⟩ = some c8 ∧ w.cell? ⟨b, 9, none⟩ = some c9 ∧ w.cell? ⟨b, 10, none⟩ = some c10 ∧ w.cell? ⟨b, 11, none⟩ = some c11 ∧ w.cell? ⟨b, 12, none⟩ = some c12 ∧ w.cell? ⟨b, 13, none⟩ = some c13 := by
  refine ⟨?_, ?_, ?_, ?_, ?_, ?_, ?_, ?_, ?_, ?_, ?_, ?_, ?_, ?_⟩ <;> rw [cell_of_heap h] <;> rfl
/-- The modulus of a field in memory, a number and the frame. -/
theorem held_fld {f : FuncId} {args : Array Value} {v : Value} {w : World} (hT : TabAt w) (hc : ∀ W, TabAt W → Calls Tryd.prog f args W fun e w' => e = .returned v ∧ Off (fun _ => False) W w') {W : World} {b n b' n' : Nat}
    (h : (W.cell? ⟨b, 1, none⟩ = some (.int .u64 (wd n 0 : Int)) ∧ W.cell? ⟨b, 2, none⟩ = some (.int .u64 (wd n 1 : Int)) ∧ W.cell? ⟨b, 3, none⟩ = some (.int .u64 (wd n 2 : Int)) ∧ W.cell? ⟨b, 4, none⟩ = some (.int .u64 (wd n 3 : Int))) ∧ (W.cell? ⟨b', 0, none⟩ = some (.int .u64 (wd n' 0 : Int)) ∧ W.cell? ⟨b', 1, none⟩ = some (.int .u64 (wd n' 1 : Int)) ∧ W.cell? ⟨b', 2, none⟩ = some (.int .u64 (wd n' 2 : Int)) ∧ W.cell? ⟨b', 3, none⟩ = some (.int .u64 (wd n' 3 : Int))) ∧ Off (fun _ => False) w W) :
    Calls Tryd.prog f args W fun e w' => e = .returned v ∧ ((w'.cell? ⟨b, 1, none⟩ = some (.int .u64 (wd n 0 : Int)) ∧ w'.cell? ⟨b, 2, none⟩ = some (.int .u64 (wd n 1 : Int)) ∧ w'.cell? ⟨b, 3, none⟩ = some (.int .u64 (wd n 2 : Int)) ∧ w'.cell? ⟨b, 4, none⟩ = some (.int .u64 (wd n 3 : Int))) ∧ (w'.cell? ⟨b', 0, none⟩ = some (.int .u64 (wd n' 0 : Int)) ∧ w'.cell? ⟨b', 1, none⟩ = some (.int .u64 (wd n' 1 : Int)) ∧ w'.cell? ⟨b', 2, none⟩ = some (.int .u64 (wd n' 2 : Int)) ∧ w'.cell? ⟨b', 3, none⟩ = some (.int .u64 (wd n' 3 : Int))) ∧ Off (fun _ => False) w w') :=
  (hc W (hT.off h.2.2)).mono fun _ _ ⟨he, hO⟩ => ⟨he, ⟨hO.cell h.1.1 (fun c => c), hO.cell h.1.2.1 (fun c => c), hO.cell h.1.2.2.1 (fun c => c), hO.cell h.1.2.2.2 (fun c => c)⟩, Four.off h.2.1 hO, h.2.2.trans hO (fun _ _ c => c)⟩
/-- The modulus of a field in memory, a number and the frame, and how the call's own world was kept. -/
theorem held_fld2 {f : FuncId} {args : Array Value} {v : Value} {w : World} (hT : TabAt w) (hc : ∀ W, TabAt W → Calls Tryd.prog f args W fun e w' => e = .returned v ∧ Off (fun _ => False) W w') {W : World} {b n b' n' : Nat}
    (h : (W.cell? ⟨b, 1, none⟩ = some (.int .u64 (wd n 0 : Int)) ∧ W.cell? ⟨b, 2, none⟩ = some (.int .u64 (wd n 1 : Int)) ∧ W.cell? ⟨b, 3, none⟩ = some (.int .u64 (wd n 2 : Int)) ∧ W.cell? ⟨b, 4, none⟩ = some (.int .u64 (wd n 3 : Int))) ∧ (W.cell? ⟨b', 0, none⟩ = some (.int .u64 (wd n' 0 : Int)) ∧ W.cell? ⟨b', 1, none⟩ = some (.int .u64 (wd n' 1 : Int)) ∧ W.cell? ⟨b', 2, none⟩ = some (.int .u64 (wd n' 2 : Int)) ∧ W.cell? ⟨b', 3, none⟩ = some (.int .u64 (wd n' 3 : Int))) ∧ Off (fun _ => False) w W) :
    Calls Tryd.prog f args W fun e w' => e = .returned v ∧ ((w'.cell? ⟨b, 1, none⟩ = some (.int .u64 (wd n 0 : Int)) ∧ w'.cell? ⟨b, 2, none⟩ = some (.int .u64 (wd n 1 : Int)) ∧ w'.cell? ⟨b, 3, none⟩ = some (.int .u64 (wd n 2 : Int)) ∧ w'.cell? ⟨b, 4, none⟩ = some (.int .u64 (wd n 3 : Int))) ∧ (w'.cell? ⟨b', 0, none⟩ = some (.int .u64 (wd n' 0 : Int)) ∧ w'.cell? ⟨b', 1, none⟩ = some (.int .u64 (wd n' 1 : Int)) ∧ w'.cell? ⟨b', 2, none⟩ = some (.int .u64 (wd n' 2 : Int)) ∧ w'.cell? ⟨b', 3, none⟩ = some (.int .u64 (wd n' 3 : Int))) ∧ Off (fun _ => False) w w') ∧ Off (fun _ => False) W w' :=
  (hc W (hT.off h.2.2)).mono fun _ _ ⟨he, hO⟩ => ⟨he, ⟨⟨hO.cell h.1.1 (fun c => c), hO.cell h.1.2.1 (fun c => c), hO.cell h.1.2.2.1 (fun c => c), hO.cell h.1.2.2.2 (fun c => c)⟩, Four.off h.2.1 hO, h.2.2.trans hO (fun _ _ c => c)⟩, hO⟩
/-- A block of four zeros that a region has made is kept by the calls behind it. -/
theorem zero_kept {u w' : World} (h : Off (fun _ => False) (u.alloc (.cells #[.int .u64 0, .int .u64 0, .int .u64 0, .int .u64 0] 45)) w') : PartAt w' u.heap.size 0 0 := h.heap (heap_new' rfl _) (fun c => c)
theorem part_kept {u w' : World} {b : Nat} (hp : PartAt u b 0 0) (h : Off (fun _ => False) u w') : PartAt w' b 0 0 := h.heap hp (fun c => c)
end Go.Proofs.YtmokaikofcbboaaDoor
