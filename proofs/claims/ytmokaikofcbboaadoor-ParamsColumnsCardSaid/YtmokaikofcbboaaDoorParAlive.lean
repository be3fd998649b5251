/-
  The statements' own alive of layer 15 over this seat's translation. Condition: the table of fields lies in memory as it was laid.
-/
import Derived.Test.YtmokaikofcbboaaDoorParProg
import Derived.Test.YtmokaikofcbboaaDoorIntsEq
import Derived.Test.YtmokaikofcbboaaDoorElRows
import Derived.Lib.AppendZerosOnto
namespace Go.Proofs.YtmokaikofcbboaaDoor
open Go.RowKit Go.Lib
attribute [local go_sem ↓] Go.wp_at_zero Go.wp_at_succ
def shA : Sh := ⟨1, 2, 7, 1, [0]⟩
def shB : Sh := ⟨1, 2, 8, 1, [0]⟩
theorem shA_ok : shA.ok := ⟨rfl, rfl, rfl, rfl, fun x hx => by simp [shA] at hx; subst hx; decide⟩
theorem shB_ok : shB.ok := ⟨rfl, rfl, rfl, rfl, fun x hx => by simp [shB] at hx; subst hx; decide⟩
theorem shA_zero : shN shA = 0 := by decide +kernel
theorem shB_zero : shN shB = 0 := by decide +kernel
theorem two_zero : shsN [shA, shB] = 0 := by decide +kernel
theorem one_few : shsN [shA] = 16 := by decide +kernel
theorem q40 : prN ⟨1, 2, 3, 40⟩ = 0 ∧ rndN ⟨1, 2, 3, 40⟩ = 128 ∧ prN ⟨0, 0, 0, 0⟩ = 3 := by decide +kernel
set_option maxRecDepth 100000 in
set_option maxHeartbeats 4000000 in
theorem alive15_any (w : World) (hT : TabAt w) :
    Calls Tryd.prog 9 #[] w fun e w' => e = .returned (.bool true) ∧ Off (fun _ => False) w w' := by
  have HT := Lib.hid hT
  clear hT
  go_enter Tryd.func9, Tryd.ntmps9
  have hmk : ∀ W, (Instr.makeSlice 29 (.int .i64 1) (.int .i64 1)).run Tryd.prog W = .ok (.slice (some ⟨W.heap.size, 0, none⟩) 1 1) (W.alloc (.cells #[.int .u64 0, .int .u64 0, .int .u64 0, .int .u64 0] 46)) := fun W => run_make_el 1 (by decide) W
  go_upto_region 6 with fail
  obtain ⟨W0, hW0⟩ : ∃ W0, W0 = (((((w.alloc (.cells #[.int .i64 1, .int .i64 2, .int .i64 3, .int .i64 40] 23)).alloc (.cells #[.int .u64 0, .int .u64 0, .int .u64 0, .int .u64 0] 46)).alloc (.cells #[.int .i64 1, .int .i64 2, .int .i64 7, .int .i64 1, .slice (some ⟨w.heap.size + 1, 0, none⟩) 1 1] 31)).alloc (.cells #[.int .i64 1, .int .i64 2, .int .i64 8, .int .i64 1, .slice (some ⟨w.heap.size + 1, 0, none⟩) 1 1] 31)).alloc (.cells #[.int .i64 1, .int .i64 2, .int .i64 7, .int .i64 1, .slice (some ⟨w.heap.size + 1, 0, none⟩) 1 1, .int .i64 1, .int .i64 2, .int .i64 8, .int .i64 1, .slice (some ⟨w.heap.size + 1, 0, none⟩) 1 1] 31)) := ⟨_, rfl⟩
  rw [← hW0]
  have hO0 : Off (fun _ => False) w W0 := by rw [hW0]; exact (((((Off.refl _ w).alloc _).alloc _).alloc _).alloc _).alloc _
  have s1 : ∀ (x : Nat), w.heap.size < w.heap.size + 1 := fun _ => by omega
  have g0 : W0.heap[w.heap.size]? = some (.cells #[.int .i64 1, .int .i64 2, .int .i64 3, .int .i64 40] 23 (0, 0)) := by rw [hW0]; exact heap_old' (heap_old' (heap_old' (heap_old' (heap_new' rfl _) _) _) _) _
  have g1 : W0.heap[w.heap.size + 1]? = some (.cells #[.int .u64 0, .int .u64 0, .int .u64 0, .int .u64 0] 46 (0, 0)) := by rw [hW0]; exact heap_old' (heap_old' (heap_old' (heap_new' (by simp) _) _) _) _
  have g2 : W0.heap[w.heap.size + 1 + 1]? = some (.cells #[.int .i64 1, .int .i64 2, .int .i64 7, .int .i64 1, .slice (some ⟨w.heap.size + 1, 0, none⟩) 1 1] 31 (0, 0)) := by rw [hW0]; exact heap_old' (heap_old' (heap_new' (by simp) _) _) _
  have g4 : W0.heap[w.heap.size + 1 + 1 + 1 + 1]? = some (.cells #[.int .i64 1, .int .i64 2, .int .i64 7, .int .i64 1, .slice (some ⟨w.heap.size + 1, 0, none⟩) 1 1, .int .i64 1, .int .i64 2, .int .i64 8, .int .i64 1, .slice (some ⟨w.heap.size + 1, 0, none⟩) 1 1] 31 (0, 0)) := by rw [hW0]; exact heap_new' (by simp) _
  have hv : VsAt W0 (.slice (some ⟨w.heap.size + 1, 0, none⟩) 1 1) [0] (fun k => k < W0.heap.size) := ⟨_, _, rfl, by decide, (fun x hx => by simp at hx; subst hx; decide), fun _ => ⟨_, _, rfl, heap_lt g1, fun j x hx => by
    match j, hx with
    | 0, hx => simp at hx; subst hx; exact ⟨cell_of_heap g1 0, cell_of_heap g1 1, cell_of_heap g1 2, cell_of_heap g1 3⟩⟩⟩
  have hA : ShAt W0 (w.heap.size + 1 + 1 + 1 + 1) 0 shA (fun k => k < W0.heap.size) := ⟨cell_of_heap g4 0, cell_of_heap g4 1, cell_of_heap g4 2, cell_of_heap g4 3, _, _, cell_of_heap g4 4, Nat.le_refl _, hv⟩
  have hB : ShAt W0 (w.heap.size + 1 + 1 + 1 + 1) 5 shB (fun k => k < W0.heap.size) := ⟨cell_of_heap g4 5, cell_of_heap g4 6, cell_of_heap g4 7, cell_of_heap g4 8, _, _, cell_of_heap g4 9, Nat.le_refl _, hv⟩
  have h2 : ShsAt W0 (.slice (some ⟨w.heap.size + 1 + 1 + 1 + 1, 0, none⟩) 2 2) [shA, shB] (fun k => k < W0.heap.size) := ⟨_, _, rfl, Nat.le_refl _, by decide, (fun s hs => by simp at hs; rcases hs with rfl | rfl; exact shA_ok; exact shB_ok), fun _ => ⟨_, _, rfl, heap_lt g4, fun j s hs => by
    match j, hs with
    | 0, hs => simp at hs; subst hs; exact hA
    | 1, hs => simp at hs; subst hs; exact hB⟩⟩
  have h1 : ShsAt W0 (.slice (some ⟨w.heap.size + 1 + 1 + 1 + 1, 0, none⟩) 1 2) [shA] (fun k => k < W0.heap.size) := ⟨_, _, rfl, by decide, by decide, (fun s hs => by simp at hs; subst hs; exact shA_ok), fun _ => ⟨_, _, rfl, heap_lt g4, fun j s hs => by
    match j, hs with
    | 0, hs => simp at hs; subst hs; exact hA⟩⟩
  obtain ⟨q1, q2, q3⟩ := q40
  have F1 := Lib.hid (fun W hT => random_par ⟨1, 2, 3, 40⟩ ⟨rfl, rfl, rfl, rfl⟩ W hT)
  rw [q2] at F1
  have F2 := Lib.hid (fun W hT => check_par ⟨1, 2, 3, 40⟩ ⟨rfl, rfl, rfl, rfl⟩ W hT)
  rw [q1] at F2
  have F3 := Lib.hid (fun W hT => check_par ⟨0, 0, 0, 0⟩ ⟨rfl, rfl, rfl, rfl⟩ W hT)
  rw [q3] at F3
  have F4 := Lib.hid (fun W (hO : Off (fun _ => False) W0 W) hT => share_par shA shA_ok (by decide) (some ⟨w.heap.size + 1, 0, none⟩) 1 (by decide) (fun k => k < W0.heap.size) W (hv.off hO (fun _ _ _ c => c)) hT)
  rw [shA_zero] at F4
  have F5 := Lib.hid (fun W (hO : Off (fun _ => False) W0 W) hT => shares_par [shA] (some ⟨w.heap.size + 1 + 1 + 1 + 1, 0, none⟩) 1 2 rfl (by decide) (fun s hs => by simp at hs; subst hs; decide) (fun k => k < W0.heap.size) W (h1.off hO (fun _ _ _ c => c)) hT)
  rw [one_few] at F5
  have F6 := Lib.hid (fun W (hO : Off (fun _ => False) W0 W) hT => shares_par [shA, shB] (some ⟨w.heap.size + 1 + 1 + 1 + 1, 0, none⟩) 2 2 rfl (by decide) (fun s hs => by simp at hs; rcases hs with rfl | rfl <;> decide) (fun k => k < W0.heap.size) W (h2.off hO (fun _ _ _ c => c)) hT)
  rw [two_zero] at F6
  have F7 := Lib.hid (fun W (hO : Off (fun _ => False) W0 W) => indices_par [shA, shB] (some ⟨w.heap.size + 1 + 1 + 1 + 1, 0, none⟩) 2 2 rfl (by decide) (fun k => k < W0.heap.size) W (h2.off hO (fun _ _ _ c => c)))
  have F8 := Lib.hid (fun W (hO : Off (fun _ => False) W0 W) => column_par [shA, shB] (some ⟨w.heap.size + 1 + 1 + 1 + 1, 0, none⟩) 2 2 rfl (by decide) 0 rfl (fun k => k < W0.heap.size) W (h2.off hO (fun _ _ _ c => c)))
  have HT0 := Lib.hid (HT.out.off hO0)
  have HO0 := Lib.hid hO0
  have G0 := Lib.hid g0
  have G2 := Lib.hid g2
  have HOr := Lib.hid (Off.refl (fun _ => False) W0)
  obtain ⟨p0, p1, p2, p3⟩ := cells4 g0
  have lp := heap_lt g0
  clear hW0 hO0 g0 g1 g2 g4 hv hA hB h1 h2 q1 q2 q3 HT hmk s1
  go_wp2_with fail
  refine (F1.out _ HT0.out).mono ?_
  rintro e u1 ⟨rfl, hO⟩
  have HO1 := Lib.hid (HOr.out.trans hO (fun _ _ c => c))
  clear hO F1
  clear p0 p1 p2 p3 lp
  obtain ⟨p0, p1, p2, p3⟩ := cells4 (HO1.out.heap G0.out (fun c => c))
  have lp := heap_lt (HO1.out.heap G0.out (fun c => c))
  go_wp2_with fail
  refine (F2.out _ (HT0.out.off HO1.out)).mono ?_
  rintro e u2 ⟨rfl, hO⟩
  have HO2 := Lib.hid (HO1.out.trans hO (fun _ _ c => c))
  clear hO F2
  clear p0 p1 p2 p3 lp
  go_wp2_with fail
  refine (F3.out _ (HT0.out.off HO2.out)).mono ?_
  rintro e u3 ⟨rfl, hO⟩
  have HO3 := Lib.hid (HO2.out.trans hO (fun _ _ c => c))
  clear hO F3
  have g := HO3.out.heap G2.out (fun c => c)
  have p0 := cell_of_heap g 0
  have p1 := cell_of_heap g 1
  have p2 := cell_of_heap g 2
  have p3 := cell_of_heap g 3
  have p4 := cell_of_heap g 4
  have lp := heap_lt g
  clear g
  go_wp2_with fail
  refine (F4.out _ HO3.out (HT0.out.off HO3.out)).mono ?_
  rintro e u4 ⟨rfl, hO⟩
  have HO4 := Lib.hid (HO3.out.trans hO (fun _ _ c => c))
  clear hO F4
  clear p0 p1 p2 p3 p4 lp
  go_wp2_with fail
  refine (F5.out _ HO4.out (HT0.out.off HO4.out)).mono ?_
  rintro e u5 ⟨rfl, hO⟩
  have HO5 := Lib.hid (HO4.out.trans hO (fun _ _ c => c))
  clear hO F5
  go_wp2_with fail
  refine (F6.out _ HO5.out (HT0.out.off HO5.out)).mono ?_
  rintro e u6 ⟨rfl, hO⟩
  have HO6 := Lib.hid (HO5.out.trans hO (fun _ _ c => c))
  clear hO F6
  go_wp2_with fail
  refine (F7.out _ HO6.out).mono ?_
  rintro e u7 ⟨v7, rfl, hv7, hO⟩
  have HO7 := Lib.hid (HO6.out.trans hO (fun _ _ c => c))
  have HV7 := Lib.hid (Iv.of hv7)
  clear hO hv7 F7
  go_wp2_with fail
  obtain ⟨W8, hW8⟩ : ∃ W8, W8 = u7.alloc (.cells #[.int .i64 7, .int .i64 8] 3) := ⟨_, rfl⟩
  rw [← hW8]
  have hO8 : Off (fun _ => False) u7 W8 := by rw [hW8]; exact (Off.refl _ u7).alloc _
  have g8 : W8.heap[u7.heap.size]? = some (.cells #[.int .i64 7, .int .i64 8] 3 (0, 0)) := by rw [hW8]; exact heap_new' rfl _
  have hl8 : Iv W8 (.slice (some ⟨u7.heap.size, 0, none⟩) 2 2) (ixs [shA, shB]) := ⟨_, _, rfl, by decide, (fun x hx => by simp [ixs, shA, shB] at hx; rcases hx with rfl | rfl <;> rfl), fun _ => ⟨_, _, rfl, trivial, fun j x hx => by
    match j, hx with
    | 0, hx => simp [ixs, shA, shB] at hx; subst hx; exact cell_of_heap g8 0
    | 1, hx => simp [ixs, shA, shB] at hx; subst hx; exact cell_of_heap g8 1⟩⟩
  have FE := Lib.hid (intseq_any (ixs [shA, shB]) (by decide) v7 (.slice (some ⟨u7.heap.size, 0, none⟩) 2 2) W8 (HV7.out.off hO8) hl8)
  have HO8 := Lib.hid (HO7.out.trans hO8 (fun _ _ c => c))
  clear hW8 hO8 g8 hl8
  refine FE.out.mono ?_
  rintro e u9 ⟨rfl, hO⟩
  have HO9 := Lib.hid (HO8.out.trans hO (fun _ _ c => c))
  clear hO FE
  go_wp2_with fail
  refine (F8.out _ HO9.out).mono ?_
  rintro e u10 ⟨v8, rfl, hv8, hO⟩
  obtain ⟨a8, c8, rfl, _⟩ := hv8
  have HO10 := Lib.hid (HO0.out.trans (HO9.out.trans hO (fun _ _ c => c)) (fun _ _ c => c))
  have hl2 : (colN [shA, shB] 0).length = 2 := rfl
  rw [hl2]
  clear hO F8 hl2
  go_wp2
  go_ret
  exact ⟨rfl, HO10.out⟩
end Go.Proofs.YtmokaikofcbboaaDoor
