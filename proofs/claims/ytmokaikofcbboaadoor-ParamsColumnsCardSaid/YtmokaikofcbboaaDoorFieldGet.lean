/-
  Contracts of field.Get and field.All over this seat's translation. Condition: the table of fields lies in memory as it was laid.
-/
import Derived.Test.YtmokaikofcbboaaDoorFieldHeld
import Derived.Test.YtmokaikofcbboaaDoorFieldEq
import Derived.Test.YtmokaikofcbboaaDoorModMul
namespace Go.Proofs.YtmokaikofcbboaaDoor
open Go.RowKit

/-- The cells of the two fields. -/
def f1Cells : Array Value := #[.int .i64 1, .int .u64 18446744073709551597, .int .u64 18446744073709551615, .int .u64 18446744073709551615, .int .u64 9223372036854775807, .int .u64 9708812670373448219, .int .u64 38, .int .u64 0, .int .u64 0, .int .u64 0, .int .u64 1444, .int .u64 0, .int .u64 0, .int .u64 0]
def f2Cells : Array Value := #[.int .i64 2, .int .u64 17562291160714782033, .int .u64 13611842547513532036, .int .u64 18446744073709551615, .int .u64 18446744069414584320, .int .u64 14758798090332847183, .int .u64 884452912994769583, .int .u64 4834901526196019579, .int .u64 0, .int .u64 4294967295, .int .u64 9449762124159643298, .int .u64 5087230966250696614, .int .u64 2901921493521525849, .int .u64 7413256579398063648]
def f0Cells : Array Value := #[.int .i64 0, .int .u64 0, .int .u64 0, .int .u64 0, .int .u64 0, .int .u64 0, .int .u64 0, .int .u64 0, .int .u64 0, .int .u64 0, .int .u64 0, .int .u64 0, .int .u64 0, .int .u64 0]
theorem f1_eq : Value.agg f1Cells = FV 1 P1 (negInv (wd P1 0)) (radV P1 256) (radV P1 256 * radV P1 256 % P1) := by kernel_rfl
theorem f2_eq : Value.agg f2Cells = FV 2 P2 (negInv (wd P2 0)) (radV P2 256) (radV P2 256 * radV P2 256 % P2) := by kernel_rfl
def getV (id : Int) : Array Value := if id = 1 then #[.agg f1Cells, .int .i64 0] else if id = 2 then #[.agg f2Cells, .int .i64 0] else #[.agg f0Cells, .int .i64 3]

/-- The cells of the whole table. -/
def tabCells : Array Value := f1Cells ++ f2Cells
theorem tab_flat : (flatD (H := Unit) Rows.laid_sharecore_field_fields) = tabCells.toList := by kernel_rfl
theorem load_tab {w : World} (h : TabAt w) : (loadVar 66 ⟨0, 0, none⟩).run Tryd.prog w = .ok (.agg tabCells) w := by
  have hl : (loadCells ⟨0, 0, none⟩ tabCells.toList.length).run Tryd.prog w = .ok tabCells.toList.toArray w :=
    run_loadCells_list w _ _ (fun j v hv => by
      have hadd : (⟨0, 0, none⟩ : Addr).add j = ⟨0, j, none⟩ := by unfold Addr.add; split <;> simp_all
      rw [hadd]; exact h j v (by rw [tab_flat]; exact hv))
  have hs : (Tryd.prog.info? 66).map (·.size) = some tabCells.toList.length := by kernel_rfl
  cases hq : Tryd.prog.info? 66 with
  | none => simp [hq] at hs
  | some i =>
    have hs : i.size = tabCells.toList.length := by simpa [hq] using hs
    have hagg : (isAgg 66).run Tryd.prog w = .ok true w := by
      unfold isAgg
      rw [Sem.run_bind, run_underlying Tryd.underlying66 w]
      rfl
    simp only [Array.length_toList, Array.toArray_toList] at hl hs
    simp [loadVar, Sem.run_bind, hagg, sizeOf, typeInfo, hq, hs, hl]
theorem wpList_load_tab {ops : Array Oper} {rest : List Oper} {o : Oper} {a : Act} {w : World} {Q : Exit → Act → World → Prop} (hgd : o.guard = none) (x : Operand) (ho : o.op = .load 66 x)
    (hx : a.eval x = .pointer (some ⟨0, 0, none⟩)) (hT : TabAt w) (h : wpList Tryd.prog ops Q rest (a.put o.dst (.agg tabCells)) w) : wpList Tryd.prog ops Q (o :: rest) a w := by
  refine wpList_plain hgd fun _ hK => ?_
  unfold Oper.wp execOp
  simp only [ho, hx, Instr.loadAt, Instr.sureAddr, Sem.run_bind, Sem.run_pure, Result.andThen_ok, load_tab hT]
  exact hK _ _ h
theorem index_tab1 (w : World) : (Instr.index 66 (.agg tabCells) (.int .i64 0)).run Tryd.prog w = .ok (.agg #[.int .i64 1, .int .u64 18446744073709551597, .int .u64 18446744073709551615, .int .u64 18446744073709551615, .int .u64 9223372036854775807, .int .u64 9708812670373448219, .int .u64 38, .int .u64 0, .int .u64 0, .int .u64 0, .int .u64 1444, .int .u64 0, .int .u64 0, .int .u64 0]) w := by kernel_rfl
theorem index_tab2 (w : World) : (Instr.index 66 (.agg tabCells) (.int .i64 1)).run Tryd.prog w = .ok (.agg #[.int .i64 2, .int .u64 17562291160714782033, .int .u64 13611842547513532036, .int .u64 18446744073709551615, .int .u64 18446744069414584320, .int .u64 14758798090332847183, .int .u64 884452912994769583, .int .u64 4834901526196019579, .int .u64 0, .int .u64 4294967295, .int .u64 9449762124159643298, .int .u64 5087230966250696614, .int .u64 2901921493521525849, .int .u64 7413256579398063648]) w := by kernel_rfl

attribute [local go_sem ↓] Go.wp_at_zero Go.wp_at_succ
set_option maxRecDepth 100000 in
set_option maxHeartbeats 4000000 in
theorem fget_raw (id : Int) (w : World) (hT : TabAt w) :
    Calls Tryd.prog 25 #[.int .i64 id] w fun e w' => e = .returned (.tuple (getV id)) ∧ Off (fun _ => False) w w' := by
  have HT := Lib.hid hT
  have x1 := index_tab1
  have x2 := index_tab2
  clear hT
  obtain ⟨g, hg⟩ : ∃ g, g = getV id := ⟨_, rfl⟩
  have HG := Lib.hid hg
  rw [← hg]
  clear hg
  go_enter Tryd.func25, Tryd.ntmps25
  go_wp2_with (refine wpList_load_tab rfl _ rfl rfl (HT.out.off ((Off.refl _ w).alloc _)) ?_)
  clear HT
  go_loopw [7] (fun i wr => ∃ k : Nat, k ≤ 2 ∧ i = .int .i64 k ∧ (∀ j : Nat, j < k → id ≠ (j : Int) + 1) ∧ wr.heap[w.heap.size]? = some (.cells #[.int .i64 0, .int .u64 0, .int .u64 0, .int .u64 0, .int .u64 0, .int .u64 0, .int .u64 0, .int .u64 0, .int .u64 0, .int .u64 0, .int .u64 0, .int .u64 0, .int .u64 0, .int .u64 0] 55 (0, 0)) ∧ Off (fun _ => False) w wr) (fun i _ => 2 - (intOf i).toNat)
  case atStart => exact ⟨0, by omega, rfl, fun j hj => absurd hj (Nat.not_lt_zero _), heap_new' rfl _, (Off.refl _ w).alloc _⟩
  case round =>
    obtain ⟨k, hk, rfl, hne, hB, hO⟩ := hrel
    by_cases h0 : k = 0
    · subst h0
      clear hk
      by_cases h1 : id = 1
      · subst h1
        obtain ⟨b0, b1, b2, b3, b4, b5, b6, b7, b8, b9, b10, b11, b12, b13⟩ := fv_cells hB
        have hlt := heap_lt hB
        have fz := fun j => frozen_of_heap hB j
        have HO := Lib.hid hO
        clear hne x2 hB hO
        go_wp2
        refine bodyPost_ret (v := .tuple #[.agg #[.int .i64 1, .int .u64 18446744073709551597, .int .u64 18446744073709551615, .int .u64 18446744073709551615, .int .u64 9223372036854775807, .int .u64 9708812670373448219, .int .u64 38, .int .u64 0, .int .u64 0, .int .u64 0, .int .u64 1444, .int .u64 0, .int .u64 0, .int .u64 0], .int .i64 0]) (by simp [results, Tryd.results25, go_sem, b0, b1, b2, b3, b4, b5, b6, b7, b8, b9, b10, b11, b12, b13, hlt]) rfl ⟨by rw [HG.out]; rfl, ?_⟩
        have h := HO.out.trans (setCells_off w.heap.size [.int .i64 1, .int .u64 18446744073709551597, .int .u64 18446744073709551615, .int .u64 18446744073709551615, .int .u64 9223372036854775807, .int .u64 9708812670373448219, .int .u64 38, .int .u64 0, .int .u64 0, .int .u64 0, .int .u64 1444, .int .u64 0, .int .u64 0, .int .u64 0] 0 wr) (fun j hj e => by omega)
        simp only [World.setCells, Nat.reduceAdd] at h
        exact h.alloc _
      · have t1 : (1 == id) = false := by simp; omega
        have HN := Lib.hid (show ∀ j : Nat, j < 1 → id ≠ (j : Int) + 1 from fun j hj => by omega)
        have HO := Lib.hid hO
        have HB := Lib.hid hB
        clear hne x2 h1 hB hO
        go_wp2
        go_roundw
        case rel => exact ⟨1, by omega, by rfl, HN.out, heap_old' HB.out _, HO.out.alloc _⟩
        case measure => simp [intOf]
    · by_cases h1 : k = 1
      · subst h1
        clear hk h0
        have hn1 : id ≠ 1 := hne 0 (by omega)
        by_cases h2 : id = 2
        · subst h2
          obtain ⟨b0, b1, b2, b3, b4, b5, b6, b7, b8, b9, b10, b11, b12, b13⟩ := fv_cells hB
          have hlt := heap_lt hB
          have fz := fun j => frozen_of_heap hB j
          have HO := Lib.hid hO
          clear hne x1 hB hO hn1
          go_wp2
          refine bodyPost_ret (v := .tuple #[.agg #[.int .i64 2, .int .u64 17562291160714782033, .int .u64 13611842547513532036, .int .u64 18446744073709551615, .int .u64 18446744069414584320, .int .u64 14758798090332847183, .int .u64 884452912994769583, .int .u64 4834901526196019579, .int .u64 0, .int .u64 4294967295, .int .u64 9449762124159643298, .int .u64 5087230966250696614, .int .u64 2901921493521525849, .int .u64 7413256579398063648], .int .i64 0]) (by simp [results, Tryd.results25, go_sem, b0, b1, b2, b3, b4, b5, b6, b7, b8, b9, b10, b11, b12, b13, hlt]) rfl ⟨by rw [HG.out]; rfl, ?_⟩
          have h := HO.out.trans (setCells_off w.heap.size [.int .i64 2, .int .u64 17562291160714782033, .int .u64 13611842547513532036, .int .u64 18446744073709551615, .int .u64 18446744069414584320, .int .u64 14758798090332847183, .int .u64 884452912994769583, .int .u64 4834901526196019579, .int .u64 0, .int .u64 4294967295, .int .u64 9449762124159643298, .int .u64 5087230966250696614, .int .u64 2901921493521525849, .int .u64 7413256579398063648] 0 wr) (fun j hj e => by omega)
          simp only [World.setCells, Nat.reduceAdd] at h
          exact h.alloc _
        · have t1 : (2 == id) = false := by simp; omega
          have HN := Lib.hid (show ∀ j : Nat, j < 2 → id ≠ (j : Int) + 1 from fun j hj => by omega)
          have HO := Lib.hid hO
          have HB := Lib.hid hB
          clear hne x1 h2 hn1 hB hO
          go_wp2
          go_roundw
          case rel => exact ⟨2, by omega, by rfl, HN.out, heap_old' HB.out _, HO.out.alloc _⟩
          case measure => simp [intOf]
      · obtain rfl : k = 2 := by omega
        have hn1 : id ≠ 1 := hne 0 (by omega)
        have hn2 : id ≠ 2 := hne 1 (by omega)
        have HN := Lib.hid (And.intro hn1 hn2)
        obtain ⟨b0, b1, b2, b3, b4, b5, b6, b7, b8, b9, b10, b11, b12, b13⟩ := fv_cells hB
        have hlt := heap_lt hB
        have fz := fun j => frozen_of_heap hB j
        have HO := Lib.hid hO
        clear hne x1 x2 hB hO hn1 hn2 h0 h1 hk
        go_wp2
        refine bodyPost_ret (v := .tuple #[.agg #[.int .i64 0, .int .u64 0, .int .u64 0, .int .u64 0, .int .u64 0, .int .u64 0, .int .u64 0, .int .u64 0, .int .u64 0, .int .u64 0, .int .u64 0, .int .u64 0, .int .u64 0, .int .u64 0], .int .i64 3]) (by simp [results, Tryd.results25, go_sem, b0, b1, b2, b3, b4, b5, b6, b7, b8, b9, b10, b11, b12, b13]) rfl ⟨by rw [HG.out]; unfold getV; rw [if_neg HN.out.1, if_neg HN.out.2]; rfl, ?_⟩
        have h := HO.out.trans (setCells_off w.heap.size [.int .i64 0, .int .u64 0, .int .u64 0, .int .u64 0, .int .u64 0, .int .u64 0, .int .u64 0, .int .u64 0, .int .u64 0, .int .u64 0, .int .u64 0, .int .u64 0, .int .u64 0, .int .u64 0] 0 wr) (fun j hj e => by omega)
        simp only [World.setCells, Nat.reduceAdd] at h
        exact h
theorem modN_of {id : Int} {p : Nat} (h1 : 1 < p) (hm : modN id = p) : (id = 1 ∧ p = P1) ∨ (id = 2 ∧ p = P2) := by
  unfold modN at hm
  by_cases h : id = 1
  · rw [if_pos h] at hm; exact .inl ⟨h, hm.symm⟩
  · rw [if_neg h] at hm
    by_cases h2 : id = 2
    · rw [if_pos h2] at hm; exact .inr ⟨h2, hm.symm⟩
    · rw [if_neg h2] at hm; omega
theorem f0_eq : Value.agg f0Cells = FV 0 0 0 0 0 := by kernel_rfl
theorem fget_in (id : Int) (p : Nat) (_hp : p < R256) (h1 : 1 < p) (hm : modN id = p) (w : World) (hT : TabAt w) :
    Calls Tryd.prog 25 #[.int .i64 id] w fun e w' => e = .returned (.tuple #[FV id p (negInv (wd p 0)) (radV p 256) (radV p 256 * radV p 256 % p), .int .i64 0]) ∧ Off (fun _ => False) w w' := by
  have h := fget_raw id w hT
  rcases modN_of h1 hm with ⟨rfl, rfl⟩ | ⟨rfl, rfl⟩
  · rw [← f1_eq]; exact h
  · rw [← f2_eq]; exact h
theorem fget_none (id : Int) (hm : modN id = 0) (w : World) (hT : TabAt w) :
    Calls Tryd.prog 25 #[.int .i64 id] w fun e w' => e = .returned (.tuple #[FV 0 0 0 0 0, .int .i64 3]) ∧ Off (fun _ => False) w w' := by
  have h := fget_raw id w hT
  have h1 : id ≠ 1 := fun e => by subst e; exact absurd hm (by decide +kernel)
  have h2 : id ≠ 2 := fun e => by subst e; exact absurd hm (by decide +kernel)
  rw [← f0_eq]
  unfold getV at h
  rw [if_neg h1, if_neg h2] at h
  exact h
end Go.Proofs.YtmokaikofcbboaaDoor
