/-
  The statements' numbers: small integers as complex numbers, newly made. Condition: the number of elements is small.
-/
import Derived.Test.YtghacjhempmejaaDoorDftLists
import Derived.Test.YtghacjhempmejaaDoorI16At
import Derived.Laws.MakeOwn
import Derived.OwnWalk
namespace Go.Proofs.YtghacjhempmejaaDoor
open Go.RowKit Ieee
theorem run_store_com {P : Program} (w : World) (a : Addr) (m : Mode) (k : FloatKind) (x y : Nat) : (store a (.complex k x y) m).run P w = stored P w a (.complex k x y) m := run_store P w a _ m rfl
attribute [local go_sem] run_store_com
/-- An integer as a word. -/
def fl (z : Int) : Nat := floatOfInt .f64 z
theorem fl_fr {z : Int} (h : z.natAbs < 2 ^ 53) : FR (fl z) (z : Rat) := (fr_int z h).2
def numC (ls : List Int) (i : Nat) : Nat × Nat := if 2 * i + 1 < ls.length then (fl ((ls.getD (2 * i) 0).tmod 7), fl ((ls.getD (2 * i + 1) 0).tmod 7)) else (0, 0)
def numsP (ls : List Int) (n k : Nat) : List (Nat × Nat) := (List.range n).map (fun i => if i < k then numC ls i else (0, 0))
def numsL (ls : List Int) (n : Nat) : List (Nat × Nat) := (List.range n).map (numC ls)
def cCells (L : List (Nat × Nat)) : Array Value := (L.map (fun p => Value.complex .f64 p.1 p.2)).toArray
theorem numsP_zero (ls : List Int) (n : Nat) : numsP ls n 0 = List.replicate n (0, 0) := by
  unfold numsP
  apply List.ext_getElem (by simp)
  intro j h1 h2
  simp
theorem numsP_full (ls : List Int) (n : Nat) : numsP ls n n = numsL ls n := by
  unfold numsP numsL
  exact List.map_congr_left (fun m hm => if_pos (List.mem_range.1 hm))
theorem numsP_set (ls : List Int) {n k : Nat} (hk : k < n) : (numsP ls n k).set k (numC ls k) = numsP ls n (k + 1) := by
  unfold numsP
  apply List.ext_getElem?
  intro m
  by_cases hm : m < n
  · rw [List.getElem?_set, List.getElem?_map, List.getElem?_map, List.getElem?_range hm]
    by_cases e : k = m
    · subst e
      rw [if_pos rfl, if_pos (by simp; exact hk)]
      simp
    · rw [if_neg e]
      simp only [Option.map_some]
      by_cases c : m < k
      · rw [if_pos c, if_pos (by omega)]
      · rw [if_neg c, if_neg (by omega)]
  · rw [List.getElem?_eq_none (by simp; omega), List.getElem?_eq_none (by simp; omega)]
theorem numsP_skip (ls : List Int) {n k : Nat} (h : ¬ 2 * k + 1 < ls.length) : numsP ls n k = numsP ls n (k + 1) := by
  unfold numsP
  refine List.map_congr_left (fun m _ => ?_)
  by_cases e : m = k
  · subst e
    rw [if_neg (by omega), if_pos (by omega)]
    unfold numC; rw [if_neg h]
  · by_cases c : m < k
    · rw [if_pos c, if_pos (by omega)]
    · rw [if_neg c, if_neg (by omega)]
theorem com_info : (Tryd.prog.info? 34).map (fun i => (i.zero, i.size, i.bytes)) = some (some (.complex .f64 0 0), 1, 16) := by kernel_rfl
theorem run_make_com (n : Nat) (hn : n ≤ 1000) (W : World) : (Instr.makeSlice 30 (.int .i64 (n : Int)) (.int .i64 (n : Int))).run Tryd.prog W = .ok (.slice (some ⟨W.heap.size, 0, none⟩) n n) (W.alloc (.cells (Array.replicate n (Value.complex .f64 0 0)) 34)) := by
  obtain ⟨i0, hi, hz0, hz1, hz2⟩ := info_parts com_info
  have h := run_make (P := Tryd.prog) W 30 34 i0 _ Tryd.underlying30 hi hz0 .i64 .i64 (n : Int) (n : Int) (by omega) (Int.le_refl _) (by rw [hz2]; omega) (by omega)
  have e : madeCells (Value.complex .f64 0 0).cells n = Array.replicate n (Value.complex .f64 0 0) := by
    apply Array.ext'
    rw [show (Value.complex .f64 0 0).cells = #[.complex .f64 0 0] from rfl, toList_madeCells_one]
    simp
  rw [← e]
  rw [hz1] at h
  simpa using h
theorem com_store {W : World} {b : Nat} {L : List (Nat × Nat)} (h : W.heap[b]? = some (.cells (cCells L) 34)) (s : Nat) (z : Nat × Nat) : (W.setCells b s [.complex .f64 z.1 z.2]).heap[b]? = some (.cells (cCells (L.set s z)) 34) := by
  have h2 := heap_set h s (.complex .f64 z.1 z.2)
  unfold cCells at h2 ⊢
  rw [List.map_set]
  simpa [World.setCells] using h2
theorem cs_blk {W : World} {b n : Nat} {L : List (Nat × Nat)} (h : W.heap[b]? = some (.cells (cCells L) 34)) (hn : n = L.length) (hl : n ≤ 1000) {S : Nat → Prop} (hS : S b) : CsAt W (.slice (some ⟨b, 0, none⟩) n n) L S :=
  ⟨some ⟨b, 0, none⟩, n, by rw [hn], by omega, fun _ => ⟨b, 0, rfl, hS, fun j x hx => by
    rw [cell_of_heap h, Nat.zero_add]; unfold cCells; rw [List.getElem?_toArray, List.getElem?_map, hx]; rfl⟩⟩
set_option maxRecDepth 100000 in
set_option maxHeartbeats 4000000 in
theorem numbers_any (ls : List Int) (m n cap : Nat) (a1 : Option Addr) (hm : m = ls.length) (hn : n ≤ 256) (w : World) (hV : Hv w (.slice a1 m cap) ls) :
    Calls Tryd.prog 16 #[.slice a1 m cap, .int .i64 (n : Int)] w fun e w' => ∃ g, e = .returned (.slice (some ⟨g, 0, none⟩) n n) ∧ w.heap.size ≤ g ∧ w'.heap[g]? = some (.cells (cCells (numsL ls n)) 34) ∧ Off (fun _ => False) w w' := by
  have hml := (HvAt.len hV.lt).2.1
  have HV := Lib.hid hV
  have HM := Lib.hid hm
  have hmk := run_make_com n (by omega)
  obtain ⟨W1, hW1⟩ : ∃ W1, W1 = w.alloc (.cells (Array.replicate n (Value.complex .f64 0 0)) 34) := ⟨_, rfl⟩
  obtain ⟨g, hg⟩ : ∃ g, g = w.heap.size := ⟨_, rfl⟩
  have h1 : W1.heap[g]? = some (.cells (cCells (numsP ls n 0)) 34) := by
    rw [numsP_zero, hW1, hg, show cCells (List.replicate n (0, 0)) = Array.replicate n (Value.complex .f64 0 0) by simp [cCells]]; exact heap_new' rfl _
  have o1 : Off (fun _ => False) w W1 := by rw [hW1]; exact (Off.refl _ w).alloc _
  have HG := Lib.hid h1
  have HO1 := Lib.hid o1
  have HW1 := Lib.hid hW1
  have Hg := Lib.hid hg
  clear hV hm h1 o1 hW1 hg
  go_enter Tryd.func16, Tryd.ntmps16
  go_wp2
  rw [← HW1.out, ← Hg.out]
  clear hmk
  go_loopw [11] (fun i wr => ∃ k : Nat, k ≤ n ∧ i = .int .i64 (k : Int) ∧ wr.heap[g]? = some (.cells (cCells (numsP ls n k)) 34) ∧ Off (fun _ => False) w wr) (fun i _ => n - (intOf i).toNat)
  case atStart => exact ⟨0, Nat.zero_le _, rfl, HG.out, HO1.out⟩
  case round =>
    obtain ⟨k, hk, rfl, hL, hO⟩ := hrel
    by_cases hkn : k < n
    · have hki : (k : Int) < (n : Int) := by omega
      have hwk : IntKind.i64.wrap ((k : Int) + 1) = (k : Int) + 1 := by rw [IntKind.wrap_i64]; omega
      have hw2 : IntKind.i64.wrap (2 * (k : Int)) = 2 * (k : Int) := by rw [IntKind.wrap_i64]; omega
      have hw3 : IntKind.i64.wrap (2 * (k : Int) + 1) = 2 * (k : Int) + 1 := by rw [IntKind.wrap_i64]; omega
      by_cases h2 : 2 * k + 1 < m
      · have h2i : 2 * (k : Int) + 1 < (m : Int) := by omega
        obtain ⟨x, b1, o1, hx, rfl, d1, _, _⟩ := HvAt.at (Hv.off HV.out hO) (show 2 * k < m by omega)
        obtain ⟨y, b2, o2, hy, e2, d2, _, _⟩ := HvAt.at (Hv.off HV.out hO) h2
        cases e2
        have HL2 := Lib.hid hL
        have HO2 := Lib.hid hO
        have m0 : wr.cell? ⟨g, k, none⟩ = some (.complex .f64 0 0) := by
          rw [cell_of_heap hL]
          unfold cCells numsP
          rw [List.getElem?_toArray, List.getElem?_map, List.getElem?_map, List.getElem?_range hkn]
          simp
        have lt := heap_lt hL
        have fz : wr.frozen? ⟨g, k, none⟩ = false := frozen_of_heap hL k
        clear hL hO
        go_upto_region 6 with fail
        go_region
        have e : numC ls k = (fl (x.tmod 7), fl (y.tmod 7)) := by
          unfold numC
          rw [if_pos (by rw [← HM.out]; exact h2), List.getD_eq_getElem?_getD, List.getD_eq_getElem?_getD, hx, hy]; rfl
        have hst := com_store HL2.out k (numC ls k)
        rw [numsP_set ls hkn, e] at hst
        have hst2 : (wr.setCell ⟨g, k, none⟩ (.complex .f64 (floatOfInt .f64 (x.tmod 7)) (floatOfInt .f64 (y.tmod 7)))).drew.heap[g]? = some (.cells (cCells (numsP ls n (k + 1))) 34) := hst
        have hO3 : Off (fun _ => False) w (wr.setCell ⟨g, k, none⟩ (.complex .f64 (floatOfInt .f64 (x.tmod 7)) (floatOfInt .f64 (y.tmod 7)))).drew := ((HO2.out.trans (setCells_off g [.complex .f64 (floatOfInt .f64 (x.tmod 7)) (floatOfInt .f64 (y.tmod 7))] k wr) (fun j hj e => by have := Hg.out; omega)) : Off (fun _ => False) w _).drew
        generalize (wr.setCell ⟨g, k, none⟩ (.complex .f64 (floatOfInt .f64 (x.tmod 7)) (floatOfInt .f64 (y.tmod 7)))).drew = W2 at hst2 hO3 ⊢
        have HL3 := Lib.hid hst2
        have HO3 := Lib.hid hO3
        clear hst hst2 hO3 e hx hy m0 lt fz d1 d2 HL2 HO2
        go_wp2
        go_roundw
        case rel => exact ⟨k + 1, by omega, by simp, HL3.out, HO3.out⟩
        case measure => simp [intOf] <;> omega
      · have h2i : ¬ 2 * (k : Int) + 1 < (m : Int) := by omega
        rw [numsP_skip ls (by rw [← HM.out]; exact h2)] at hL
        have HL2 := Lib.hid hL
        have HO2 := Lib.hid hO
        clear hL hO
        go_wp2
        go_roundw
        case rel => exact ⟨k + 1, by omega, by simp, HL2.out, HO2.out⟩
        case measure => simp [intOf] <;> omega
    · obtain rfl : n = k := by omega
      have hki : ¬ ((n : Nat) : Int) < (n : Int) := by omega
      rw [numsP_full] at hL
      have HL2 := Lib.hid hL
      have HO2 := Lib.hid hO
      clear hL hO
      go_wp2
      go_ret
      exact ⟨g, rfl, Nat.le_of_eq Hg.out.symm, HL2.out, HO2.out⟩
end Go.Proofs.YtghacjhempmejaaDoor
