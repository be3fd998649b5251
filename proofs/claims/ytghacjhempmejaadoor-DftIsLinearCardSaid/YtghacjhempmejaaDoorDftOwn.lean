/-
  Lists of complex numbers that are filled one by one in a block of the call's own; isSize; Roots. Conditions: the tables of the coefficients are as they are laid.
-/
import Derived.Test.YtghacjhempmejaaDoorDftRoot
import Derived.Test.YtghacjhempmejaaDoorDftNums
namespace Go.Proofs.YtghacjhempmejaaDoor
open Go.RowKit Ieee
set_option maxRecDepth 100000
set_option maxHeartbeats 4000000
attribute [local go_sem] run_store_com
/-- f up to k, g from there on. -/
def fillQ (f g : Nat → Nat × Nat) (n k : Nat) : List (Nat × Nat) := (List.range n).map (fun i => if i < k then f i else g i)
def zeroC : Nat → Nat × Nat := fun _ => (0, 0)
theorem fillQ_start (f g : Nat → Nat × Nat) (n : Nat) : fillQ f g n 0 = (List.range n).map g := by
  unfold fillQ
  exact List.map_congr_left (fun i _ => if_neg (Nat.not_lt_zero i))
theorem zeros_map (n : Nat) : (List.range n).map zeroC = List.replicate n (0, 0) := by
  apply List.ext_getElem (by simp)
  intro j h1 h2
  simp [zeroC]
theorem fillQ_full (f g : Nat → Nat × Nat) (n : Nat) : fillQ f g n n = (List.range n).map f := by
  unfold fillQ
  exact List.map_congr_left (fun m hm => if_pos (List.mem_range.1 hm))
theorem fillQ_set (f g : Nat → Nat × Nat) {n k : Nat} (hk : k < n) : (fillQ f g n k).set k (f k) = fillQ f g n (k + 1) := by
  unfold fillQ
  apply List.ext_getElem?
  intro m
  by_cases hm : m < n
  · rw [List.getElem?_set, List.getElem?_map, List.getElem?_map, List.getElem?_range hm]
    by_cases e : k = m
    · subst e
      rw [if_pos rfl, if_pos (by simp; exact hk)]
      simp
    · rw [if_neg e]
      simp only [Option.map_some]
      by_cases c : m < k
      · rw [if_pos c, if_pos (by omega)]
      · rw [if_neg c, if_neg (by omega)]
  · rw [List.getElem?_eq_none (by simp; omega), List.getElem?_eq_none (by simp; omega)]
theorem fillQ_get (f g : Nat → Nat × Nat) {n k m : Nat} (hm : m < n) : (fillQ f g n k)[m]? = some (if m < k then f m else g m) := by
  unfold fillQ
  rw [List.getElem?_map, List.getElem?_range hm]; rfl
theorem fillQ_len (f g : Nat → Nat × Nat) (n k : Nat) : (fillQ f g n k).length = n := by unfold fillQ; simp
/-- A cell of a block of complex numbers. -/
theorem cell_c {W : World} {b : Nat} {L : List (Nat × Nat)} (h : W.heap[b]? = some (.cells (cCells L) 34)) {k : Nat} {z : Nat × Nat} (hz : L[k]? = some z) : W.cell? ⟨b, k, none⟩ = some (.complex .f64 z.1 z.2) := by
  rw [cell_of_heap h]; unfold cCells; rw [List.getElem?_toArray, List.getElem?_map, hz]; rfl
theorem zeros_new {w : World} {n : Nat} : (w.alloc (.cells (Array.replicate n (Value.complex .f64 0 0)) 34)).heap[w.heap.size]? = some (.cells (cCells ((List.range n).map zeroC)) 34) := by
  rw [zeros_map, show cCells (List.replicate n (0, 0)) = Array.replicate n (Value.complex .f64 0 0) by simp [cCells]]; exact heap_new' rfl _
theorem and_pow : (List.range 257).all (fun m => m == 0 || (bits BinOp.and .i64 (m : Int) ((m : Int) - 1) == 0) == isP (m : Int)) = true := by decide +kernel
theorem issize_any (n : Int) (w : World) :
    Calls Tryd.prog 25 #[.int .i64 n] w fun e w' => e = .returned (.bool (isP n)) ∧ w = w' := by
  obtain ⟨R, hR⟩ : ∃ R, R = isP n := ⟨_, rfl⟩
  rw [← hR]
  by_cases h0 : 0 < n
  · by_cases h1 : n ≤ 256
    · have hb : (bits BinOp.and .i64 n (n - 1) == 0) = R := by
        have h := List.all_eq_true.1 and_pow n.toNat (List.mem_range.2 (by omega))
        rw [show ((n.toNat : Nat) : Int) = n by omega] at h
        simp only [Bool.or_eq_true, beq_iff_eq] at h
        rw [hR]
        rcases h with h | h
        · omega
        · exact h
      have hw : IntKind.i64.wrap (n - 1) = n - 1 := by rw [IntKind.wrap_i64]; omega
      clear hR
      go_enter Tryd.func25, Tryd.ntmps25
      go_wp2
      go_ret
      exact ⟨rfl, rfl⟩
    · have hI : R = false := hR.trans (isP_not (fun j hj e => by
        have : pw j ≤ 256 := Nat.pow_le_pow_right (n := 2) (i := j) (j := 8) (by omega) (by omega)
        omega))
      clear hR
      subst hI
      have hd : decide (n ≤ 256) = false := by simp; omega
      go_enter Tryd.func25, Tryd.ntmps25
      go_wp2
      go_ret
      exact ⟨rfl, rfl⟩
  · have hI : R = false := hR.trans (isP_not (fun j hj e => by
      have : 0 < pw j := Nat.two_pow_pos j
      omega))
    clear hR
    subst hI
    have hd : decide (n > 0) = false := by simp; omega
    have hd2 : decide (0 < n) = false := by simp; omega
    go_enter Tryd.func25, Tryd.ntmps25
    go_wp2
    go_ret
    exact ⟨rfl, rfl⟩
end Go.Proofs.YtghacjhempmejaaDoor
