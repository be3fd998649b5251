/-
  inRange, numbers and integers of package dft. Conditions: the lists are short; for integers: each element is within a quarter of a whole number.
-/
import Derived.Test.YtghacjhempmejaaDoorDftRnd
import Derived.Test.YtghacjhempmejaaDoorDftMul
import Derived.Test.YtghacjhempmejaaDoorDftTrans
namespace Go.Proofs.YtghacjhempmejaaDoor
open Go.RowKit Ieee
set_option maxRecDepth 100000
set_option linter.unusedVariables false
set_option maxHeartbeats 4000000
attribute [local go_sem] run_store_com
theorem inrange_any (ls : List Int) (v : Value) (w : World) (hV : Iv w v ls) :
    Calls Tryd.prog 21 #[v] w fun e w' => e = .returned (.bool (!oobC ls)) ∧ w = w' := by
  obtain ⟨a, cap, rfl, _⟩ := hV.open
  obtain ⟨n, hn⟩ : ∃ n, n = ls.length := ⟨_, rfl⟩
  rw [← hn] at hV ⊢
  have HV := Lib.hid (Iv.lt hV)
  have hn48 := (IvAt.len hV).2.1
  have HN := Lib.hid hn
  obtain ⟨R, hR⟩ : ∃ R, R = !oobC ls := ⟨_, rfl⟩
  rw [← hR]
  have HYes := Lib.hid (show ∀ x, x ∈ ls → (x < -1000 ∨ 1000 < x) → R = false from fun x hx h => by rw [hR, oob_yes hx h]; rfl)
  have HNo := Lib.hid (show (∀ k x, k < n → ls[k]? = some x → -1000 ≤ x ∧ x ≤ 1000) → R = true from fun h => by
    rw [hR, oob_no (fun x hx => by
      obtain ⟨k, hk, e⟩ := List.getElem_of_mem hx
      exact h k x (by omega) (by rw [List.getElem?_eq_getElem hk, e]))]; rfl)
  unfold maxLen at hn48
  clear hV hn hR
  go_enter Tryd.func21, Tryd.ntmps21
  go_wp2
  go_loop [7] (fun i => ∃ k : Nat, k ≤ n ∧ i = .int .i64 (k : Int) ∧ Hid (∀ j x, j < k → ls[j]? = some x → -1000 ≤ x ∧ x ≤ 1000)) (fun i => n - (intOf i).toNat)
  case atStart => exact ⟨0, Nat.zero_le _, rfl, Lib.hid (fun j x hj => by omega)⟩
  case round =>
    obtain ⟨k, hk, rfl, HG⟩ := hrel
    by_cases hkn : k < n
    · have hki : (k : Int) < (n : Int) := by omega
      obtain ⟨x, b, off, hx, rfl, d1, _, _⟩ := IvAt.at HV.out hkn
      have hwk : IntKind.i64.wrap ((k : Int) + 1) = (k : Int) + 1 := by rw [IntKind.wrap_i64]; omega
      by_cases c1 : x < -1000
      · have HR := Lib.hid (HYes.out x (List.mem_of_getElem? hx) (.inl c1))
        have c1d : decide (x < -1000) = true := by simp [c1]
        clear hx
        go_wp2
        rw [HR.out]
        go_ret
        exact ⟨rfl, rfl⟩
      · have c1d : decide (x < -1000) = false := by simp [c1]
        by_cases c2 : 1000 < x
        · have HR := Lib.hid (HYes.out x (List.mem_of_getElem? hx) (.inr c2))
          have c2d : decide (1000 < x) = true := by simp [c2]
          clear hx
          go_wp2
          rw [HR.out]
          go_ret
          exact ⟨rfl, rfl⟩
        · have c2d : decide (1000 < x) = false := by simp [c2]
          have HG2 := Lib.hid (show ∀ j y, j < k + 1 → ls[j]? = some y → -1000 ≤ y ∧ y ≤ 1000 from fun j y hj hy => by
            by_cases e : j < k
            · exact HG.out j y e hy
            · obtain rfl : j = k := by omega
              rw [hx] at hy
              cases hy
              omega)
          clear hx HG
          go_wp2
          go_round
          case rel => exact ⟨k + 1, by omega, by simp, HG2⟩
          case measure => simp [intOf] <;> omega
    · obtain rfl : n = k := by omega
      have hki : ¬ ((n : Nat) : Int) < (n : Int) := by omega
      have HR := Lib.hid (HNo.out HG.out)
      clear HG
      go_wp2
      rw [HR.out]
      go_ret
      exact ⟨rfl, rfl⟩
/-- The integers as complex numbers, with zeros behind them. -/
def numF (ls : List Int) (i : Nat) : Nat × Nat := (fl (ls.getD i 0), 0)
def numD (ls : List Int) (n : Nat) : List (Nat × Nat) := fillQ (numF ls) zeroC n ls.length
theorem dnumbers_any (ls : List Int) (n : Nat) (hl : ls.length ≤ n) (hn : n ≤ 256) (v : Value) (w : World) (hV : Iv w v ls) :
    Calls Tryd.prog 23 #[v, .int .i64 (n : Int)] w fun r w' => MadeC w r w' n (numD ls n) := by
  obtain ⟨a, cap, rfl, _⟩ := hV.open
  obtain ⟨m, hm⟩ : ∃ m, m = ls.length := ⟨_, rfl⟩
  unfold numD
  rw [← hm] at hV hl ⊢
  have HV := Lib.hid hV
  have HM := Lib.hid hm
  have hmk := run_make_com n (by omega)
  obtain ⟨W1, hW1⟩ : ∃ W1, W1 = w.alloc (.cells (Array.replicate n (Value.complex .f64 0 0)) 34) := ⟨_, rfl⟩
  obtain ⟨g, hg⟩ : ∃ g, g = w.heap.size := ⟨_, rfl⟩
  have h1 : W1.heap[g]? = some (.cells (cCells (fillQ (numF ls) zeroC n 0)) 34) := by
    rw [fillQ_start, hW1, hg]; exact zeros_new
  have o1 : Off (fun _ => False) w W1 := by rw [hW1]; exact (Off.refl _ w).alloc _
  have HG := Lib.hid h1
  have HO1 := Lib.hid o1
  have HW1 := Lib.hid hW1
  have Hg := Lib.hid hg
  clear h1 o1 hW1 hg hV hm
  go_enter Tryd.func23, Tryd.ntmps23
  go_wp2
  rw [← HW1.out, ← Hg.out]
  clear hmk
  go_loopw [12] (fun i wr => ∃ k : Nat, k ≤ m ∧ i = .int .i64 (k : Int) ∧ wr.heap[g]? = some (.cells (cCells (fillQ (numF ls) zeroC n k)) 34) ∧ Off (fun _ => False) w wr) (fun i _ => m - (intOf i).toNat)
  case atStart => exact ⟨0, Nat.zero_le _, rfl, HG.out, HO1.out⟩
  case round =>
    obtain ⟨k, hk, rfl, hL, hO⟩ := hrel
    by_cases hkm : k < m
    · have hki : (k : Int) < (m : Int) := by omega
      have hkn : k < n := by omega
      have hkni : (k : Int) < (n : Int) := by omega
      have hwk : IntKind.i64.wrap ((k : Int) + 1) = (k : Int) + 1 := by rw [IntKind.wrap_i64]; omega
      obtain ⟨x, b, off, hx, rfl, d1, _, _⟩ := IvAt.at (Iv.off HV.out hO) hkm
      have ex : numF ls k = (floatOfInt .f64 x, 0) := by unfold numF; rw [List.getD_eq_getElem?_getD, hx]; rfl
      have m0 := cell_c hL (fillQ_get (numF ls) zeroC hkn)
      rw [if_neg (Nat.lt_irrefl _)] at m0
      have lt := heap_lt hL
      have fz : wr.frozen? ⟨g, k, none⟩ = false := frozen_of_heap hL k
      have hst := com_store hL k (numF ls k)
      rw [fillQ_set _ _ hkn, ex] at hst
      have hO3 : Off (fun _ => False) w (wr.setCells g k [.complex .f64 (floatOfInt .f64 x) 0]) := hO.trans (setCells_off g _ k wr) (fun j hj e => by have := Hg.out; omega)
      have HST := Lib.hid hst
      have HO3 := Lib.hid hO3
      clear hL hO hst hO3 hx ex
      go_wp2
      go_roundw
      case rel => exact ⟨k + 1, by omega, by simp, HST.out, HO3.out⟩
      case measure => simp [intOf] <;> omega
    · obtain rfl : m = k := by omega
      have hki : ¬ ((m : Nat) : Int) < (m : Int) := by omega
      have HL2 := Lib.hid hL
      have HO2 := Lib.hid hO
      clear hL hO
      go_wp2
      go_ret
      exact ⟨g, rfl, Nat.le_of_eq Hg.out.symm, HL2.out, HO2.out⟩
end Go.Proofs.YtghacjhempmejaaDoor
