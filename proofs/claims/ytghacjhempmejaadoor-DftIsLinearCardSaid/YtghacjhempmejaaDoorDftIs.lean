/-
  The reference's Is: whether a number is a power of two from 1 to 256. No condition.
-/
import Derived.Test.YtghacjhempmejaaDoorOff
namespace Go.Proofs.YtghacjhempmejaaDoor
open Go.RowKit
/-- The powers of two. -/
def pw (j : Nat) : Nat := 2 ^ j
theorem pw_next (j : Nat) : pw (j + 1) = pw j * 2 := Nat.pow_succ ..
/-- Whether n is a power of two from 1 to 256. -/
def isP (n : Int) : Bool := (List.range 9).any (fun j => n == ((pw j : Nat) : Int))
theorem isP_of {n : Int} {j : Nat} (hj : j < 9) (h : n = ((pw j : Nat) : Int)) : isP n = true := by
  unfold isP
  rw [List.any_eq_true]
  exact ⟨j, List.mem_range.2 hj, by rw [h]; exact beq_self_eq_true _⟩
theorem isP_not {n : Int} (h : ∀ j, j < 9 → n ≠ ((pw j : Nat) : Int)) : isP n = false := by
  unfold isP
  rw [Bool.eq_false_iff]
  intro c
  rw [List.any_eq_true] at c
  obtain ⟨j, hj, e⟩ := c
  exact h j (List.mem_range.1 hj) (by simpa using e)
theorem isP_some {n : Int} (h : isP n = true) : ∃ j, j < 9 ∧ n = ((pw j : Nat) : Int) := by
  unfold isP at h
  rw [List.any_eq_true] at h
  obtain ⟨j, hj, e⟩ := h
  exact ⟨j, List.mem_range.1 hj, by simpa using e⟩
set_option maxRecDepth 100000 in
set_option maxHeartbeats 4000000 in
theorem refis_any (n : Int) (w : World) :
    Calls Tryd.prog 14 #[.int .i64 n] w fun e w' => e = .returned (.bool (isP n)) ∧ w = w' := by
  obtain ⟨R, hR⟩ : ∃ R, R = isP n := ⟨_, rfl⟩
  rw [← hR]
  have HR := Lib.hid hR
  clear hR
  go_enter Tryd.func14, Tryd.ntmps14
  go_wp2
  go_loop [3] (fun i => ∃ j : Nat, j ≤ 9 ∧ i = .int .i64 ((pw j : Nat) : Int) ∧ Hid (∀ t, t < j → n ≠ ((pw t : Nat) : Int))) (fun i => 512 - (intOf i).toNat)
  case atStart => exact ⟨0, by omega, rfl, Lib.hid (fun t h => by omega)⟩
  case round =>
    obtain ⟨j, hj, rfl, HG⟩ := hrel
    have hpow : 0 < pw j := Nat.two_pow_pos j
    by_cases h9 : j = 9
    · subst h9
      have hlt : ¬ (((pw 9 : Nat) : Int)) ≤ 256 := by decide
      have HI := Lib.hid (show R = false from HR.out.trans (isP_not (fun t ht => HG.out t ht)))
      clear HG hpow
      go_wp2
      rw [HI.out]
      go_ret
      exact ⟨rfl, rfl⟩
    · have hle : pw j ≤ 256 := Nat.pow_le_pow_right (n := 2) (i := j) (j := 8) (by omega) (by omega)
      have hj9 : j < 9 := by omega
      have HP := Lib.hid (pw_next j)
      have HE := Lib.hid (show ∀ u, u = pw j → n = (u : Int) → R = true from fun u hu h => HR.out.trans (isP_of hj9 (by rw [h, hu])))
      have HG2 := Lib.hid (show ∀ u, u = pw j → n ≠ (u : Int) → ∀ t, t < j + 1 → n ≠ ((pw t : Nat) : Int) from fun u hu h t ht => by
        by_cases h2 : t < j
        · exact HG.out t h2
        · obtain rfl : t = j := by omega
          rw [← hu]; exact h)
      obtain ⟨u, hu⟩ : ∃ u, u = pw j := ⟨_, rfl⟩
      rw [← hu] at hpow hle HP ⊢
      have Hu := Lib.hid hu
      have hlt : (u : Int) ≤ 256 := by omega
      have hw : IntKind.i64.wrap ((u : Int) * 2) = (u : Int) * 2 := by rw [IntKind.wrap_i64]; omega
      clear hu HG
      by_cases hn : n = (u : Int)
      · have HI := Lib.hid (HE.out u Hu.out hn)
        subst hn
        go_wp2
        rw [HI.out]
        go_ret
        exact ⟨rfl, rfl⟩
      · have hnb : (n == (u : Int)) = false := by simp [hn]
        have hnd : decide (n = (u : Int)) = false := by simp [hn]
        go_wp2
        go_round
        case rel => exact ⟨j + 1, by omega, by rw [HP.out]; simp, Lib.hid (HG2.out u Hu.out hn)⟩
        case measure => simp [intOf] <;> omega
end Go.Proofs.YtghacjhempmejaaDoor
