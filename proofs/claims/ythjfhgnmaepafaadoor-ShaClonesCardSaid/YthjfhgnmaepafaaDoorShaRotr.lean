/-
  Contracts of the reference's rotr, shr and isPrime over this seat's translation. Conditions: the words are words, the counts at most 32, the number at most 100000.
-/
import Derived.Test.YthjfhgnmaepafaaDoorShaRootN
import Derived.Test.YthjfhgnmaepafaaDoorOff
namespace Go.Proofs.YthjfhgnmaepafaaDoor
open Go.RowKit
set_option maxRecDepth 100000
set_option maxHeartbeats 4000000
/-- A word of 32 bits as a value. -/
abbrev u32v (n : Nat) : Value := .int .u32 (n : Int)
theorem rotr_any (x n : Nat) (hx : x < 4294967296) (hn : n ≤ 32) (w : World) :
    Calls Tryd.prog 27 #[u32v x, .int .i64 (n : Int)] w fun e w' => e = .returned (u32v (ror x n)) ∧ w = w' := by
  have HX := Lib.hid hx
  clear hx
  go_enter Tryd.func27, Tryd.ntmps27
  go_wp2
  go_loop [0, 5] (fun y i => ∃ k : Nat, k ≤ n ∧ y = .int .u32 ((ror x k : Nat) : Int) ∧ i = .int .i64 (k : Int)) (fun _ i => n - (intOf i).toNat)
  case atStart => exact ⟨0, Nat.zero_le _, by rw [ror_zero], rfl⟩
  case round =>
    obtain ⟨k, hk, rfl, rfl⟩ := hrel
    by_cases hlt : k < n
    · have i1 : decide ((k : Int) < (n : Int)) = true := by simp; omega
      have HS := Lib.hid (ror_succ (x := x) (n := k) (by omega))
      have HL := Lib.hid (ror_lt (x := x) (n := k) HX.out (by omega))
      obtain ⟨r, hr⟩ : ∃ r, r = ror x k := ⟨_, rfl⟩
      rw [← hr] at HS HL ⊢
      have HR := Lib.hid hr
      clear hr
      go_wp2
      go_round
      case rel =>
        refine ⟨k + 1, by omega, ?_, by simp [go_sem] <;> omega⟩
        have h1 := HS.out
        have h2 := HL.out
        have h3 : ror x (k + 1) < 4294967296 := ror_lt HX.out (by omega)
        rw [← h1] at h3 ⊢
        clear HX HS HL HR
        simp [go_sem] <;> omega
      case measure => simp [intOf] <;> omega
    · obtain rfl : k = n := by omega
      have i1 : decide ((k : Int) < (k : Int)) = false := by simp
      go_wp2
      go_ret
      exact ⟨rfl, rfl⟩
theorem shr_any (x n : Nat) (hx : x < 4294967296) (hn : n ≤ 32) (w : World) :
    Calls Tryd.prog 28 #[u32v x, .int .i64 (n : Int)] w fun e w' => e = .returned (u32v (shrN x n)) ∧ w = w' := by
  have HX := Lib.hid hx
  clear hx
  go_enter Tryd.func28, Tryd.ntmps28
  go_wp2
  go_loop [0, 5] (fun y i => ∃ k : Nat, k ≤ n ∧ y = .int .u32 ((shrN x k : Nat) : Int) ∧ i = .int .i64 (k : Int)) (fun _ i => n - (intOf i).toNat)
  case atStart => exact ⟨0, Nat.zero_le _, by rw [shrN_zero], rfl⟩
  case round =>
    obtain ⟨k, hk, rfl, rfl⟩ := hrel
    by_cases hlt : k < n
    · have i1 : decide ((k : Int) < (n : Int)) = true := by simp; omega
      have HS := Lib.hid (shrN_succ x k)
      have HL := Lib.hid (ws_lt32 HX.out k)
      obtain ⟨r, hr⟩ : ∃ r, r = shrN x k := ⟨_, rfl⟩
      rw [← hr] at HS HL ⊢
      clear hr
      go_wp2
      go_round
      case rel =>
        refine ⟨k + 1, by omega, ?_, by simp [go_sem] <;> omega⟩
        have h1 := HS.out
        have h2 := HL.out
        rw [← h1]
        clear HX HS HL
        simp [go_sem] <;> omega
      case measure => simp [intOf] <;> omega
    · obtain rfl : k = n := by omega
      have i1 : decide ((k : Int) < (k : Int)) = false := by simp
      go_wp2
      go_ret
      exact ⟨rfl, rfl⟩
/-- What is left of the test of n by the divisors from d on. -/
theorem isPf_mul {n d : Nat} (h : n < d * d) (f : Nat) : isPf n f d = true := by
  cases f with
  | zero => rfl
  | succ f => unfold isPf; rw [if_pos h]
theorem isprime_any (n : Nat) (hn : n ≤ 100000) (w : World) :
    Calls Tryd.prog 25 #[.int .u64 (n : Int)] w fun e w' => e = .returned (.bool (isPr n)) ∧ w = w' := by
  obtain ⟨R, hR⟩ : ∃ R, R = isPr n := ⟨_, rfl⟩
  rw [← hR]
  have HR := Lib.hid hR
  clear hR
  go_enter Tryd.func25, Tryd.ntmps25
  go_wp2
  go_loop [3] (fun i => ∃ d f : Nat, d + f = n + 2 ∧ 2 ≤ d ∧ i = .int .u64 (d : Int) ∧ Hid (R = (decide (2 ≤ n) && isPf n f d))) (fun i => n + 2 - (intOf i).toNat)
  case atStart => exact ⟨2, n, by omega, by omega, rfl, HR⟩
  case round =>
    obtain ⟨d, f, hdf, hd2, rfl, HI⟩ := hrel
    have hdm : d * d < 18446744073709551616 := Nat.lt_of_le_of_lt (Nat.mul_le_mul (show d ≤ 100002 by omega) (show d ≤ 100002 by omega)) (by decide)
    obtain ⟨q, hq⟩ : ∃ q, q = d * d := ⟨_, rfl⟩
    have hqi : (d : Int) * (d : Int) = (q : Int) := by rw [hq]; simp
    have hqw : IntKind.u64.wrap (q : Int) = (q : Int) := by rw [IntKind.wrap_u64]; omega
    by_cases hlt : q ≤ n
    · obtain ⟨f', rfl⟩ : ∃ f', f = f' + 1 := by
        rcases f with _ | f'
        · have := Nat.mul_le_mul hd2 (Nat.le_refl d); omega
        · exact ⟨f', rfl⟩
      have i1 : decide ((q : Int) ≤ (n : Int)) = true := by simp; omega
      have hnq : ¬ n < d * d := by omega
      by_cases hm : n % d = 0
      · have HF := Lib.hid (show R = false by rw [HI.out, isPf, if_neg hnq, if_pos hm, Bool.and_false])
        have i2 : ((n : Int) % (d : Int) == 0) = true := by simp; omega
        clear HI HR hdm hq
        go_wp2
        rw [HF.out]
        go_ret
        exact ⟨rfl, rfl⟩
      · have HF := Lib.hid (show R = (decide (2 ≤ n) && isPf n f' (d + 1)) by rw [HI.out, isPf, if_neg hnq, if_neg hm])
        have i2 : ((n : Int) % (d : Int) == 0) = false := by simp; omega
        have i4 : IntKind.u64.wrap ((d : Int) + 1) = (d : Int) + 1 := by rw [IntKind.wrap_u64]; omega
        clear HI HR hdm hq
        go_wp2
        go_round
        case rel => exact ⟨d + 1, f', by omega, by omega, by simp, HF⟩
        case measure => simp [intOf] <;> omega
    · have HF := Lib.hid (show R = decide (2 ≤ n) by rw [HI.out, isPf_mul (by omega), Bool.and_true])
      have i1 : decide ((q : Int) ≤ (n : Int)) = false := by simp; omega
      clear HI HR hq hdm
      go_wp2
      rw [HF.out]
      go_ret
      exact ⟨congrArg (fun b => Ending.returned (Value.bool b)) (decide_eq_decide.2 (show (2 : Int) ≤ (n : Int) ↔ 2 ≤ n by omega)), rfl⟩
end Go.Proofs.YthjfhgnmaepafaaDoor
