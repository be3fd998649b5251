/-
  A contract of the reference's Choose over this seat's translation: it computes the same word as the bit operations do. Conditions: the arguments are words.
-/
import Derived.Test.YtcjeodjhdhelnaaMaskMore
namespace Go.Proofs.Ytcjeodjhdhelnaa
open Go.RowKit

/-- The first k bits of the chosen word. -/
def chosen (m a b : Nat) : Nat → Nat
  | 0 => 0
  | k + 1 => chosen m a b k + (if (if m / 2 ^ k % 2 = 1 then a else b) / 2 ^ k % 2 = 1 then 2 ^ k else 0)
theorem chosen_lt (m a b : Nat) : ∀ k, chosen m a b k < 2 ^ k := by
  intro k
  induction k with
  | zero => simp [chosen]
  | succ k ih =>
    have h : ∀ (c : Prop) [Decidable c], (if c then 2 ^ k else 0) ≤ 2 ^ k := fun c _ => by split <;> omega
    have := h ((if m / 2 ^ k % 2 = 1 then a else b) / 2 ^ k % 2 = 1)
    rw [Nat.pow_succ]; unfold chosen; omega
theorem chosen_eq (m a b : Nat) : ∀ k, chosen m a b k = ((m &&& a) ||| (18446744073709551615 ^^^ m) &&& b) % 2 ^ k ∨ 64 < k := by
  intro k
  induction k with
  | zero => left; simp [chosen, Nat.mod_one]
  | succ k ih =>
    by_cases hk : 64 < k + 1
    · exact .inr hk
    · left
      rcases ih with ih | ih
      · have hs : ∀ n : Nat, n % 2 ^ (k + 1) = n % 2 ^ k + (if n.testBit k then 2 ^ k else 0) := by
          intro n
          rw [Nat.testBit_eq_decide_div_mod_eq, Nat.mod_pow_succ]
          have := Nat.mod_two_eq_zero_or_one (n / 2 ^ k)
          rcases this with h | h <;> simp [h]
        rw [hs, chosen, ih]
        congr 1
        have hb : ((m &&& a) ||| (18446744073709551615 ^^^ m) &&& b).testBit k = (if m.testBit k then a else b).testBit k := by
          have f : 18446744073709551615 = 2 ^ 64 - (0 + 1) := by decide
          rw [Nat.testBit_or, Nat.testBit_and, Nat.testBit_and, Nat.testBit_xor, f, Nat.testBit_two_pow_sub_succ (by decide)]
          have : k < 64 := by omega
          cases hm : m.testBit k <;> simp [this]
        rw [hb]
        simp only [Nat.testBit_eq_decide_div_mod_eq, decide_eq_true_eq]
      · omega
theorem chosen_all {m a b : Nat} (hm : m < 18446744073709551616) : chosen m a b 64 = ((m &&& a) ||| (18446744073709551615 ^^^ m) &&& b) := by
  rcases chosen_eq m a b 64 with h | h
  · rw [h, Nat.mod_eq_of_lt]
    exact or_lt (and_lt hm) (and_lt (xor_lt (by decide) hm))
  · omega

/-- The unit of round k: 2^k below 64, and 0 behind it (the last doubling wraps). -/
def unitV (k : Nat) : Int := ((2 ^ k % 18446744073709551616 : Nat) : Int)
theorem unitV_succ (k : Nat) : IntKind.u64.wrap (unitV k * 2) = unitV (k + 1) := by
  rw [IntKind.wrap_u64]; unfold unitV; rw [Nat.pow_succ]; omega
theorem unitV_pos {k : Nat} (h : k < 64) : unitV k = ((2 ^ k : Nat) : Int) ∧ 0 < (2 ^ k : Nat) ∧ (2 ^ k : Nat) < 18446744073709551616 := by
  have h1 : (2 ^ k : Nat) < 2 ^ 64 := Nat.pow_lt_pow_right (by decide) h
  have h2 : (2 ^ k : Nat) < 18446744073709551616 := by simpa using h1
  refine ⟨?_, Nat.pow_pos (by decide), h2⟩
  unfold unitV
  rw [Nat.mod_eq_of_lt h2]
theorem unit_bit {k : Nat} (h : k < 64) (n : Nat) : ((n : Int) / unitV k % 2 == 1) = decide (n / 2 ^ k % 2 = 1) := by
  obtain ⟨e, _, _⟩ := unitV_pos h
  rw [e]
  have e2 : ((n : Int) / ((2 ^ k : Nat) : Int) % 2) = ((n / 2 ^ k % 2 : Nat) : Int) := by simp
  rw [e2, Bool.eq_iff_iff]
  simp only [beq_iff_eq, decide_eq_true_eq]
  omega
theorem chosen_step {m a b k n : Nat} (h : n = chosen m a b k + (if (if m / 2 ^ k % 2 = 1 then a else b) / 2 ^ k % 2 = 1 then 2 ^ k else 0)) : chosen m a b (k + 1) = n := by rw [h]; rfl

set_option maxHeartbeats 1000000 in
theorem refchoose_nat (m a b : Nat) (hm : m < 18446744073709551616) (ha : a < 18446744073709551616) (hb : b < 18446744073709551616) (w : World) :
    Calls Try.prog 19 #[.int .u64 (m : Int), .int .u64 (a : Int), .int .u64 (b : Int)] w fun e w' => e = .returned (.int .u64 (chosen m a b 64 : Nat)) ∧ w = w' := by
  go_enter Try.func19, Try.ntmps19
  go_wp2
  go_loop [7, 8, 9] (fun o u i => ∃ k : Nat, k ≤ 64 ∧ i = .int .i64 k ∧ o = .int .u64 (chosen m a b k : Nat) ∧ u = .int .u64 (unitV k)) (fun _ _ i => 64 - (intOf i).toNat)
  case atStart => exact ⟨0, Nat.zero_le _, rfl, rfl, rfl⟩
  case round =>
    obtain ⟨k, hk, rfl, rfl, rfl⟩ := hrel
    by_cases hlt : k < 64
    · have hu1 := unitV_pos hlt
      have hu : 1 ≤ unitV k := by omega
      have hu2 : unitV k ≤ 9223372036854775808 := by
        have : (2 ^ k : Nat) ≤ 2 ^ 63 := Nat.pow_le_pow_right (by decide) (by omega)
        have h3 : (2 ^ k : Nat) ≤ 9223372036854775808 := by simpa using this
        omega
      have hcl := chosen_lt m a b k
      have hsum : (chosen m a b k : Int) + unitV k ≤ 18446744073709551615 := by omega
      have HU := Lib.hid (unitV_succ k)
      have HE := Lib.hid hu1.1
      have hq : ∀ n : Nat, n < 18446744073709551616 → 0 ≤ (n : Int) / unitV k ∧ (n : Int) / unitV k ≤ 18446744073709551615 := fun n hn =>
        ⟨Int.ediv_nonneg (by omega) (by omega), Int.le_trans (Int.ediv_le_self _ (by omega)) (by omega)⟩
      have hqm := hq m hm
      have hqa := hq a ha
      have hqb := hq b hb
      obtain ⟨qm0, qm1⟩ := hqm
      obtain ⟨qa0, qa1⟩ := hqa
      obtain ⟨qb0, qb1⟩ := hqb
      clear hu1 hcl hq
      by_cases hmk : m / 2 ^ k % 2 = 1
      · have t1 : ((m : Int) / unitV k % 2 == 1) = true := by rw [unit_bit hlt]; simpa using hmk
        by_cases hx : a / 2 ^ k % 2 = 1
        · have t2 : ((a : Int) / unitV k % 2 == 1) = true := by rw [unit_bit hlt]; simpa using hx
          have HX := Lib.hid (chosen_step (m := m) (a := a) (b := b) (k := k) (n := chosen m a b k + 2 ^ k) (by rw [if_pos hmk, if_pos hx]))
          clear hmk hx
          go_wp2
          go_round
          case rel => exact ⟨k + 1, by omega, by go_num, by rw [HX.out, HE.out, Int.natCast_add], by rw [HU.out]⟩
          case measure => simp [intOf]; omega
        · have t2 : ((a : Int) / unitV k % 2 == 1) = false := by rw [unit_bit hlt]; simpa using hx
          have HX := Lib.hid (chosen_step (m := m) (a := a) (b := b) (k := k) (n := chosen m a b k) (by rw [if_pos hmk, if_neg hx]; rfl))
          clear hmk hx
          go_wp2
          go_round
          case rel => exact ⟨k + 1, by omega, by go_num, by rw [HX.out], by rw [HU.out]⟩
          case measure => simp [intOf]; omega
      · have t1 : ((m : Int) / unitV k % 2 == 1) = false := by rw [unit_bit hlt]; simpa using hmk
        by_cases hx : b / 2 ^ k % 2 = 1
        · have t2 : ((b : Int) / unitV k % 2 == 1) = true := by rw [unit_bit hlt]; simpa using hx
          have HX := Lib.hid (chosen_step (m := m) (a := a) (b := b) (k := k) (n := chosen m a b k + 2 ^ k) (by rw [if_neg hmk, if_pos hx]))
          clear hmk hx
          go_wp2
          go_round
          case rel => exact ⟨k + 1, by omega, by go_num, by rw [HX.out, HE.out, Int.natCast_add], by rw [HU.out]⟩
          case measure => simp [intOf]; omega
        · have t2 : ((b : Int) / unitV k % 2 == 1) = false := by rw [unit_bit hlt]; simpa using hx
          have HX := Lib.hid (chosen_step (m := m) (a := a) (b := b) (k := k) (n := chosen m a b k) (by rw [if_neg hmk, if_neg hx]; rfl))
          clear hmk hx
          go_wp2
          go_round
          case rel => exact ⟨k + 1, by omega, by go_num, by rw [HX.out], by rw [HU.out]⟩
          case measure => simp [intOf]; omega
    · obtain rfl : k = 64 := by omega
      go_wp2
      go_ret
      exact ⟨rfl, rfl⟩

theorem refchoose_any (m a b : Int) (hm : Word m) (ha : Word a) (hb : Word b) (w : World) :
    Calls Try.prog 19 #[.int .u64 m, .int .u64 a, .int .u64 b] w fun e w' => e = .returned (.int .u64 (chooseV m a b)) ∧ w = w' := by
  have h := refchoose_nat m.toNat a.toNat b.toNat (word_nat hm) (word_nat ha) (word_nat hb) w
  rw [word_eq hm, word_eq ha, word_eq hb, chosen_all (word_nat hm)] at h
  exact h
end Go.Proofs.Ytcjeodjhdhelnaa
