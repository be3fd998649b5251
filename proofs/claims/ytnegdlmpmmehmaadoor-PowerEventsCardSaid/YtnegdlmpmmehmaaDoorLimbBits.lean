/-
  Contracts of limb.Bits and of the reference's Bit and Bits over this seat's translation: the bits of a number from a position on. Conditions: the number has four words.
-/
import Derived.Test.YtnegdlmpmmehmaaDoorLimbOps
namespace Go.Proofs.YtnegdlmpmmehmaaDoor
open Go.RowKit

/-- The n bits of a from the bit number p on. -/
def bitsV (a : Nat) (p n : Int) : Nat := if p < 0 ∨ n < 0 ∨ 64 < n then 0 else a / 2 ^ p.toNat % 2 ^ n.toNat

theorem wd_bit (a q j : Nat) : (wd a q).testBit j = (decide (j < 64) && a.testBit (64 * q + j)) := by
  have e : (18446744073709551616 : Nat) = 2 ^ 64 := by decide
  unfold wd dg W64
  rw [e, ← Nat.pow_mul, Nat.testBit_mod_two_pow, Nat.testBit_div_two_pow, Nat.add_comm]
theorem wd_top {a : Nat} (ha : a < R256) : wd a 4 = 0 := dg_zero_of_lt ha

theorem mask_ones {n : Nat} (hn : n ≤ 64) : IntKind.u64.wrap (IntKind.u64.wrap (2 ^ n) - 1) = ((2 ^ n - 1 : Nat) : Int) := by
  have hp : 1 ≤ 2 ^ n := Nat.one_le_two_pow
  have he : ((2 : Int) ^ n) = ((2 ^ n : Nat) : Int) := by simp
  have hle : 2 ^ n ≤ 2 ^ 64 := Nat.pow_le_pow_right (by decide) hn
  rw [IntKind.wrap_u64, IntKind.wrap_u64, he]
  generalize 2 ^ n = m at *
  simp only [Nat.reducePow] at hle
  omega
theorem low_high (a q r i : Nat) (hr : r < 64) (hi : i < 64) :
    (wd a q / 2 ^ r ||| wd a (q + 1) * 2 ^ (64 - r) % 2 ^ 64).testBit i = a.testBit (64 * q + r + i) := by
  rw [Nat.testBit_or, Nat.testBit_div_two_pow, wd_bit, Nat.testBit_mod_two_pow, Nat.mul_comm (wd a (q + 1)) (2 ^ (64 - r)), Nat.testBit_two_pow_mul, wd_bit]
  by_cases h : r + i < 64
  · have h1 : ¬ (64 - r ≤ i) := by omega
    have e : 64 * q + (i + r) = 64 * q + r + i := by omega
    simp [h1, e]
    omega
  · have h1 : 64 - r ≤ i := by omega
    have h2 : ¬ (i + r < 64) := by omega
    have h3 : i - (64 - r) < 64 := by omega
    have e : 64 * (q + 1) + (i - (64 - r)) = 64 * q + r + i := by omega
    simp [h1, h2, h3, hi, e]
theorem bits_math (a q r n : Nat) (hr : r < 64) (hn : n ≤ 64) :
    bits .and .u64 (bits .or .u64 ((wd a q : Int) / 2 ^ r) (IntKind.u64.wrap ((wd a (q + 1) : Int) * 2 ^ (64 - r)))) (IntKind.u64.wrap (IntKind.u64.wrap (2 ^ n) - 1)) = ((a / 2 ^ (64 * q + r) % 2 ^ n : Nat) : Int) := by
  rw [mask_ones hn]
  have e1 : (wd a q : Int) / 2 ^ r = ((wd a q / 2 ^ r : Nat) : Int) := by simp
  have e2 : IntKind.u64.wrap ((wd a (q + 1) : Int) * 2 ^ (64 - r)) = ((wd a (q + 1) * 2 ^ (64 - r) % 2 ^ 64 : Nat) : Int) := by
    rw [IntKind.wrap_u64]; simp
  have l1 : wd a q / 2 ^ r < 18446744073709551616 := Nat.lt_of_le_of_lt (Nat.div_le_self _ _) (wd_lt a q)
  have l2 : wd a (q + 1) * 2 ^ (64 - r) % 2 ^ 64 < 18446744073709551616 := Nat.mod_lt _ (by decide)
  have l3 : 2 ^ n - 1 < 18446744073709551616 := by
    have hle : 2 ^ n ≤ 2 ^ 64 := Nat.pow_le_pow_right (by decide) hn
    have e : (2 : Nat) ^ 64 = 18446744073709551616 := by decide
    rw [e] at hle
    have hp : 1 ≤ 2 ^ n := Nat.one_le_two_pow
    generalize 2 ^ n = m at *
    omega
  rw [e1, e2]
  have hL : ∀ L H M : Nat, L < 18446744073709551616 → H < 18446744073709551616 → M < 18446744073709551616 → bits .and .u64 (bits .or .u64 (L : Int) (H : Int)) (M : Int) = (((L ||| H) &&& M : Nat) : Int) := by
    intro L H M h1 h2 h3
    rw [u64_or _ _ (by omega) (by omega) (by omega) (by omega)]
    have l4 := or_lt h1 h2
    simp only [Int.toNat_natCast]
    rw [u64_and _ _ (by omega) (by omega) (by omega) (by omega)]
    simp only [Int.toNat_natCast]
  rw [hL _ _ _ l1 l2 l3]
  congr 1
  rw [Nat.and_two_pow_sub_one_eq_mod]
  apply Nat.eq_of_testBit_eq
  intro i
  rw [Nat.testBit_mod_two_pow, Nat.testBit_mod_two_pow]
  by_cases hi : i < n
  · rw [low_high a q r i hr (by omega), Nat.testBit_div_two_pow, Nat.add_comm i]
  · simp [hi]

/-- The words of a number, with a zero above them. -/
theorem copy_longer (w : World) (a : Nat) (ha : a < R256) : ∃ w1, (Builtin.copy_ #[85, 85] 3 #[.slice (some ⟨w.heap.size + 1, 0, none⟩) 5 5, .slice (some ⟨w.heap.size, 0, none⟩) 4 4]).run Tryd.prog
      ((w.alloc (.cells #[.int .u64 (wd a 0 : Int), .int .u64 (wd a 1 : Int), .int .u64 (wd a 2 : Int), .int .u64 (wd a 3 : Int)] 23)).alloc (.cells #[.int .u64 0, .int .u64 0, .int .u64 0, .int .u64 0, .int .u64 0] 84)).drew = .ok (.int .i64 4) w1 ∧
      (∀ j, j < 5 → w1.cell? ⟨w.heap.size + 1, j, none⟩ = some (.int .u64 (wd a j : Int))) ∧ Off (fun _ => False) w w1 := by
  have h4 := wd_top ha
  have hN : NumAt (w.alloc (.cells #[.int .u64 (wd a 0 : Int), .int .u64 (wd a 1 : Int), .int .u64 (wd a 2 : Int), .int .u64 (wd a 3 : Int)] 23)) w.heap.size a := heap_new' rfl _
  have hN2 : NumAt ((w.alloc (.cells #[.int .u64 (wd a 0 : Int), .int .u64 (wd a 1 : Int), .int .u64 (wd a 2 : Int), .int .u64 (wd a 3 : Int)] 23)).alloc (.cells #[.int .u64 0, .int .u64 0, .int .u64 0, .int .u64 0, .int .u64 0] 84)) w.heap.size a := heap_old' hN _
  have hd : ((w.alloc (.cells #[.int .u64 (wd a 0 : Int), .int .u64 (wd a 1 : Int), .int .u64 (wd a 2 : Int), .int .u64 (wd a 3 : Int)] 23)).alloc (.cells #[.int .u64 0, .int .u64 0, .int .u64 0, .int .u64 0, .int .u64 0] 84)).heap[w.heap.size + 1]? = some (.cells #[.int .u64 0, .int .u64 0, .int .u64 0, .int .u64 0, .int .u64 0] 84 (0, 0)) := heap_new' (by simp) _
  have hO : Off (fun _ => False) w ((w.alloc (.cells #[.int .u64 (wd a 0 : Int), .int .u64 (wd a 1 : Int), .int .u64 (wd a 2 : Int), .int .u64 (wd a 3 : Int)] 23)).alloc (.cells #[.int .u64 0, .int .u64 0, .int .u64 0, .int .u64 0, .int .u64 0] 84)).drew := (((Off.refl _ w).alloc _).alloc _).drew
  generalize ((w.alloc (.cells #[.int .u64 (wd a 0 : Int), .int .u64 (wd a 1 : Int), .int .u64 (wd a 2 : Int), .int .u64 (wd a 3 : Int)] 23)).alloc (.cells #[.int .u64 0, .int .u64 0, .int .u64 0, .int .u64 0, .int .u64 0] 84)) = W at *
  obtain ⟨w1, h1, h2, h3⟩ := copy_head W.drew (w.heap.size + 1) w.heap.size 0 5 5 4 4 84 #[.int .u64 0, .int .u64 0, .int .u64 0, .int .u64 0, .int .u64 0] [.int .u64 (wd a 0 : Int), .int .u64 (wd a 1 : Int), .int .u64 (wd a 2 : Int), .int .u64 (wd a 3 : Int)] hd (fun j v hj => by
    have hl := (List.getElem?_eq_some_iff.1 hj).1
    have : j = 0 ∨ j = 1 ∨ j = 2 ∨ j = 3 := by simp at hl; omega
    rw [Nat.zero_add]
    rcases this with rfl | rfl | rfl | rfl <;> simp at hj <;> subst hj <;> exact hN2.cell _ (by omega)) rfl (by simp) (by simp [Value.oneCell'])
  refine ⟨w1, h1, fun j hj => ?_, hO.trans h3 (fun k hk e => by omega)⟩
  rw [cell_of_heap h2]
  have : j = 0 ∨ j = 1 ∨ j = 2 ∨ j = 3 ∨ j = 4 := by omega
  rcases this with rfl | rfl | rfl | rfl | rfl <;> simp [h4]

set_option maxHeartbeats 1000000 in
theorem bits_in (a q r n : Nat) (ha : a < R256) (hq : q < 4) (hr : r < 64) (hn : n ≤ 64) (w : World) :
    Calls Tryd.prog 31 #[V a, .int .i64 ((64 * q + r : Nat) : Int), .int .i64 (n : Int)] w fun e w' => e = .returned (.int .u64 ((a / 2 ^ (64 * q + r) % 2 ^ n : Nat) : Int)) ∧ Off (fun _ => False) w w' := by
  obtain ⟨p, hp⟩ : ∃ p, p = 64 * q + r := ⟨_, rfl⟩
  rw [← hp]
  have t1 : decide ((p : Int) < 0) = false := by simp <;> omega
  have t2 : decide ((256 : Int) ≤ (p : Int)) = false := by simp; omega
  have t3 : decide ((n : Int) < 0) = false := by simp <;> omega
  have t4 : decide ((64 : Int) < (n : Int)) = false := by simp; omega
  have p1 : (p : Int) % 64 = (r : Int) := by omega
  have p2 : (p : Int) / 64 = (q : Int) := by omega
  have p3 : IntKind.i64.wrap ((q : Int) + 1) = ((q + 1 : Nat) : Int) := by rw [IntWalk.i64_in _ (by omega)]; omega
  have p4 : IntKind.i64.wrap (64 - (r : Int)) = ((64 - r : Nat) : Int) := by rw [IntWalk.i64_in _ (by omega)]; omega
  obtain ⟨w1, hc, hF, hO⟩ := copy_longer w a ha
  have c1 := hF q (by omega)
  have c2 := hF (q + 1) (by omega)
  obtain ⟨s, hs⟩ : ∃ s, s = q + 1 := ⟨_, rfl⟩
  obtain ⟨z, hz⟩ : ∃ z, z = 64 - r := ⟨_, rfl⟩
  obtain ⟨x, hx⟩ : ∃ x, x = wd a q := ⟨_, rfl⟩
  obtain ⟨y, hy⟩ : ∃ y, y = wd a s := ⟨_, rfl⟩
  rw [← hs] at c2 p3
  rw [← hz] at p4
  rw [← hx] at c1
  rw [← hy] at c2
  have q1 : (q : Int) < 5 := by omega
  have s1 : (s : Int) < 5 := by omega
  have z1 : (z : Int) ≤ 64 := by omega
  have HP := Lib.hid hp
  have HS := Lib.hid hs
  have HZ := Lib.hid hz
  have HX := Lib.hid hx
  have HY := Lib.hid hy
  have HA := Lib.hid ha
  have HO := Lib.hid hO
  clear hp ha hs hz hx hy hO hF
  go_enter Tryd.func31, Tryd.ntmps31
  go_wp2
  go_region
  go_wp2
  go_ret
  exact ⟨by rw [HX.out, HY.out, HZ.out, HS.out, HP.out, bits_math a q r n hr hn]; rfl, HO.out⟩
theorem div_big {a p : Nat} (ha : a < R256) (hp : 256 ≤ p) : a / 2 ^ p = 0 := by
  have e : R256 = 2 ^ 256 := by decide
  exact Nat.div_eq_of_lt (Nat.lt_of_lt_of_le (by rw [← e]; exact ha) (Nat.pow_le_pow_right (by decide) hp))
theorem bitsV_in {a p n : Nat} (hn : n ≤ 64) : bitsV a (p : Int) (n : Int) = a / 2 ^ p % 2 ^ n := by
  unfold bitsV; rw [if_neg (by omega)]; simp
theorem bitsV_out {a : Nat} {p n : Int} (h : p < 0 ∨ n < 0 ∨ 64 < n) : bitsV a p n = 0 := by unfold bitsV; rw [if_pos h]
theorem bitsV_big {a : Nat} (ha : a < R256) {p n : Int} (hp : 256 ≤ p) : bitsV a p n = 0 := by
  unfold bitsV; split
  · rfl
  · rw [div_big ha (by omega), Nat.zero_mod]

set_option maxHeartbeats 1000000 in
theorem bits_zero (a : Nat) (p n : Int) (h : p < 0 ∨ 256 ≤ p ∨ n < 0 ∨ 64 < n) (w : World) :
    Calls Tryd.prog 31 #[V a, .int .i64 p, .int .i64 n] w fun e w' => e = .returned (.int .u64 0) ∧ Off (fun _ => False) w w' := by
  by_cases h1 : p < 0
  · have t1 : decide (p < 0) = true := by simpa using h1
    clear h
    go_enter Tryd.func31, Tryd.ntmps31
    go_wp2
    go_ret
    exact ⟨rfl, (Off.refl _ w).alloc _⟩
  · have t1 : decide (p < 0) = false := by simpa using h1
    by_cases h2 : 256 ≤ p
    · have t2 : decide (256 ≤ p) = true := by simpa using h2
      clear h
      go_enter Tryd.func31, Tryd.ntmps31
      go_wp2
      go_ret
      exact ⟨rfl, (Off.refl _ w).alloc _⟩
    · have t2 : decide (256 ≤ p) = false := by simpa using h2
      by_cases h3 : n < 0
      · have t3 : decide (n < 0) = true := by simpa using h3
        clear h
        go_enter Tryd.func31, Tryd.ntmps31
        go_wp2
        go_ret
        exact ⟨rfl, (Off.refl _ w).alloc _⟩
      · have t3 : decide (n < 0) = false := by simpa using h3
        have t4 : decide (64 < n) = true := by simp; omega
        clear h
        go_enter Tryd.func31, Tryd.ntmps31
        go_wp2
        go_ret
        exact ⟨rfl, (Off.refl _ w).alloc _⟩

theorem bits_any (a : Nat) (ha : a < R256) (p n : Int) (w : World) :
    Calls Tryd.prog 31 #[V a, .int .i64 p, .int .i64 n] w fun e w' => e = .returned (.int .u64 (bitsV a p n : Int)) ∧ Off (fun _ => False) w w' := by
  by_cases h : p < 0 ∨ n < 0 ∨ 64 < n
  · rw [bitsV_out h]; exact bits_zero a p n (by omega) w
  · by_cases h2 : 256 ≤ p
    · rw [bitsV_big ha h2]; exact bits_zero a p n (by omega) w
    · obtain ⟨p, rfl⟩ := Int.eq_ofNat_of_zero_le (show 0 ≤ p by omega)
      obtain ⟨n, rfl⟩ := Int.eq_ofNat_of_zero_le (show 0 ≤ n by omega)
      rw [bitsV_in (by omega)]
      have := bits_in a (p / 64) (p % 64) n ha (by omega) (by omega) (by omega) w
      rw [show 64 * (p / 64) + p % 64 = p by omega] at this
      exact this
/-- The bit with the index i of a. -/
def bitV (a i : Nat) : Nat := a / 2 ^ i % 2
theorem bit_wd (a q r : Nat) (hr : r < 64) : wd a q / 2 ^ r % 2 = bitV a (64 * q + r) := by
  have h := wd_bit a q r
  rw [Nat.testBit_eq_decide_div_mod_eq, Nat.testBit_eq_decide_div_mod_eq] at h
  unfold bitV
  generalize wd a q / 2 ^ r = x at *
  generalize a / 2 ^ (64 * q + r) = y at *
  have h2 : decide (r < 64) = true := by simpa using hr
  rw [h2, Bool.true_and, decide_eq_decide] at h
  omega
theorem half_pow (x k : Nat) : x / 2 ^ k / 2 = x / 2 ^ (k + 1) := by rw [Nat.pow_succ, Nat.div_div_eq_div_mul]

set_option maxHeartbeats 1000000 in
theorem refbit_any (a i : Nat) (ha : a < R256) (hi : i ≤ 1000) (w : World) :
    Calls Tryd.prog 35 #[V a, .int .i64 (i : Int)] w fun e w' => e = .returned (.int .u64 (bitV a i : Int)) ∧ Off (fun _ => False) w w' := by
  by_cases hb : 255 < i
  · have t1 : decide ((255 : Int) < (i : Int)) = true := by simp; omega
    have e : bitV a i = 0 := by unfold bitV; rw [div_big ha (by omega)]
    rw [e]
    clear ha e
    go_enter Tryd.func35, Tryd.ntmps35
    go_wp2
    go_ret
    exact ⟨rfl, (Off.refl _ w).alloc _⟩
  · have t1 : decide ((255 : Int) < (i : Int)) = false := by simp; omega
    obtain ⟨q, hq⟩ : ∃ q, q = i / 64 := ⟨_, rfl⟩
    obtain ⟨r, hr⟩ : ∃ r, r = i % 64 := ⟨_, rfl⟩
    have q0 : (i : Int) / 64 = (q : Int) := by omega
    have q1 : (q : Int) < 4 := by omega
    have hN : NumAt (w.alloc (.cells #[.int .u64 (wd a 0 : Int), .int .u64 (wd a 1 : Int), .int .u64 (wd a 2 : Int), .int .u64 (wd a 3 : Int)] 23)) w.heap.size a := heap_new' rfl _
    have hc := hN.cell q (by omega)
    have r0 : (i : Int) % 64 = (r : Int) := by omega
    have HE := Lib.hid (show wd a q / 2 ^ r % 2 = bitV a i by rw [bit_wd a q r (by omega)]; congr 1; omega)
    have hw := wd_lt a q
    obtain ⟨x, hx⟩ : ∃ x, x = wd a q := ⟨_, rfl⟩
    rw [← hx] at HE hc hw
    have hr2 : r < 64 := by omega
    clear hN hq hr ha hx
    go_enter Tryd.func35, Tryd.ntmps35
    go_wp2
    go_loop [5, 6] (fun v k => ∃ j : Nat, j ≤ r ∧ k = .int .i64 j ∧ v = .int .u64 ((x / 2 ^ j : Nat) : Int)) (fun _ k => r - (intOf k).toNat)
    case atStart => exact ⟨0, by omega, rfl, by simp⟩
    case round =>
      obtain ⟨j, hj, rfl, rfl⟩ := hrel
      have HH := Lib.hid (half_pow x j)
      have hle : x / 2 ^ j ≤ x := Nat.div_le_self _ _
      obtain ⟨y, hy⟩ : ∃ y, y = x / 2 ^ j := ⟨_, rfl⟩
      rw [← hy] at HH hle ⊢
      by_cases hlt : j < r
      · have j1 : (j : Int) < (r : Int) := by omega
        clear hy
        go_wp2
        go_round
        case rel => exact ⟨j + 1, by omega, by go_num, by rw [← HH.out]; rfl⟩
        case measure => simp [intOf]; omega
      · obtain rfl : j = r := by omega
        have HY := Lib.hid hy
        have j1 : ¬ (j : Int) < (j : Int) := by omega
        clear hy
        go_wp2
        go_ret
        exact ⟨by rw [← HE.out, ← HY.out]; rfl, (Off.refl _ w).alloc _⟩
theorem bits_step (a s k : Nat) : a / 2 ^ s % 2 ^ (k + 1) = a / 2 ^ (s + 1) % 2 ^ k * 2 + bitV a s := by
  unfold bitV
  rw [← half_pow, Nat.pow_succ, Nat.mul_comm (2 ^ k) 2, Nat.mod_mul]
  omega
/-- The bits of the reference's loop behind k rounds. -/
def someBits (a p n k : Nat) : Nat := a / 2 ^ (p + (n - k)) % 2 ^ k
theorem someBits_zero (a p n : Nat) : someBits a p n 0 = 0 := by unfold someBits; simp [Nat.mod_one]
theorem someBits_full (a p n : Nat) : someBits a p n n = a / 2 ^ p % 2 ^ n := by unfold someBits; simp
theorem someBits_succ (a p n k : Nat) (hk : k < n) : someBits a p n (k + 1) = someBits a p n k * 2 + bitV a (p + (n - (k + 1))) := by
  unfold someBits
  rw [bits_step, show p + (n - (k + 1)) + 1 = p + (n - k) by omega]
theorem someBits_lt (a p n k : Nat) (hk : k < 64) : someBits a p n k < 9223372036854775808 := by
  have h1 : someBits a p n k < 2 ^ k := Nat.mod_lt _ (Nat.pow_pos (by decide))
  have h2 : 2 ^ k ≤ 2 ^ 63 := Nat.pow_le_pow_right (by decide) (by omega)
  have h3 : (2 : Nat) ^ 63 = 9223372036854775808 := by decide
  omega
theorem someBits_big {a p : Nat} (ha : a < R256) (hp : 256 ≤ p) (n k : Nat) : someBits a p n k = 0 := by
  unfold someBits; rw [div_big ha (by omega), Nat.zero_mod]

end Go.Proofs.YtnegdlmpmmehmaaDoor
