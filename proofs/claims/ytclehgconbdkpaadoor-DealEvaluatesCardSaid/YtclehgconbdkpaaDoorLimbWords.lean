/-
  Contracts of the reference's Digits and Vec over this seat's translation: the digits of 16 bits of a number of four words, and the number of sixteen digits. Conditions: as each says.
  Contracts of the reference's Add, Sub and Less over this seat's translation: the number of the sum and of the difference, and the carry. Conditions: the arguments are numbers of four words.
  Contracts of limb.IsZero, limb.Equal, limb.Less, limb.Choose and the reference's Less over this seat's translation: the masks of their conditions, and one of two numbers. Conditions: the arguments are numbers of four words.
  Contracts of limb.Bits and of the reference's Bit and Bits over this seat's translation: the bits of a number from a position on. Conditions: the number has four words.
  Two numbers of four words as '==' compares them, and some numbers written out. Conditions: as each says.
  An argument of four words, opened: it is the value of a number below 2^256. No condition.
-/
import Derived.Test.YtclehgconbdkpaaDoorLimbOps
import Derived.Laws.OwnMore
import Derived.StillTailTactics
import Derived.Laws.AppendOwnNone
import Derived.Deep.QuietTactic
import Derived.BigQuiet
import Derived.Test.YtclehgconbdkpaaDoorMaskBase
import Derived.ChangeKeysEq
import Derived.Laws.IdiomArrays
import Derived.ProofKit
namespace Go.Proofs.YtclehgconbdkpaaDoor
section
open Go.RowKit

/-- The block b holds the words of the first k digits of n. -/
def LowAt (w : World) (b n k : Nat) : Prop := w.heap[b]? = some (.cells #[.int .u64 (lowW n k 0 : Int), .int .u64 (lowW n k 1 : Int), .int .u64 (lowW n k 2 : Int), .int .u64 (lowW n k 3 : Int)] 51 (0, 0))
theorem LowAt.cell {w : World} {b n k : Nat} (h : LowAt w b n k) (i : Nat) (hi : i < 4) : w.cell? ⟨b, i, none⟩ = some (.int .u64 (lowW n k i : Int)) := by
  rw [cell_of_heap h]
  have : i = 0 ∨ i = 1 ∨ i = 2 ∨ i = 3 := by omega
  rcases this with rfl | rfl | rfl | rfl <;> rfl
theorem LowAt.step {w : World} {b n k : Nat} (h : LowAt w b n k) (hk : k < 16) : LowAt (w.setCell ⟨b, k / 4, none⟩ (.int .u64 (lowW n (k + 1) (k / 4) : Int))) b n (k + 1) := by
  have := heap_set h (k / 4) (.int .u64 (lowW n (k + 1) (k / 4) : Int))
  unfold LowAt
  rw [this]
  have e : ∀ i, i < 4 → i ≠ k / 4 → lowW n (k + 1) i = lowW n k i := fun i hi hne => by rw [lowW_succ n k i hk hi, if_neg hne]; rfl
  have : k / 4 = 0 ∨ k / 4 = 1 ∨ k / 4 = 2 ∨ k / 4 = 3 := by omega
  rcases this with h4 | h4 | h4 | h4 <;> rw [h4] at e ⊢
  · simp [e 1 (by omega) (by omega), e 2 (by omega) (by omega), e 3 (by omega) (by omega)]
  · simp [e 0 (by omega) (by omega), e 2 (by omega) (by omega), e 3 (by omega) (by omega)]
  · simp [e 0 (by omega) (by omega), e 1 (by omega) (by omega), e 3 (by omega) (by omega)]
  · simp [e 0 (by omega) (by omega), e 1 (by omega) (by omega), e 2 (by omega) (by omega)]
theorem d16_shift (M fr k : Nat) : d16 (M / 65536 ^ fr) k = d16 M (fr + k) := by
  unfold d16 dg; rw [Nat.div_div_eq_div_mul, ← Nat.pow_add]
end
section
open Go.RowKit
end
section
open Go.RowKit

/-- Whether a number is 0, whether two numbers are equal, whether the first is less. -/
def zeroN (a : Nat) : Bool := decide (a = 0)
def eqN (a b : Nat) : Bool := decide (a = b)
def lessN (a b : Nat) : Bool := decide (a < b)

theorem wd_zero_all {a : Nat} (ha : a < R256) : zeroB [(wd a 0 : Int), (wd a 1 : Int), (wd a 2 : Int), (wd a 3 : Int)] = zeroN a := by
  have h := num4_wd ha
  unfold zeroB zeroN
  rw [Bool.eq_iff_iff]
  simp only [List.all_cons, List.all_nil, Bool.and_true, Bool.and_eq_true, decide_eq_true_eq]
  unfold num4 at h
  constructor
  · rintro ⟨h0, h1, h2, h3⟩
    have e0 : wd a 0 = 0 := by omega
    have e1 : wd a 1 = 0 := by omega
    have e2 : wd a 2 = 0 := by omega
    have e3 : wd a 3 = 0 := by omega
    rw [← h, e0, e1, e2, e3]; simp
  · intro e
    subst e
    refine ⟨?_, ?_, ?_, ?_⟩ <;> simp [wd, dg]
theorem NumAt.words {w : World} {b n : Nat} (h : NumAt w b n) : Words w (.slice (some ⟨b, 0, none⟩) 4 4) [(wd n 0 : Int), (wd n 1 : Int), (wd n 2 : Int), (wd n 3 : Int)] := by
  refine ⟨_, _, rfl, by simp, ?_, fun _ => ⟨_, _, rfl, ?_⟩⟩
  · intro x hx
    simp at hx
    rcases hx with rfl | rfl | rfl | rfl <;> exact wd_word _ _
  · intro j hj
    have : j = 0 ∨ j = 1 ∨ j = 2 ∨ j = 3 := by simp at hj; omega
    rw [Nat.zero_add]
    rcases this with rfl | rfl | rfl | rfl <;> exact h.cell _ (by omega)

theorem zero_sub {a b : Nat} (ha : a < R256) (hb : b < R256) : zeroN (subV a b % R256) = eqN a b := by
  unfold zeroN eqN subV R256 W64 at *
  simp only [Nat.reducePow] at *
  rw [Bool.eq_iff_iff]
  simp only [decide_eq_true_eq]
  omega
theorem odd_ltN (a b : Nat) : oddB (ltN a b : Int) = lessN a b := by
  unfold oddB ltN lessN; by_cases h : a < b <;> simp [h]
theorem ltN_word (a b : Nat) : Word (ltN a b : Int) := by unfold ltN; split <;> exact ⟨by omega, by omega⟩
theorem r256_pos : 0 < R256 := by decide

set_option maxHeartbeats 1000000 in
theorem limb_less (a b : Nat) (ha : a < R256) (hb : b < R256) (w : World) :
    Calls Tryd.prog 102 #[V a, V b] w fun e w' => e = .returned (.int .u64 (mk (lessN a b))) ∧ Off (fun _ => False) w w' := by
  have HZ := Lib.hid (odd_ltN a b)
  have HS := Lib.hid (fun W => sub_any a b ha hb W)
  have hw := ltN_word a b
  obtain ⟨c, hc⟩ : ∃ c, c = ltN a b := ⟨_, rfl⟩
  rw [← hc] at HZ HS hw
  clear ha hb hc
  go_enter Tryd.func102, Tryd.ntmps102
  go_wp2_with fail
  refine (HS.out _).mono ?_
  rintro e w1 ⟨rfl, hO⟩
  have HO := Lib.hid hO
  clear hO
  go_wp2_with fail
  refine (frombit_any _ hw _).mono ?_
  rintro e w2 ⟨rfl, rfl⟩
  go_wp2
  go_ret
  refine ⟨ret_u64 (by rw [HZ.out]), ?_⟩
  exact ((((Off.refl _ w).alloc _).alloc _).trans HO.out (fun _ _ c => c)).alloc _
/-- One of two numbers by the lowest bit of m. -/
def selN (m : Int) (a b : Nat) : Nat := if oddB m then a else b
theorem sel_word (m : Int) (a b k : Nat) : chooseV (mk (oddB m)) (wd a k : Int) (wd b k : Int) = (wd (selN m a b) k : Int) := by
  rw [chooseV_mk _ (wd_word a k) (wd_word b k)]; unfold selN; split <;> rfl
theorem choose_sel (m : Int) (a b k : Nat) (w : World) :
    Calls Tryd.prog 112 #[.int .u64 (mk (oddB m)), .int .u64 (wd a k : Int), .int .u64 (wd b k : Int)] w fun e w' => e = .returned (.int .u64 (wd (selN m a b) k : Int)) ∧ w = w' := by
  rw [← sel_word]; exact choose_any _ _ _ (mk_word _) (wd_word a k) (wd_word b k) w

/-- What the loop of Choose keeps. -/
structure ChooseAt (w wr : World) (a b s k : Nat) : Prop where
  a : NumAt wr w.heap.size a
  b : NumAt wr (w.heap.size + 1) b
  ret : PartAt wr (w.heap.size + 1 + 1) 0 0
  res : PartAt wr (w.heap.size + 1 + 1 + 1) s k
  off : Off (fun _ => False) w wr
theorem ChooseAt.start (w : World) (a b s : Nat) : ChooseAt w ((((w.alloc (.cells #[.int .u64 (wd a 0 : Int), .int .u64 (wd a 1 : Int), .int .u64 (wd a 2 : Int), .int .u64 (wd a 3 : Int)] 51)).alloc (.cells #[.int .u64 (wd b 0 : Int), .int .u64 (wd b 1 : Int), .int .u64 (wd b 2 : Int), .int .u64 (wd b 3 : Int)] 51)).alloc (.cells #[.int .u64 0, .int .u64 0, .int .u64 0, .int .u64 0] 51)).alloc (.cells #[.int .u64 0, .int .u64 0, .int .u64 0, .int .u64 0] 51)) a b s 0 :=
  ⟨heap_old' (heap_old' (heap_old' (heap_new' rfl _) _) _) _, heap_old' (heap_old' (heap_new' (by simp) _) _) _, heap_old' (heap_new' (by simp) _) _, heap_new' (by simp) _, ((((Off.refl _ w).alloc _).alloc _).alloc _).alloc _⟩
theorem ChooseAt.step {w wr : World} {a b s k : Nat} (h : ChooseAt w wr a b s k) (hk : k < 4) : ChooseAt w (wr.setCell ⟨w.heap.size + 1 + 1 + 1, k, none⟩ (.int .u64 (wd s k : Int))).drew a b s (k + 1) := by
  have far : ∀ j, j ≠ w.heap.size + 1 + 1 + 1 → (wr.setCell ⟨w.heap.size + 1 + 1 + 1, k, none⟩ (.int .u64 (wd s k : Int))).drew.heap[j]? = wr.heap[j]? := fun j hj => Below.heap_setCell _ _ _ _ hj
  exact ⟨(far _ (by omega)).trans h.a, (far _ (by omega)).trans h.b, (far _ (by omega)).trans h.ret, h.res.step hk, (h.off.setCell (fun c => by simp at c; omega) _).drew⟩

attribute [local go_sem ↓] Go.wp_at_zero Go.wp_at_succ
set_option maxRecDepth 100000 in
set_option maxHeartbeats 2000000 in
theorem limb_choose (m : Int) (hm : Word m) (a b : Nat) (w : World) :
    Calls Tryd.prog 106 #[.int .u64 m, V a, V b] w fun e w' => e = .returned (V (selN m a b)) ∧ Off (fun _ => False) w w' := by
  have hF := fun W => frombit_any m hm W
  have hC := fun k W => choose_sel m a b k W
  obtain ⟨c, hc⟩ : ∃ c, c = mk (oddB m) := ⟨_, rfl⟩
  obtain ⟨s, hs⟩ : ∃ s, s = selN m a b := ⟨_, rfl⟩
  simp only [← hc] at hF hC
  simp only [← hs] at hC
  rw [← hs]
  have HF := Lib.hid hF
  have HC := Lib.hid hC
  clear hF hC hc hs hm
  go_enter Tryd.func106, Tryd.ntmps106
  go_wp2_with fail
  refine (HF.out _).mono ?_
  rintro e w1 ⟨rfl, rfl⟩
  go_wp2
  go_loopw [11] (fun i wr => ∃ k : Nat, k ≤ 4 ∧ i = .int .i64 k ∧ ChooseAt w wr a b s k) (fun i _ => 4 - (intOf i).toNat)
  case atStart => exact ⟨0, by omega, rfl, ChooseAt.start w a b s⟩
  case round =>
    obtain ⟨k, hk, rfl, hA⟩ := hrel
    by_cases hlt : k < 4
    · have i1 : decide ((k : Int) < 4) = true := by simp; omega
      have i2 : (k : Int) < 4 := by omega
      have ca := hA.a.cell k hlt
      have cb := hA.b.cell k hlt
      have cr := hA.res.cell hlt
      have q1 := cell_far (u := .int .u64 (wd s k : Int)) (p := ⟨w.heap.size + 1 + 1 + 1, k, none⟩) ca (by simp <;> omega)
      have q2 := cell_far (u := .int .u64 (wd s k : Int)) (p := ⟨w.heap.size + 1 + 1 + 1, k, none⟩) cb (by simp <;> omega)
      have fz := frozen_of_heap hA.res.old k
      have HA := Lib.hid hA
      clear hA
      go_wp2
      go_region_held3 (fun w' => w'.cell? ⟨w.heap.size, k, none⟩ = some (.int .u64 (wd a k : Int)) ∧ w'.cell? ⟨w.heap.size + 1, k, none⟩ = some (.int .u64 (wd b k : Int))) (go_keep) (((go_at_call 112; refine (HC.out k _).mono ?_; rintro e w' ⟨rfl, rfl⟩)))
      go_wp2
      go_roundw
      case rel => exact ⟨k + 1, by omega, by go_num, HA.out.step hlt⟩
      case measure => simp [intOf]; omega
    · obtain rfl : k = 4 := by omega
      obtain ⟨c0, c1, c2, c3⟩ := hA.res.full.four
      obtain ⟨⟨r0, r1, r2, r3⟩, fz⟩ := hA.ret.four
      have HA := Lib.hid hA
      clear hA
      go_wp2
      refine bodyPost_ret (v := V s) (by simp [results, Tryd.results106, go_sem, r0, r1, r2, r3]) rfl ⟨rfl, ?_⟩
      have hn : ∀ j, (⟨w.heap.size + 1 + 1, j, none⟩ : Addr).block < w.heap.size → False := fun j c => by simp at c; omega
      exact (((HA.out.off.setCell (hn 0) _).setCell (hn 1) _).setCell (hn 2) _).setCell (hn 3) _
end
section
open Go.RowKit

/-- The n bits of a from the bit number p on. -/
def bitsV (a : Nat) (p n : Int) : Nat := if p < 0 ∨ n < 0 ∨ 64 < n then 0 else a / 2 ^ p.toNat % 2 ^ n.toNat

theorem wd_bit (a q j : Nat) : (wd a q).testBit j = (decide (j < 64) && a.testBit (64 * q + j)) := by
  have e : (18446744073709551616 : Nat) = 2 ^ 64 := by decide
  unfold wd dg W64
  rw [e, ← Nat.pow_mul, Nat.testBit_mod_two_pow, Nat.testBit_div_two_pow, Nat.add_comm]
theorem wd_top {a : Nat} (ha : a < R256) : wd a 4 = 0 := dg_zero_of_lt ha

theorem mask_ones {n : Nat} (hn : n ≤ 64) : IntKind.u64.wrap (IntKind.u64.wrap (2 ^ n) - 1) = ((2 ^ n - 1 : Nat) : Int) := by
  have hp : 1 ≤ 2 ^ n := Nat.one_le_two_pow
  have he : ((2 : Int) ^ n) = ((2 ^ n : Nat) : Int) := by simp
  have hle : 2 ^ n ≤ 2 ^ 64 := Nat.pow_le_pow_right (by decide) hn
  rw [IntKind.wrap_u64, IntKind.wrap_u64, he]
  generalize 2 ^ n = m at *
  simp only [Nat.reducePow] at hle
  omega
theorem low_high (a q r i : Nat) (hr : r < 64) (hi : i < 64) :
    (wd a q / 2 ^ r ||| wd a (q + 1) * 2 ^ (64 - r) % 2 ^ 64).testBit i = a.testBit (64 * q + r + i) := by
  rw [Nat.testBit_or, Nat.testBit_div_two_pow, wd_bit, Nat.testBit_mod_two_pow, Nat.mul_comm (wd a (q + 1)) (2 ^ (64 - r)), Nat.testBit_two_pow_mul, wd_bit]
  by_cases h : r + i < 64
  · have h1 : ¬ (64 - r ≤ i) := by omega
    have e : 64 * q + (i + r) = 64 * q + r + i := by omega
    simp [h1, e]
    omega
  · have h1 : 64 - r ≤ i := by omega
    have h2 : ¬ (i + r < 64) := by omega
    have h3 : i - (64 - r) < 64 := by omega
    have e : 64 * (q + 1) + (i - (64 - r)) = 64 * q + r + i := by omega
    simp [h1, h2, h3, hi, e]
theorem bits_math (a q r n : Nat) (hr : r < 64) (hn : n ≤ 64) :
    bits .and .u64 (bits .or .u64 ((wd a q : Int) / 2 ^ r) (IntKind.u64.wrap ((wd a (q + 1) : Int) * 2 ^ (64 - r)))) (IntKind.u64.wrap (IntKind.u64.wrap (2 ^ n) - 1)) = ((a / 2 ^ (64 * q + r) % 2 ^ n : Nat) : Int) := by
  rw [mask_ones hn]
  have e1 : (wd a q : Int) / 2 ^ r = ((wd a q / 2 ^ r : Nat) : Int) := by simp
  have e2 : IntKind.u64.wrap ((wd a (q + 1) : Int) * 2 ^ (64 - r)) = ((wd a (q + 1) * 2 ^ (64 - r) % 2 ^ 64 : Nat) : Int) := by
    rw [IntKind.wrap_u64]; simp
  have l1 : wd a q / 2 ^ r < 18446744073709551616 := Nat.lt_of_le_of_lt (Nat.div_le_self _ _) (wd_lt a q)
  have l2 : wd a (q + 1) * 2 ^ (64 - r) % 2 ^ 64 < 18446744073709551616 := Nat.mod_lt _ (by decide)
  have l3 : 2 ^ n - 1 < 18446744073709551616 := by
    have hle : 2 ^ n ≤ 2 ^ 64 := Nat.pow_le_pow_right (by decide) hn
    have e : (2 : Nat) ^ 64 = 18446744073709551616 := by decide
    rw [e] at hle
    have hp : 1 ≤ 2 ^ n := Nat.one_le_two_pow
    generalize 2 ^ n = m at *
    omega
  rw [e1, e2]
  have hL : ∀ L H M : Nat, L < 18446744073709551616 → H < 18446744073709551616 → M < 18446744073709551616 → bits .and .u64 (bits .or .u64 (L : Int) (H : Int)) (M : Int) = (((L ||| H) &&& M : Nat) : Int) := by
    intro L H M h1 h2 h3
    rw [u64_or _ _ (by omega) (by omega) (by omega) (by omega)]
    have l4 := or_lt h1 h2
    simp only [Int.toNat_natCast]
    rw [u64_and _ _ (by omega) (by omega) (by omega) (by omega)]
    simp only [Int.toNat_natCast]
  rw [hL _ _ _ l1 l2 l3]
  congr 1
  rw [Nat.and_two_pow_sub_one_eq_mod]
  apply Nat.eq_of_testBit_eq
  intro i
  rw [Nat.testBit_mod_two_pow, Nat.testBit_mod_two_pow]
  by_cases hi : i < n
  · rw [low_high a q r i hr (by omega), Nat.testBit_div_two_pow, Nat.add_comm i]
  · simp [hi]

theorem div_big {a p : Nat} (ha : a < R256) (hp : 256 ≤ p) : a / 2 ^ p = 0 := by
  have e : R256 = 2 ^ 256 := by decide
  exact Nat.div_eq_of_lt (Nat.lt_of_lt_of_le (by rw [← e]; exact ha) (Nat.pow_le_pow_right (by decide) hp))
theorem bitsV_in {a p n : Nat} (hn : n ≤ 64) : bitsV a (p : Int) (n : Int) = a / 2 ^ p % 2 ^ n := by
  unfold bitsV; rw [if_neg (by omega)]; simp
theorem bitsV_out {a : Nat} {p n : Int} (h : p < 0 ∨ n < 0 ∨ 64 < n) : bitsV a p n = 0 := by unfold bitsV; rw [if_pos h]
theorem bitsV_big {a : Nat} (ha : a < R256) {p n : Int} (hp : 256 ≤ p) : bitsV a p n = 0 := by
  unfold bitsV; split
  · rfl
  · rw [div_big ha (by omega), Nat.zero_mod]

/-- The bit with the index i of a. -/
def bitV (a i : Nat) : Nat := a / 2 ^ i % 2
theorem bit_wd (a q r : Nat) (hr : r < 64) : wd a q / 2 ^ r % 2 = bitV a (64 * q + r) := by
  have h := wd_bit a q r
  rw [Nat.testBit_eq_decide_div_mod_eq, Nat.testBit_eq_decide_div_mod_eq] at h
  unfold bitV
  generalize wd a q / 2 ^ r = x at *
  generalize a / 2 ^ (64 * q + r) = y at *
  have h2 : decide (r < 64) = true := by simpa using hr
  rw [h2, Bool.true_and, decide_eq_decide] at h
  omega
theorem half_pow (x k : Nat) : x / 2 ^ k / 2 = x / 2 ^ (k + 1) := by rw [Nat.pow_succ, Nat.div_div_eq_div_mul]

set_option maxHeartbeats 1000000 in
theorem refbit_any (a i : Nat) (ha : a < R256) (hi : i ≤ 1000) (w : World) :
    Calls Tryd.prog 86 #[V a, .int .i64 (i : Int)] w fun e w' => e = .returned (.int .u64 (bitV a i : Int)) ∧ Off (fun _ => False) w w' := by
  by_cases hb : 255 < i
  · have t1 : decide ((255 : Int) < (i : Int)) = true := by simp; omega
    have e : bitV a i = 0 := by unfold bitV; rw [div_big ha (by omega)]
    rw [e]
    clear ha e
    go_enter Tryd.func86, Tryd.ntmps86
    go_wp2
    go_ret
    exact ⟨rfl, (Off.refl _ w).alloc _⟩
  · have t1 : decide ((255 : Int) < (i : Int)) = false := by simp; omega
    obtain ⟨q, hq⟩ : ∃ q, q = i / 64 := ⟨_, rfl⟩
    obtain ⟨r, hr⟩ : ∃ r, r = i % 64 := ⟨_, rfl⟩
    have q0 : (i : Int) / 64 = (q : Int) := by omega
    have q1 : (q : Int) < 4 := by omega
    have hN : NumAt (w.alloc (.cells #[.int .u64 (wd a 0 : Int), .int .u64 (wd a 1 : Int), .int .u64 (wd a 2 : Int), .int .u64 (wd a 3 : Int)] 51)) w.heap.size a := heap_new' rfl _
    have hc := hN.cell q (by omega)
    have r0 : (i : Int) % 64 = (r : Int) := by omega
    have HE := Lib.hid (show wd a q / 2 ^ r % 2 = bitV a i by rw [bit_wd a q r (by omega)]; congr 1; omega)
    have hw := wd_lt a q
    obtain ⟨x, hx⟩ : ∃ x, x = wd a q := ⟨_, rfl⟩
    rw [← hx] at HE hc hw
    have hr2 : r < 64 := by omega
    clear hN hq hr ha hx
    go_enter Tryd.func86, Tryd.ntmps86
    go_wp2
    go_loop [5, 6] (fun v k => ∃ j : Nat, j ≤ r ∧ k = .int .i64 j ∧ v = .int .u64 ((x / 2 ^ j : Nat) : Int)) (fun _ k => r - (intOf k).toNat)
    case atStart => exact ⟨0, by omega, rfl, by simp⟩
    case round =>
      obtain ⟨j, hj, rfl, rfl⟩ := hrel
      have HH := Lib.hid (half_pow x j)
      have hle : x / 2 ^ j ≤ x := Nat.div_le_self _ _
      obtain ⟨y, hy⟩ : ∃ y, y = x / 2 ^ j := ⟨_, rfl⟩
      rw [← hy] at HH hle ⊢
      by_cases hlt : j < r
      · have j1 : (j : Int) < (r : Int) := by omega
        clear hy
        go_wp2
        go_round
        case rel => exact ⟨j + 1, by omega, by go_num, by rw [← HH.out]; rfl⟩
        case measure => simp [intOf]; omega
      · obtain rfl : j = r := by omega
        have HY := Lib.hid hy
        have j1 : ¬ (j : Int) < (j : Int) := by omega
        clear hy
        go_wp2
        go_ret
        exact ⟨by rw [← HE.out, ← HY.out]; rfl, (Off.refl _ w).alloc _⟩
theorem bits_step (a s k : Nat) : a / 2 ^ s % 2 ^ (k + 1) = a / 2 ^ (s + 1) % 2 ^ k * 2 + bitV a s := by
  unfold bitV
  rw [← half_pow, Nat.pow_succ, Nat.mul_comm (2 ^ k) 2, Nat.mod_mul]
  omega
/-- The bits of the reference's loop behind k rounds. -/
def someBits (a p n k : Nat) : Nat := a / 2 ^ (p + (n - k)) % 2 ^ k
theorem someBits_zero (a p n : Nat) : someBits a p n 0 = 0 := by unfold someBits; simp [Nat.mod_one]
theorem someBits_full (a p n : Nat) : someBits a p n n = a / 2 ^ p % 2 ^ n := by unfold someBits; simp
theorem someBits_succ (a p n k : Nat) (hk : k < n) : someBits a p n (k + 1) = someBits a p n k * 2 + bitV a (p + (n - (k + 1))) := by
  unfold someBits
  rw [bits_step, show p + (n - (k + 1)) + 1 = p + (n - k) by omega]
theorem someBits_lt (a p n k : Nat) (hk : k < 64) : someBits a p n k < 9223372036854775808 := by
  have h1 : someBits a p n k < 2 ^ k := Nat.mod_lt _ (Nat.pow_pos (by decide))
  have h2 : 2 ^ k ≤ 2 ^ 63 := Nat.pow_le_pow_right (by decide) (by omega)
  have h3 : (2 : Nat) ^ 63 = 9223372036854775808 := by decide
  omega
theorem someBits_big {a p : Nat} (ha : a < R256) (hp : 256 ≤ p) (n k : Nat) : someBits a p n k = 0 := by
  unfold someBits; rw [div_big ha (by omega), Nat.zero_mod]
end
section
open Go.RowKit

theorem word_info : (Tryd.prog.info? 50).map (fun i => (i.zero, i.size, i.bytes)) = some (some (.int .u64 0), 1, 8) := by kernel_rfl
theorem equalIn_four (a b c d a' b' c' d' : Int) (w : World) : (Op.equalIn 10000 51 (.agg #[.int .u64 a, .int .u64 b, .int .u64 c, .int .u64 d]) (.agg #[.int .u64 a', .int .u64 b', .int .u64 c', .int .u64 d'])).run Tryd.prog w =
    .ok (decide (a = a' ∧ b = b' ∧ c = c' ∧ d = d')) w := by
  obtain ⟨i, hi, _, _, _⟩ := info_parts word_info
  have hc : Tryd.prog.cellsOf 50 = 1 := by kernel_rfl
  rw [run_equalIn_array w 9999 _ _ Tryd.underlying51 hi, hc]
  have hr : List.range 4 = [0, 1, 2, 3] := by decide
  rw [hr]
  simp [Op.eqItems, part, go_sem]
  by_cases h1 : a = a' <;> by_cases h2 : b = b' <;> by_cases h3 : c = c' <;> by_cases h4 : d = d' <;> simp [h1, h2, h3, h4]
theorem eql_four (a b c d a' b' c' d' : Int) (w : World) : (binOp .eql 51 (.agg #[.int .u64 a, .int .u64 b, .int .u64 c, .int .u64 d]) (.agg #[.int .u64 a', .int .u64 b', .int .u64 c', .int .u64 d'])).run Tryd.prog w =
    .ok (.bool (decide (a = a' ∧ b = b' ∧ c = c' ∧ d = d'))) w := by
  rw [run_eql_struct, equalIn_four]; rfl
theorem four_eq {a b : Nat} (ha : a < R256) (hb : b < R256) : decide ((wd a 0 : Int) = (wd b 0 : Int) ∧ (wd a 1 : Int) = (wd b 1 : Int) ∧ (wd a 2 : Int) = (wd b 2 : Int) ∧ (wd a 3 : Int) = (wd b 3 : Int)) = eqN a b := by
  unfold eqN
  rw [decide_eq_decide]
  constructor
  · rintro ⟨h0, h1, h2, h3⟩
    refine wd_ext ha hb (fun i hi => ?_)
    have : i = 0 ∨ i = 1 ∨ i = 2 ∨ i = 3 := by omega
    rcases this with rfl | rfl | rfl | rfl <;> omega
  · rintro rfl
    exact ⟨rfl, rfl, rfl, rfl⟩
theorem eql_num {a b : Nat} (ha : a < R256) (hb : b < R256) (w : World) : (binOp .eql 51 (V a) (V b)).run Tryd.prog w = .ok (.bool (eqN a b)) w := by
  rw [← four_eq ha hb]; exact eql_four _ _ _ _ _ _ _ _ w
theorem equalIn_num {a b : Nat} (ha : a < R256) (hb : b < R256) (w : World) : (Op.equalIn 10000 51 (V a) (V b)).run Tryd.prog w = .ok (eqN a b) w := by
  rw [← four_eq ha hb]; exact equalIn_four _ _ _ _ _ _ _ _ w
theorem eql_same (a : Nat) (w : World) : (binOp .eql 51 (V a) (V a)).run Tryd.prog w = .ok (.bool true) w := by
  rw [eql_four]; simp

theorem lit_all : V (R256 - 1) = .agg #[.int .u64 18446744073709551615, .int .u64 18446744073709551615, .int .u64 18446744073709551615, .int .u64 18446744073709551615] := by
  have h : ∀ i, i < 4 → wd (R256 - 1) i = 18446744073709551615 := by decide
  simp only [V, h 0 (by omega), h 1 (by omega), h 2 (by omega), h 3 (by omega)]; rfl
theorem lit_small (n : Nat) (hn : n < 18446744073709551616) : V n = .agg #[.int .u64 (n : Int), .int .u64 0, .int .u64 0, .int .u64 0] := by
  have h0 : wd n 0 = n := by unfold wd dg W64; omega
  have h1 : wd n 1 = 0 := by unfold wd dg W64; omega
  have h2 : wd n 2 = 0 := by unfold wd dg W64; omega
  have h3 : wd n 3 = 0 := by unfold wd dg W64; omega
  simp only [V, h0, h1, h2, h3]; rfl
theorem lit_top : V (2 ^ 255) = .agg #[.int .u64 0, .int .u64 0, .int .u64 0, .int .u64 9223372036854775808] := by
  have h : wd (2 ^ 255) 0 = 0 ∧ wd (2 ^ 255) 1 = 0 ∧ wd (2 ^ 255) 2 = 0 ∧ wd (2 ^ 255) 3 = 9223372036854775808 := by decide
  simp only [V, h.1, h.2.1, h.2.2.1, h.2.2.2]; rfl
end
section
open Go.RowKit Go.ChangeShapes Go.WideShapes Go.ChangeAt

theorem list4 {α : Type} (l : List α) (h : (⟨l⟩ : Array α).size = 4) : ∃ a b c d, l = [a, b, c, d] := by
  match l, h with
  | [a, b, c, d], _ => exact ⟨a, b, c, d, rfl⟩
theorem cells_word : Tryd.prog.cellsOf 50 = 1 := by kernel_rfl
theorem cells_vec : Tryd.prog.cellsOf 51 = 4 := by kernel_rfl

set_option maxRecDepth 100000 in
theorem open_vec {H : Type} {enc : TypeId × Value → H} {W : World} {r : Reach} {base b0 : Nat} {sp : Nat → Bool} {held : Bool} {v : Value} {d : DataW H} {p : List MemPlace}
    (hok : Value.okWide Tryd.prog W r base 51 v) (h : DataW.Trod enc Tryd.prog W b0 sp held 51 v d p) : ∃ n, n < R256 ∧ v = V n := by
  obtain ⟨cs, rfl, hsz, _⟩ : ∃ cs, v = .agg cs ∧ cs.size = Tryd.prog.cellsOf 51 ∧ Row.okWide Tryd.prog W r base 51 cs := by
    simpa [Value.okWide, Tryd.underlying51] using hok
  rw [cells_vec] at hsz
  obtain ⟨l⟩ := cs
  obtain ⟨c0, c1, c2, c3, rfl⟩ := list4 l hsz
  obtain ⟨fuel, hf⟩ := h
  obtain ⟨y0, y1, y2, y3, m, hx, hy0, hy1, hy2, hy3⟩ := trod_array4 Tryd.underlying51 cells_word hf
  obtain ⟨x0, e0, rfl, w0⟩ := DataW.trod_int Tryd.underlying50 hy0
  obtain ⟨x1, e1, rfl, w1⟩ := DataW.trod_int Tryd.underlying50 hy1
  obtain ⟨x2, e2, rfl, w2⟩ := DataW.trod_int Tryd.underlying50 hy2
  obtain ⟨x3, e3, rfl, w3⟩ := DataW.trod_int Tryd.underlying50 hy3
  simp at e0 e1 e2 e3
  subst e0 e1 e2 e3
  have word : ∀ {x : Int}, (Lit.int .u64 x).wf = true → Word x := fun h => by have := bounds_u64 h; exact ⟨by omega, by omega⟩
  obtain ⟨n, hn, rfl, rfl, rfl, rfl⟩ := words_num (word w0) (word w1) (word w2) (word w3)
  exact ⟨n, hn, rfl⟩

/-- A call that changes nothing that lay in memory before keeps a number and the frame: for a region that draws its order. -/
theorem held_one {f : FuncId} {args : Array Value} {v : Value} (hc : ∀ W, Calls Tryd.prog f args W fun e w' => e = .returned v ∧ Off (fun _ => False) W w') {w W : World} {b n : Nat}
    (h : W.cell? ⟨b, 0, none⟩ = some (.int .u64 (wd n 0 : Int)) ∧ W.cell? ⟨b, 1, none⟩ = some (.int .u64 (wd n 1 : Int)) ∧ W.cell? ⟨b, 2, none⟩ = some (.int .u64 (wd n 2 : Int)) ∧ W.cell? ⟨b, 3, none⟩ = some (.int .u64 (wd n 3 : Int)) ∧ Off (fun _ => False) w W) :
    Calls Tryd.prog f args W fun e w' => e = .returned v ∧ (w'.cell? ⟨b, 0, none⟩ = some (.int .u64 (wd n 0 : Int)) ∧ w'.cell? ⟨b, 1, none⟩ = some (.int .u64 (wd n 1 : Int)) ∧ w'.cell? ⟨b, 2, none⟩ = some (.int .u64 (wd n 2 : Int)) ∧ w'.cell? ⟨b, 3, none⟩ = some (.int .u64 (wd n 3 : Int)) ∧ Off (fun _ => False) w w') := by
  obtain ⟨h0, h1, h2, h3, h4⟩ := h
  exact (hc W).mono fun e w' ⟨he, hO⟩ => ⟨he, hO.cell h0 (fun c => c), hO.cell h1 (fun c => c), hO.cell h2 (fun c => c), hO.cell h3 (fun c => c), h4.trans hO (fun _ _ c => c)⟩

/-- The same for three numbers. -/
def Four (w : World) (b n : Nat) : Prop := w.cell? ⟨b, 0, none⟩ = some (.int .u64 (wd n 0 : Int)) ∧ w.cell? ⟨b, 1, none⟩ = some (.int .u64 (wd n 1 : Int)) ∧ w.cell? ⟨b, 2, none⟩ = some (.int .u64 (wd n 2 : Int)) ∧ w.cell? ⟨b, 3, none⟩ = some (.int .u64 (wd n 3 : Int))
theorem Four.off {w w' : World} {b n : Nat} (h : Four w b n) (ho : Off (fun _ => False) w w') : Four w' b n :=
  ⟨ho.cell h.1 (fun c => c), ho.cell h.2.1 (fun c => c), ho.cell h.2.2.1 (fun c => c), ho.cell h.2.2.2 (fun c => c)⟩
theorem held_three {f : FuncId} {args : Array Value} {v : Value} (hc : ∀ W, Calls Tryd.prog f args W fun e w' => e = .returned v ∧ Off (fun _ => False) W w') {w W : World} {b n b' n' b'' n'' : Nat}
    (h : (W.cell? ⟨b, 0, none⟩ = some (.int .u64 (wd n 0 : Int)) ∧ W.cell? ⟨b, 1, none⟩ = some (.int .u64 (wd n 1 : Int)) ∧ W.cell? ⟨b, 2, none⟩ = some (.int .u64 (wd n 2 : Int)) ∧ W.cell? ⟨b, 3, none⟩ = some (.int .u64 (wd n 3 : Int))) ∧
      (W.cell? ⟨b', 0, none⟩ = some (.int .u64 (wd n' 0 : Int)) ∧ W.cell? ⟨b', 1, none⟩ = some (.int .u64 (wd n' 1 : Int)) ∧ W.cell? ⟨b', 2, none⟩ = some (.int .u64 (wd n' 2 : Int)) ∧ W.cell? ⟨b', 3, none⟩ = some (.int .u64 (wd n' 3 : Int))) ∧
      (W.cell? ⟨b'', 0, none⟩ = some (.int .u64 (wd n'' 0 : Int)) ∧ W.cell? ⟨b'', 1, none⟩ = some (.int .u64 (wd n'' 1 : Int)) ∧ W.cell? ⟨b'', 2, none⟩ = some (.int .u64 (wd n'' 2 : Int)) ∧ W.cell? ⟨b'', 3, none⟩ = some (.int .u64 (wd n'' 3 : Int))) ∧ Off (fun _ => False) w W) :
    Calls Tryd.prog f args W fun e w' => e = .returned v ∧ ((w'.cell? ⟨b, 0, none⟩ = some (.int .u64 (wd n 0 : Int)) ∧ w'.cell? ⟨b, 1, none⟩ = some (.int .u64 (wd n 1 : Int)) ∧ w'.cell? ⟨b, 2, none⟩ = some (.int .u64 (wd n 2 : Int)) ∧ w'.cell? ⟨b, 3, none⟩ = some (.int .u64 (wd n 3 : Int))) ∧
      (w'.cell? ⟨b', 0, none⟩ = some (.int .u64 (wd n' 0 : Int)) ∧ w'.cell? ⟨b', 1, none⟩ = some (.int .u64 (wd n' 1 : Int)) ∧ w'.cell? ⟨b', 2, none⟩ = some (.int .u64 (wd n' 2 : Int)) ∧ w'.cell? ⟨b', 3, none⟩ = some (.int .u64 (wd n' 3 : Int))) ∧
      (w'.cell? ⟨b'', 0, none⟩ = some (.int .u64 (wd n'' 0 : Int)) ∧ w'.cell? ⟨b'', 1, none⟩ = some (.int .u64 (wd n'' 1 : Int)) ∧ w'.cell? ⟨b'', 2, none⟩ = some (.int .u64 (wd n'' 2 : Int)) ∧ w'.cell? ⟨b'', 3, none⟩ = some (.int .u64 (wd n'' 3 : Int))) ∧ Off (fun _ => False) w w') :=
  (hc W).mono fun _ _ ⟨he, hO⟩ => ⟨he, Four.off h.1 hO, Four.off h.2.1 hO, Four.off h.2.2.1 hO, h.2.2.2.trans hO (fun _ _ c => c)⟩
end
end Go.Proofs.YtclehgconbdkpaaDoor
