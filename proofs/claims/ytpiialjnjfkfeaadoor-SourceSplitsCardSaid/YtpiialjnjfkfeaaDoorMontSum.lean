/-
  The contract of the method add of package mont's sums over this seat's translation: a multiple of a number is added to a sum of nine words. Conditions: the numbers are words and numbers of four words, and the sum does not pass the words above those that the number is added to.
-/
import Derived.Test.YtpiialjnjfkfeaaDoorLimbOps
import Derived.Test.YtpiialjnjfkfeaaDoorBitsMul
import Derived.StillTailTactics
namespace Go.Proofs.YtpiialjnjfkfeaaDoor
open Go.RowKit

theorem mmul_bound {a b : Nat} (ha : a < 18446744073709551616) (hb : b < 18446744073709551616) : a * b ≤ 340282366920938463426481119284349108225 := by
  have := Nat.mul_le_mul (show a ≤ 18446744073709551615 by omega) (show b ≤ 18446744073709551615 by omega)
  simpa using this

set_option maxHeartbeats 1000000 in
theorem mmuladd_any (a b c d : Nat) (ha : a < 18446744073709551616) (hb : b < 18446744073709551616) (hc : c < 18446744073709551616) (hd : d < 18446744073709551616) (w : World) :
    Calls Tryd.prog 53 #[.int .u64 (a : Int), .int .u64 (b : Int), .int .u64 (c : Int), .int .u64 (d : Int)] w fun e w' => e = .returned (.tuple #[.int .u64 (((a * b + c + d) % 18446744073709551616 : Nat) : Int), .int .u64 (((a * b + c + d) / 18446744073709551616 : Nat) : Int)]) ∧ w = w' := by
  have hP := mmul_bound ha hb
  have hM := mul64_any a b ha hb w
  obtain ⟨P, hPe⟩ : ∃ P, P = a * b := ⟨_, rfl⟩
  rw [← hPe] at hM hP ⊢
  obtain ⟨h, hh⟩ : ∃ h, h = P / 18446744073709551616 := ⟨_, rfl⟩
  obtain ⟨l, hl⟩ : ∃ l, l = P % 18446744073709551616 := ⟨_, rfl⟩
  rw [← hh, ← hl] at hM
  obtain ⟨l1, hl1⟩ : ∃ l1, l1 = (l + c) % 18446744073709551616 := ⟨_, rfl⟩
  obtain ⟨c1, hc1⟩ : ∃ c1, c1 = (l + c) / 18446744073709551616 := ⟨_, rfl⟩
  obtain ⟨h1, hh1⟩ : ∃ h1, h1 = h + c1 := ⟨_, rfl⟩
  obtain ⟨l2, hl2⟩ : ∃ l2, l2 = (l1 + d) % 18446744073709551616 := ⟨_, rfl⟩
  obtain ⟨c2, hc2⟩ : ∃ c2, c2 = (l1 + d) / 18446744073709551616 := ⟨_, rfl⟩
  obtain ⟨h2, hh2⟩ : ∃ h2, h2 = h1 + c2 := ⟨_, rfl⟩
  have r1 : ∀ w, (callFunc 54 #[.int .u64 (l : Int), .int .u64 (c : Int), .int .u64 0]).run Tryd.prog w = .ok (.value (.tuple #[.int .u64 (l1 : Int), .int .u64 (c1 : Int)])) w := fun w => by
    rw [run_add64_at _ _ _ ⟨by omega, by omega⟩ ⟨by omega, by omega⟩ (by omega) (by omega) w, show ((l : Int) + (c : Int) + 0) % 18446744073709551616 = (l1 : Int) by omega, show ((l : Int) + (c : Int) + 0) / 18446744073709551616 = (c1 : Int) by omega]
  have r2 : ∀ w, (callFunc 54 #[.int .u64 (l1 : Int), .int .u64 (d : Int), .int .u64 0]).run Tryd.prog w = .ok (.value (.tuple #[.int .u64 (l2 : Int), .int .u64 (c2 : Int)])) w := fun w => by
    rw [run_add64_at _ _ _ ⟨by omega, by omega⟩ ⟨by omega, by omega⟩ (by omega) (by omega) w, show ((l1 : Int) + (d : Int) + 0) % 18446744073709551616 = (l2 : Int) by omega, show ((l1 : Int) + (d : Int) + 0) / 18446744073709551616 = (c2 : Int) by omega]
  have w1 : IntKind.u64.wrap ((h : Int) + (c1 : Int)) = (h1 : Int) := by rw [IntKind.wrap_u64]; omega
  have w2 : IntKind.u64.wrap ((h1 : Int) + (c2 : Int)) = (h2 : Int) := by rw [IntKind.wrap_u64]; omega
  have e1 : (P + c + d) % 18446744073709551616 = l2 := by omega
  have e2 : (P + c + d) / 18446744073709551616 = h2 := by omega
  rw [e1, e2]
  have HM := Lib.hid hM
  clear hM e1 e2 hh hl hl1 hc1 hh1 hl2 hc2 hh2 hPe hP ha hb hc hd
  go_enter Tryd.func53, Tryd.ntmps53
  go_wp2_with fail
  refine HM.out.mono ?_
  rintro e w' ⟨rfl, rfl⟩
  go_wp2
  go_ret2
  exact ⟨rfl, rfl⟩

/-- The digits in the midst of the sum: below i + k those of the new sum, from there on those of the old one. -/
def midN (B N x b i k p : Nat) : Nat := if p < i + k then dg B (mulT B N x b i k) p else dg B N p
theorem midN_zero (B N x b i p : Nat) : midN B N x b i 0 p = dg B N p := by unfold midN; rw [mulT_zero]; split <;> rfl
theorem midN_here (B N x b i k : Nat) : midN B N x b i k (i + k) = dg B N (i + k) := by unfold midN; rw [if_neg (by omega)]
theorem midN_new {B : Nat} (hB : 0 < B) (N x b i k : Nat) : midN B N x b i (k + 1) (i + k) = (x * dg B b k + dg B N (i + k) + mulC B N x b i k) % B := by
  unfold midN; rw [if_pos (by omega), mulT_dg hB, Nat.add_comm (dg B N (i + k))]
theorem midNC_new {B : Nat} (hB : 0 < B) (N x b i k : Nat) : mulC B N x b i (k + 1) = (x * dg B b k + dg B N (i + k) + mulC B N x b i k) / B := by
  rw [mulC_succ hB, Nat.add_comm (dg B N (i + k))]
theorem midN_other {B : Nat} (hB : 0 < B) (N x b i k p : Nat) (hp : p ≠ i + k) : midN B N x b i k p = midN B N x b i (k + 1) p := by
  unfold midN
  by_cases h : p < i + k
  · rw [if_pos h, if_pos (by omega), mulT_low hB _ _ _ _ _ _ h]
  · rw [if_neg h, if_neg (by omega)]
theorem midN_done {B N x b i n p : Nat} (hB : 0 < B) (hb : b < B ^ n) (hN : N + x * b * B ^ i < B ^ (i + n)) : midN B N x b i n p = dg B (N + x * b * B ^ i) p := by
  have e : mulT B N x b i n = N + x * b * B ^ i := by unfold mulT; rw [Nat.mod_eq_of_lt hb]
  unfold midN
  rw [e]
  by_cases h : p < i + n
  · rw [if_pos h]
  · rw [if_neg h]
    have p1 : B ^ (i + n) ≤ B ^ p := Nat.pow_le_pow_right hB (by omega)
    rw [dg_zero_of_lt (Nat.lt_of_lt_of_le hN p1), dg_zero_of_lt (Nat.lt_of_le_of_lt (Nat.le_add_right _ _) (Nat.lt_of_lt_of_le hN p1))]

/-- The block B holds the nine words f 0, f 1, .. -/
def SumW (w : World) (B : Nat) (f : Nat → Nat) : Prop := w.heap[B]? = some (.cells #[.int .u64 (f 0 : Int), .int .u64 (f 1 : Int), .int .u64 (f 2 : Int), .int .u64 (f 3 : Int), .int .u64 (f 4 : Int), .int .u64 (f 5 : Int), .int .u64 (f 6 : Int), .int .u64 (f 7 : Int), .int .u64 (f 8 : Int)] 94 (0, 0))
theorem below9 {p : Nat} (h : p < 9) : p = 0 ∨ p = 1 ∨ p = 2 ∨ p = 3 ∨ p = 4 ∨ p = 5 ∨ p = 6 ∨ p = 7 ∨ p = 8 := by omega
theorem SumW.cell {w : World} {B : Nat} {f : Nat → Nat} (h : SumW w B f) (k : Nat) (hk : k < 9) : w.cell? ⟨B, k, none⟩ = some (.int .u64 (f k : Int)) := by
  rw [cell_of_heap h]
  rcases below9 hk with rfl | rfl | rfl | rfl | rfl | rfl | rfl | rfl | rfl <;> rfl
theorem SumW.congr {w : World} {B : Nat} {f f' : Nat → Nat} (h : SumW w B f) (hf : ∀ p, p < 9 → f p = f' p) : SumW w B f' := by
  unfold SumW at *
  rw [h, hf 0 (by omega), hf 1 (by omega), hf 2 (by omega), hf 3 (by omega), hf 4 (by omega), hf 5 (by omega), hf 6 (by omega), hf 7 (by omega), hf 8 (by omega)]
theorem SumW.store {w : World} {B k x : Nat} {f f' : Nat → Nat} (h : SumW w B f) (hk : k < 9) (hx : f' k = x) (hf : ∀ p, p < 9 → p ≠ k → f p = f' p) : SumW (w.setCell ⟨B, k, none⟩ (.int .u64 (x : Int))) B f' := by
  have h2 := heap_set h k (.int .u64 (x : Int))
  unfold SumW
  rw [h2, ← hx]
  have g := fun p (h1 : p < 9) (h2 : p ≠ k) => hf p h1 h2
  rcases below9 hk with rfl | rfl | rfl | rfl | rfl | rfl | rfl | rfl | rfl
  · simp [g 1 (by omega) (by omega), g 2 (by omega) (by omega), g 3 (by omega) (by omega), g 4 (by omega) (by omega), g 5 (by omega) (by omega), g 6 (by omega) (by omega), g 7 (by omega) (by omega), g 8 (by omega) (by omega)]
  · simp [g 0 (by omega) (by omega), g 2 (by omega) (by omega), g 3 (by omega) (by omega), g 4 (by omega) (by omega), g 5 (by omega) (by omega), g 6 (by omega) (by omega), g 7 (by omega) (by omega), g 8 (by omega) (by omega)]
  · simp [g 0 (by omega) (by omega), g 1 (by omega) (by omega), g 3 (by omega) (by omega), g 4 (by omega) (by omega), g 5 (by omega) (by omega), g 6 (by omega) (by omega), g 7 (by omega) (by omega), g 8 (by omega) (by omega)]
  · simp [g 0 (by omega) (by omega), g 1 (by omega) (by omega), g 2 (by omega) (by omega), g 4 (by omega) (by omega), g 5 (by omega) (by omega), g 6 (by omega) (by omega), g 7 (by omega) (by omega), g 8 (by omega) (by omega)]
  · simp [g 0 (by omega) (by omega), g 1 (by omega) (by omega), g 2 (by omega) (by omega), g 3 (by omega) (by omega), g 5 (by omega) (by omega), g 6 (by omega) (by omega), g 7 (by omega) (by omega), g 8 (by omega) (by omega)]
  · simp [g 0 (by omega) (by omega), g 1 (by omega) (by omega), g 2 (by omega) (by omega), g 3 (by omega) (by omega), g 4 (by omega) (by omega), g 6 (by omega) (by omega), g 7 (by omega) (by omega), g 8 (by omega) (by omega)]
  · simp [g 0 (by omega) (by omega), g 1 (by omega) (by omega), g 2 (by omega) (by omega), g 3 (by omega) (by omega), g 4 (by omega) (by omega), g 5 (by omega) (by omega), g 7 (by omega) (by omega), g 8 (by omega) (by omega)]
  · simp [g 0 (by omega) (by omega), g 1 (by omega) (by omega), g 2 (by omega) (by omega), g 3 (by omega) (by omega), g 4 (by omega) (by omega), g 5 (by omega) (by omega), g 6 (by omega) (by omega), g 8 (by omega) (by omega)]
  · simp [g 0 (by omega) (by omega), g 1 (by omega) (by omega), g 2 (by omega) (by omega), g 3 (by omega) (by omega), g 4 (by omega) (by omega), g 5 (by omega) (by omega), g 6 (by omega) (by omega), g 7 (by omega) (by omega)]
/-- The block B holds the words of the sum N. -/
def SumAt (w : World) (B N : Nat) : Prop := SumW w B (wd N)

/-- What the loop of add keeps. -/
structure AddAt (w wr : World) (B b : Nat) (f : Nat → Nat) : Prop where
  num : NumAt wr w.heap.size b
  sum : SumW wr B f
  lt : B < w.heap.size
  off : Off (fun k => k = B) w wr
theorem AddAt.congr {w wr : World} {B b : Nat} {f f' : Nat → Nat} (h : AddAt w wr B b f) (hf : ∀ p, p < 9 → f p = f' p) : AddAt w wr B b f' := ⟨h.num, h.sum.congr hf, h.lt, h.off⟩
theorem AddAt.store {w wr : World} {B b k x : Nat} {f f' : Nat → Nat} (h : AddAt w wr B b f) (hk : k < 9) (hx : f' k = x) (hf : ∀ p, p < 9 → p ≠ k → f p = f' p) : AddAt w (wr.setCell ⟨B, k, none⟩ (.int .u64 (x : Int))) B b f' :=
  ⟨(Below.heap_setCell _ _ _ _ (show w.heap.size ≠ B from Nat.ne_of_gt h.lt)).trans h.num, h.sum.store hk hx hf, h.lt, h.off.setCell (fun _ => rfl) _⟩
theorem AddAt.drew {w wr : World} {B b : Nat} {f : Nat → Nat} (h : AddAt w wr B b f) : AddAt w wr.drew B b f := ⟨h.num, h.sum, h.lt, h.off.drew⟩
theorem AddAt.start {w : World} {B : Nat} (b : Nat) {f : Nat → Nat} (h : SumW w B f) : AddAt w (w.alloc (.cells #[.int .u64 (wd b 0 : Int), .int .u64 (wd b 1 : Int), .int .u64 (wd b 2 : Int), .int .u64 (wd b 3 : Int)] 39)) B b f :=
  ⟨heap_new' rfl _, heap_old' h _, heap_lt h, (Off.refl _ w).alloc _⟩

attribute [local go_sem ↓] Go.wp_at_zero Go.wp_at_succ
set_option maxRecDepth 100000 in
set_option maxHeartbeats 4000000 in
theorem sumadd_any (N x b i B : Nat) (hx : x < 18446744073709551616) (hb : b < R256) (hi : i < 4) (hN : N + x * b * W64 ^ i < W64 ^ (i + 6)) (w : World) (hA : SumAt w B N) :
    Calls Tryd.prog 48 #[.pointer (some ⟨B, 0, none⟩), .int .i64 (i : Int), .int .u64 (x : Int), V b] w fun e w' => e = .returned (.tuple #[]) ∧ SumAt w' B (N + x * b * W64 ^ i) ∧ Off (fun k => k = B) w w' := by
  have HB := Lib.hid hb
  have HN := Lib.hid hN
  have HX := Lib.hid hx
  have HA := Lib.hid hA
  clear hb hN hA
  go_enter Tryd.func48, Tryd.ntmps48
  go_wp2
  go_loopw [8, 10] (fun c i' wr => ∃ k : Nat, k ≤ 4 ∧ i' = .int .i64 k ∧ c = .int .u64 (mulC W64 N x b i k : Int) ∧ AddAt w wr B b (midN W64 N x b i k)) (fun _ i' _ => 4 - (intOf i').toNat)
  case atStart => exact ⟨0, by omega, rfl, by rw [mulC_zero]; rfl, AddAt.start b (SumW.congr HA.out (fun p _ => (midN_zero _ _ _ _ _ _).symm))⟩
  case round =>
    obtain ⟨k, hk, rfl, rfl, hA⟩ := hrel
    by_cases hlt2 : k < 4
    · have j1 : decide ((k : Int) < 4) = true := by simp; omega
      have cb := hA.num.cell k hlt2
      have cp := hA.sum.cell (i + k) (by omega)
      rw [midN_here] at cp
      have hn := midN_new w64_pos N x b i k
      have hm := midNC_new w64_pos N x b i k
      have hcl := mulC_lt (B := W64) (by decide) N x b i k hx
      have fz := frozen_of_heap hA.sum (i + k)
      obtain ⟨y, hy⟩ : ∃ y, y = wd b k := ⟨_, rfl⟩
      obtain ⟨z, hz⟩ : ∃ z, z = dg W64 N (i + k) := ⟨_, rfl⟩
      obtain ⟨c, hc⟩ : ∃ c, c = mulC W64 N x b i k := ⟨_, rfl⟩
      have hyl : y < 18446744073709551616 := by rw [hy]; exact wd_lt _ _
      have hzl : z < 18446744073709551616 := by rw [hz]; exact dg_lt w64_pos _ _
      have hcl' : c < 18446744073709551616 := by rw [hc]; exact hcl
      have hn' : midN W64 N x b i (k + 1) (i + k) = (x * y + z + c) % 18446744073709551616 := by rw [hn, hy, hz, hc]; rfl
      have hm' : mulC W64 N x b i (k + 1) = (x * y + z + c) / 18446744073709551616 := by rw [hm, hy, hz, hc]; rfl
      have hM := fun w => mmuladd_any x y z c hx hyl hzl hcl' w
      simp only [← hn', ← hm'] at hM
      rw [← hy] at cb
      rw [← hz] at cp
      rw [← hc]
      obtain ⟨s, hs⟩ : ∃ s, s = i + k := ⟨_, rfl⟩
      simp only [← hs] at cp fz hM
      have s0 : IntKind.i64.wrap ((i : Int) + (k : Int)) = (s : Int) := by rw [IntWalk.i64_in _ (by omega)]; omega
      have s1 : (s : Int) < 9 := by omega
      have s2 : (0 : Int) ≤ (s : Int) := by omega
      have HS := Lib.hid hs
      have HA' := Lib.hid hA
      obtain ⟨p, hp⟩ : ∃ p, p = midN W64 N x b i (k + 1) s := ⟨_, rfl⟩
      obtain ⟨c', hc'⟩ : ∃ c', c' = mulC W64 N x b i (k + 1) := ⟨_, rfl⟩
      simp only [← hp, ← hc'] at hM
      have HP := Lib.hid hp
      have HC' := Lib.hid hc'
      have HM := Lib.hid hM
      clear hA hn hm hcl hy hz hc hn' hm' hs hp hc' hM hx HA HN HB
      go_wp2
      go_region_with (go_at_call 53; refine (HM.out _).mono ?_; rintro e w' ⟨rfl, rfl⟩)
      all_goals
        go_wp2
        go_roundw
        case rel => exact ⟨k + 1, by omega, by go_num, by rw [HC'.out], (HA'.out.store (k := s) (x := p) (by omega) HP.out.symm (fun j _ hj => midN_other w64_pos N x b i k j (by rw [← HS.out]; exact hj))).drew⟩
        case measure => simp [intOf]; omega
    · obtain rfl : k = 4 := by omega
      have cp := hA.sum.cell (i + 4) (by omega)
      have fz := fun j => frozen_of_heap hA.sum j
      rw [midN_here] at cp
      have hb0 : dg W64 b 4 = 0 := dg_zero_of_lt HB.out
      have hb1 : dg W64 b 5 = 0 := dg_zero_of_lt (Nat.lt_of_lt_of_le HB.out (Nat.pow_le_pow_right w64_pos (by omega)))
      have hn := midN_new w64_pos N x b i 4
      have hm := midNC_new w64_pos N x b i 4
      have hn2 := midN_new w64_pos N x b i 5
      rw [hb0, Nat.mul_zero, Nat.zero_add] at hn hm
      rw [hb1, Nat.mul_zero, Nat.zero_add] at hn2
      have hcl := mulC_lt (B := W64) (by decide) N x b i 4 hx
      have hcl2 := mulC_lt (B := W64) (by decide) N x b i 5 hx
      have hzl : dg W64 N (i + 4) < 18446744073709551616 := dg_lt w64_pos _ _
      have hyl : dg W64 N (i + 5) < 18446744073709551616 := dg_lt w64_pos _ _
      obtain ⟨c, hc⟩ : ∃ c, c = mulC W64 N x b i 4 := ⟨_, rfl⟩
      obtain ⟨d, hd⟩ : ∃ d, d = mulC W64 N x b i 5 := ⟨_, rfl⟩
      obtain ⟨z, hz⟩ : ∃ z, z = dg W64 N (i + 4) := ⟨_, rfl⟩
      obtain ⟨y, hy⟩ : ∃ y, y = dg W64 N (i + 5) := ⟨_, rfl⟩
      obtain ⟨p, hp⟩ : ∃ p, p = midN W64 N x b i 5 (i + 4) := ⟨_, rfl⟩
      obtain ⟨q, hq⟩ : ∃ q, q = midN W64 N x b i 6 (i + 5) := ⟨_, rfl⟩
      have hA1 := hA.store (k := i + 4) (x := p) (f' := midN W64 N x b i 5) (by omega) hp.symm (fun j _ hj => midN_other w64_pos N x b i 4 j hj)
      have cq := hA1.drew.sum.cell (i + 5) (by omega)
      rw [midN_here, ← hy] at cq
      have hA2 := hA1.drew.store (k := i + 5) (x := q) (f' := midN W64 N x b i 6) (by omega) hq.symm (fun j _ hj => midN_other w64_pos N x b i 5 j hj)
      have fz2 := fun j => frozen_of_heap hA1.drew.sum j
      rw [← hz, ← hc] at hn hm
      rw [← hy, ← hd] at hn2
      rw [← hp] at hn
      rw [← hd] at hm
      rw [← hq] at hn2
      rw [← hz] at cp hzl
      rw [← hy] at hyl
      rw [← hc] at hcl ⊢
      rw [← hd] at hcl2
      have r1 : ∀ w, (callFunc 54 #[.int .u64 (z : Int), .int .u64 (c : Int), .int .u64 0]).run Tryd.prog w = .ok (.value (.tuple #[.int .u64 (p : Int), .int .u64 (d : Int)])) w := fun w => by
        unfold W64 at hn hm hcl
        rw [run_add64_at _ _ _ ⟨by omega, by omega⟩ ⟨by omega, by omega⟩ (by omega) (by omega) w, show ((z : Int) + (c : Int) + 0) % 18446744073709551616 = (p : Int) by omega, show ((z : Int) + (c : Int) + 0) / 18446744073709551616 = (d : Int) by omega]
      have w1 : IntKind.u64.wrap ((y : Int) + (d : Int)) = (q : Int) := by unfold W64 at hn2; rw [IntKind.wrap_u64]; omega
      have hdone : ∀ j, midN W64 N x b i 6 j = wd (N + x * b * W64 ^ i) j := fun j => midN_done w64_pos (Nat.lt_of_lt_of_le HB.out (Nat.pow_le_pow_right w64_pos (by omega))) HN.out
      have HS := Lib.hid (hA2.congr (f' := wd (N + x * b * W64 ^ i)) (fun j _ => hdone j))
      obtain ⟨s, hs⟩ : ∃ s, s = i + 4 := ⟨_, rfl⟩
      obtain ⟨t, ht⟩ : ∃ t, t = i + 5 := ⟨_, rfl⟩
      rw [← hs] at cp cq HS
      rw [← ht] at cq HS
      have s0 : IntKind.i64.wrap ((i : Int) + 4) = (s : Int) := by rw [IntWalk.i64_in _ (by omega)]; omega
      have t0 : IntKind.i64.wrap ((s : Int) + 1) = (t : Int) := by rw [IntWalk.i64_in _ (by omega)]; omega
      have s1 : (s : Int) < 9 := by omega
      have s2 : (0 : Int) ≤ (s : Int) := by omega
      have t1 : (t : Int) < 9 := by omega
      have t2 : (0 : Int) ≤ (t : Int) := by omega
      have fs := fz s
      have fu := fz2 t
      rw [← hs] at fu
      clear hA hA1 hA2 hdone hn hm hn2 hcl hcl2 hzl hyl hc hd hz hy hp hq hs ht HA HN HB hx HX fz fz2 hb0 hb1
      go_wp2
      go_region_with (fail)
      all_goals
        go_wp2
        go_region
        all_goals
          go_wp2
          go_end0
          exact ⟨rfl, HS.out.sum, HS.out.off.os, HS.out.off.tape, HS.out.off.output, HS.out.off.size, HS.out.off.block, HS.out.off.others⟩
end Go.Proofs.YtpiialjnjfkfeaaDoor
