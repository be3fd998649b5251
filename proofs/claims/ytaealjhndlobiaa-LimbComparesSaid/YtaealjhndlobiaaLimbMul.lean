/-
  The contract of limb.Mul over this seat's translation: the low and the high half of the product. Conditions: the arguments are numbers of four words.
-/
import Derived.Test.YtaealjhndlobiaaLimbOps
import Derived.Test.YtaealjhndlobiaaBitsMul
import Derived.StillTailTactics
namespace Go.Proofs.Ytaealjhndlobiaa
open Go.RowKit

theorem mul_bound {a b : Nat} (ha : a < 18446744073709551616) (hb : b < 18446744073709551616) : a * b ≤ 340282366920938463426481119284349108225 := by
  have := Nat.mul_le_mul (show a ≤ 18446744073709551615 by omega) (show b ≤ 18446744073709551615 by omega)
  simpa using this

set_option maxHeartbeats 1000000 in
theorem muladd_any (a b c d : Nat) (ha : a < 18446744073709551616) (hb : b < 18446744073709551616) (hc : c < 18446744073709551616) (hd : d < 18446744073709551616) (w : World) :
    Calls Try.prog 29 #[.int .u64 (a : Int), .int .u64 (b : Int), .int .u64 (c : Int), .int .u64 (d : Int)] w fun e w' => e = .returned (.tuple #[.int .u64 (((a * b + c + d) % 18446744073709551616 : Nat) : Int), .int .u64 (((a * b + c + d) / 18446744073709551616 : Nat) : Int)]) ∧ w = w' := by
  have hP := mul_bound ha hb
  have hM := mul64_any a b ha hb w
  obtain ⟨P, hPe⟩ : ∃ P, P = a * b := ⟨_, rfl⟩
  rw [← hPe] at hM hP ⊢
  obtain ⟨h, hh⟩ : ∃ h, h = P / 18446744073709551616 := ⟨_, rfl⟩
  obtain ⟨l, hl⟩ : ∃ l, l = P % 18446744073709551616 := ⟨_, rfl⟩
  rw [← hh, ← hl] at hM
  obtain ⟨l1, hl1⟩ : ∃ l1, l1 = (l + c) % 18446744073709551616 := ⟨_, rfl⟩
  obtain ⟨c1, hc1⟩ : ∃ c1, c1 = (l + c) / 18446744073709551616 := ⟨_, rfl⟩
  obtain ⟨h1, hh1⟩ : ∃ h1, h1 = h + c1 := ⟨_, rfl⟩
  obtain ⟨l2, hl2⟩ : ∃ l2, l2 = (l1 + d) % 18446744073709551616 := ⟨_, rfl⟩
  obtain ⟨c2, hc2⟩ : ∃ c2, c2 = (l1 + d) / 18446744073709551616 := ⟨_, rfl⟩
  obtain ⟨h2, hh2⟩ : ∃ h2, h2 = h1 + c2 := ⟨_, rfl⟩
  have r1 : ∀ w, (callFunc 24 #[.int .u64 (l : Int), .int .u64 (c : Int), .int .u64 0]).run Try.prog w = .ok (.value (.tuple #[.int .u64 (l1 : Int), .int .u64 (c1 : Int)])) w := fun w => by
    rw [run_add64_at _ _ _ ⟨by omega, by omega⟩ ⟨by omega, by omega⟩ (by omega) (by omega) w, show ((l : Int) + (c : Int) + 0) % 18446744073709551616 = (l1 : Int) by omega, show ((l : Int) + (c : Int) + 0) / 18446744073709551616 = (c1 : Int) by omega]
  have r2 : ∀ w, (callFunc 24 #[.int .u64 (l1 : Int), .int .u64 (d : Int), .int .u64 0]).run Try.prog w = .ok (.value (.tuple #[.int .u64 (l2 : Int), .int .u64 (c2 : Int)])) w := fun w => by
    rw [run_add64_at _ _ _ ⟨by omega, by omega⟩ ⟨by omega, by omega⟩ (by omega) (by omega) w, show ((l1 : Int) + (d : Int) + 0) % 18446744073709551616 = (l2 : Int) by omega, show ((l1 : Int) + (d : Int) + 0) / 18446744073709551616 = (c2 : Int) by omega]
  have w1 : IntKind.u64.wrap ((h : Int) + (c1 : Int)) = (h1 : Int) := by rw [IntKind.wrap_u64]; omega
  have w2 : IntKind.u64.wrap ((h1 : Int) + (c2 : Int)) = (h2 : Int) := by rw [IntKind.wrap_u64]; omega
  have e1 : (P + c + d) % 18446744073709551616 = l2 := by omega
  have e2 : (P + c + d) / 18446744073709551616 = h2 := by omega
  rw [e1, e2]
  have HM := Lib.hid hM
  clear hM e1 e2 hh hl hl1 hc1 hh1 hl2 hc2 hh2 hPe hP ha hb hc hd
  go_enter Try.func29, Try.ntmps29
  go_wp2_with fail
  refine HM.out.mono ?_
  rintro e w' ⟨rfl, rfl⟩
  go_wp2
  go_ret2
  exact ⟨rfl, rfl⟩

/-- The block b holds the eight words f 0, f 1, .. -/
def ProdAt (w : World) (b : Nat) (f : Nat → Nat) : Prop := w.heap[b]? = some (.cells #[.int .u64 (f 0 : Int), .int .u64 (f 1 : Int), .int .u64 (f 2 : Int), .int .u64 (f 3 : Int), .int .u64 (f 4 : Int), .int .u64 (f 5 : Int), .int .u64 (f 6 : Int), .int .u64 (f 7 : Int)] 44 (0, 0))
theorem below8 {p : Nat} (h : p < 8) : p = 0 ∨ p = 1 ∨ p = 2 ∨ p = 3 ∨ p = 4 ∨ p = 5 ∨ p = 6 ∨ p = 7 := by omega
theorem ProdAt.cell {w : World} {b : Nat} {f : Nat → Nat} (h : ProdAt w b f) (k : Nat) (hk : k < 8) : w.cell? ⟨b, k, none⟩ = some (.int .u64 (f k : Int)) := by
  rw [cell_of_heap h]
  rcases below8 hk with rfl | rfl | rfl | rfl | rfl | rfl | rfl | rfl <;> rfl
theorem ProdAt.congr {w : World} {b : Nat} {f f' : Nat → Nat} (h : ProdAt w b f) (hf : ∀ p, p < 8 → f p = f' p) : ProdAt w b f' := by
  unfold ProdAt at *
  rw [h, hf 0 (by omega), hf 1 (by omega), hf 2 (by omega), hf 3 (by omega), hf 4 (by omega), hf 5 (by omega), hf 6 (by omega), hf 7 (by omega)]
theorem ProdAt.store {w : World} {b k x : Nat} {f f' : Nat → Nat} (h : ProdAt w b f) (hk : k < 8) (hx : f' k = x) (hf : ∀ p, p < 8 → p ≠ k → f p = f' p) : ProdAt (w.setCell ⟨b, k, none⟩ (.int .u64 (x : Int))) b f' := by
  have h2 := heap_set h k (.int .u64 (x : Int))
  unfold ProdAt
  rw [h2, ← hx]
  rcases below8 hk with rfl | rfl | rfl | rfl | rfl | rfl | rfl | rfl
  · simp [hf 1 (by omega) (by omega), hf 2 (by omega) (by omega), hf 3 (by omega) (by omega), hf 4 (by omega) (by omega), hf 5 (by omega) (by omega), hf 6 (by omega) (by omega), hf 7 (by omega) (by omega)]
  · simp [hf 0 (by omega) (by omega), hf 2 (by omega) (by omega), hf 3 (by omega) (by omega), hf 4 (by omega) (by omega), hf 5 (by omega) (by omega), hf 6 (by omega) (by omega), hf 7 (by omega) (by omega)]
  · simp [hf 0 (by omega) (by omega), hf 1 (by omega) (by omega), hf 3 (by omega) (by omega), hf 4 (by omega) (by omega), hf 5 (by omega) (by omega), hf 6 (by omega) (by omega), hf 7 (by omega) (by omega)]
  · simp [hf 0 (by omega) (by omega), hf 1 (by omega) (by omega), hf 2 (by omega) (by omega), hf 4 (by omega) (by omega), hf 5 (by omega) (by omega), hf 6 (by omega) (by omega), hf 7 (by omega) (by omega)]
  · simp [hf 0 (by omega) (by omega), hf 1 (by omega) (by omega), hf 2 (by omega) (by omega), hf 3 (by omega) (by omega), hf 5 (by omega) (by omega), hf 6 (by omega) (by omega), hf 7 (by omega) (by omega)]
  · simp [hf 0 (by omega) (by omega), hf 1 (by omega) (by omega), hf 2 (by omega) (by omega), hf 3 (by omega) (by omega), hf 4 (by omega) (by omega), hf 6 (by omega) (by omega), hf 7 (by omega) (by omega)]
  · simp [hf 0 (by omega) (by omega), hf 1 (by omega) (by omega), hf 2 (by omega) (by omega), hf 3 (by omega) (by omega), hf 4 (by omega) (by omega), hf 5 (by omega) (by omega), hf 7 (by omega) (by omega)]
  · simp [hf 0 (by omega) (by omega), hf 1 (by omega) (by omega), hf 2 (by omega) (by omega), hf 3 (by omega) (by omega), hf 4 (by omega) (by omega), hf 5 (by omega) (by omega), hf 6 (by omega) (by omega)]

/-- What the loops of Mul keep. -/
structure MulAt (w wr : World) (a b : Nat) (f : Nat → Nat) : Prop where
  a : NumAt wr w.heap.size a
  b : NumAt wr (w.heap.size + 1) b
  lo : PartAt wr (w.heap.size + 1 + 1) 0 0
  hi : PartAt wr (w.heap.size + 1 + 1 + 1) 0 0
  prod : ProdAt wr (w.heap.size + 1 + 1 + 1 + 1) f
  off : Off (fun _ => False) w wr
theorem MulAt.congr {w wr : World} {a b : Nat} {f f' : Nat → Nat} (h : MulAt w wr a b f) (hf : ∀ p, p < 8 → f p = f' p) : MulAt w wr a b f' := ⟨h.a, h.b, h.lo, h.hi, h.prod.congr hf, h.off⟩
theorem MulAt.store {w wr : World} {a b k x : Nat} {f f' : Nat → Nat} (h : MulAt w wr a b f) (hk : k < 8) (hx : f' k = x) (hf : ∀ p, p < 8 → p ≠ k → f p = f' p) :
    MulAt w (wr.setCell ⟨w.heap.size + 1 + 1 + 1 + 1, k, none⟩ (.int .u64 (x : Int))) a b f' := by
  have far : ∀ j, j ≠ w.heap.size + 1 + 1 + 1 + 1 → (wr.setCell ⟨w.heap.size + 1 + 1 + 1 + 1, k, none⟩ (.int .u64 (x : Int))).heap[j]? = wr.heap[j]? := fun j hj => Below.heap_setCell _ _ _ _ hj
  exact ⟨(far _ (by omega)).trans h.a, (far _ (by omega)).trans h.b, (far _ (by omega)).trans h.lo, (far _ (by omega)).trans h.hi, h.prod.store hk hx hf, h.off.setCell (fun c => by simp at c; omega) _⟩
theorem MulAt.drew {w wr : World} {a b : Nat} {f : Nat → Nat} (h : MulAt w wr a b f) : MulAt w wr.drew a b f := ⟨h.a, h.b, h.lo, h.hi, h.prod, h.off.drew⟩

theorem MulAt.start (w : World) (a b : Nat) : MulAt w (((((w.alloc (.cells #[.int .u64 (wd a 0 : Int), .int .u64 (wd a 1 : Int), .int .u64 (wd a 2 : Int), .int .u64 (wd a 3 : Int)] 23)).alloc (.cells #[.int .u64 (wd b 0 : Int), .int .u64 (wd b 1 : Int), .int .u64 (wd b 2 : Int), .int .u64 (wd b 3 : Int)] 23)).alloc (.cells #[.int .u64 0, .int .u64 0, .int .u64 0, .int .u64 0] 23)).alloc (.cells #[.int .u64 0, .int .u64 0, .int .u64 0, .int .u64 0] 23)).alloc (.cells #[.int .u64 0, .int .u64 0, .int .u64 0, .int .u64 0, .int .u64 0, .int .u64 0, .int .u64 0, .int .u64 0] 44)) a b (wd (a % W64 ^ 0 * b)) := by
  have e : a % W64 ^ 0 * b = 0 := by simp [Nat.mod_one]
  have z : ∀ p, wd 0 p = 0 := fun p => by unfold wd dg; simp
  rw [e]
  refine ⟨heap_old' (heap_old' (heap_old' (heap_old' (heap_new' rfl _) _) _) _) _, heap_old' (heap_old' (heap_old' (heap_new' (by simp) _) _) _) _, heap_old' (heap_old' (heap_new' (by simp) _) _) _, heap_old' (heap_new' (by simp) _) _, ?_, (((((Off.refl _ w).alloc _).alloc _).alloc _).alloc _).alloc _⟩
  unfold ProdAt
  simp only [z]
  exact heap_new' (by simp) _

attribute [local go_sem ↓] Go.wp_at_zero Go.wp_at_succ
set_option maxRecDepth 100000 in
set_option maxHeartbeats 4000000 in
theorem mul_any (a b : Nat) (hb : b < R256) (w : World) :
    Calls Try.prog 14 #[V a, V b] w fun e w' => e = .returned (.tuple #[V (a % R256 * b), V (a % R256 * b / R256)]) ∧ Off (fun _ => False) w w' := by
  have HB := Lib.hid hb
  clear hb
  go_enter Try.func14, Try.ntmps14
  go_wp2
  go_loopw [10] (fun i wr => ∃ k : Nat, k ≤ 4 ∧ i = .int .i64 k ∧ MulAt w wr a b (wd (a % W64 ^ k * b))) (fun i _ => 4 - (intOf i).toNat)
  case atStart => exact ⟨0, by omega, rfl, MulAt.start w a b⟩
  case round =>
    obtain ⟨i, hi, rfl, hA⟩ := hrel
    by_cases hlt : i < 4
    · have i1 : decide ((i : Int) < 4) = true := by simp; omega
      have hx := hA.a.cell i hlt
      have HA := Lib.hid hA
      clear hA
      go_wp2
      obtain ⟨wo, rfl⟩ : ∃ wo : World, wo = wr := ⟨_, rfl⟩
      go_loopw [8, 13] (fun c i' wr => ∃ k : Nat, k ≤ 4 ∧ i' = .int .i64 k ∧ c = .int .u64 (mulC W64 (a % W64 ^ i * b) (wd a i) b i k : Int) ∧ MulAt w wr a b (midW W64 a b i k)) (fun _ i' _ => 4 - (intOf i').toNat)
      case atStart => exact ⟨0, by omega, rfl, by rw [mulC_zero]; rfl, HA.out.congr (fun p _ => (midW_zero _ _ _ _ _).symm)⟩
      case round =>
        obtain ⟨k, hk, rfl, rfl, hA⟩ := hrel
        by_cases hlt2 : k < 4
        · have j1 : decide ((k : Int) < 4) = true := by simp; omega
          have ca := hA.a.cell i hlt
          have cb := hA.b.cell k hlt2
          have cp := hA.prod.cell (i + k) (by omega)
          rw [midW_here] at cp
          have hn := midW_new w64_pos a b i k
          have hm := midC_new w64_pos a b i k
          have hcl := mulC_lt (B := W64) (by decide) (a % W64 ^ i * b) (wd a i) b i k (wd_lt a i)
          have fz := frozen_of_heap hA.prod (i + k)
          obtain ⟨x, hx⟩ : ∃ x, x = wd a i := ⟨_, rfl⟩
          obtain ⟨y, hy⟩ : ∃ y, y = wd b k := ⟨_, rfl⟩
          obtain ⟨z, hz⟩ : ∃ z, z = dg W64 (a % W64 ^ i * b) (i + k) := ⟨_, rfl⟩
          obtain ⟨c, hc⟩ : ∃ c, c = mulC W64 (a % W64 ^ i * b) (wd a i) b i k := ⟨_, rfl⟩
          have hxl : x < 18446744073709551616 := by rw [hx]; exact wd_lt _ _
          have hyl : y < 18446744073709551616 := by rw [hy]; exact wd_lt _ _
          have hzl : z < 18446744073709551616 := by rw [hz]; exact dg_lt w64_pos _ _
          have hcl' : c < 18446744073709551616 := by rw [hc]; exact hcl
          have hn' : midW W64 a b i (k + 1) (i + k) = (x * y + z + c) % 18446744073709551616 := by rw [hn, hx, hy, hz, hc]; rfl
          have hm' : mulC W64 (a % W64 ^ i * b) (wd a i) b i (k + 1) = (x * y + z + c) / 18446744073709551616 := by
            have : mulC W64 (a % W64 ^ i * b) (wd a i) b i (k + 1) = mulC W64 (a % W64 ^ i * b) (dg W64 a i) b i (k + 1) := rfl
            rw [this, hm, hx, hy, hz, hc]; rfl
          have hM := fun w => muladd_any x y z c hxl hyl hzl hcl' w
          simp only [← hn', ← hm'] at hM
          rw [← hx] at ca
          rw [← hy] at cb
          rw [← hz] at cp
          rw [← hc]
          obtain ⟨s, hs⟩ : ∃ s, s = i + k := ⟨_, rfl⟩
          simp only [← hs] at cp fz hM
          have s0 : IntKind.i64.wrap ((i : Int) + (k : Int)) = (s : Int) := by rw [IntWalk.i64_in _ (by omega)]; omega
          have s1 : (s : Int) < 8 := by omega
          have s2 : (0 : Int) ≤ (s : Int) := by omega
          have HS := Lib.hid hs
          have HA' := Lib.hid hA
          obtain ⟨p, hp⟩ : ∃ p, p = midW W64 a b i (k + 1) s := ⟨_, rfl⟩
          obtain ⟨c', hc'⟩ : ∃ c', c' = mulC W64 (a % W64 ^ i * b) (wd a i) b i (k + 1) := ⟨_, rfl⟩
          simp only [← hp, ← hc'] at hM
          have HP := Lib.hid hp
          have HC' := Lib.hid hc'
          have HM := Lib.hid hM
          clear hA hn hm hcl hx hy hz hc hn' hm' hs hp hc' hM
          go_wp2
          go_region_with (go_at_call 29; refine (HM.out _).mono ?_; rintro e w' ⟨rfl, rfl⟩)
          all_goals
            go_wp2
            go_roundw
            case rel => exact ⟨k + 1, by omega, by go_num, by rw [HC'.out], (HA'.out.store (k := s) (x := p) (by omega) HP.out.symm (fun j _ hj => midW_other w64_pos a b i k j (by rw [← HS.out]; exact hj))).drew⟩
            case measure => simp [intOf]; omega
        · obtain rfl : k = 4 := by omega
          have cp := hA.prod.cell (i + 4) (by omega)
          have fz := frozen_of_heap hA.prod (i + 4)
          have hct := mulC_top (B := W64) (a := a) (i := i) w64_pos HB.out
          have hdone := fun p hp => midW_done (B := W64) (a := a) (i := i) (p := p) w64_pos HB.out hp
          have hcl := mulC_lt (B := W64) (by decide) (a % W64 ^ i * b) (wd a i) b i 4 (wd_lt a i)
          obtain ⟨c, hc⟩ : ∃ c, c = mulC W64 (a % W64 ^ i * b) (wd a i) b i 4 := ⟨_, rfl⟩
          obtain ⟨z, hz⟩ : ∃ z, z = midW W64 a b i 4 (i + 4) := ⟨_, rfl⟩
          rw [← hz] at cp
          rw [← hc] at hcl ⊢
          have hc2 : wd (a % W64 ^ (i + 1) * b) (i + 4) = c := by rw [hc]; exact hct.symm
          have HS := Lib.hid (hA.store (k := i + 4) (x := c) (f' := wd (a % W64 ^ (i + 1) * b)) (by omega) hc2 (fun p _ hp => hdone p hp))
          obtain ⟨s, hs⟩ : ∃ s, s = i + 4 := ⟨_, rfl⟩
          rw [← hs] at cp fz HS
          have s0 : IntKind.i64.wrap ((i : Int) + 4) = (s : Int) := by rw [IntWalk.i64_in _ (by omega)]; omega
          have s1 : (s : Int) < 8 := by omega
          have s2 : (0 : Int) ≤ (s : Int) := by omega
          clear hA hct hdone hc hz hc2 hs HA
          go_wp2
          go_roundw
          case rel => exact ⟨i + 1, by omega, by go_num, HS.out⟩
          case measure => simp [intOf]; omega
    · obtain rfl : i = 4 := by omega
      obtain ⟨w1, hc1, hN1, hO1⟩ := copy_num wr.drew (w.heap.size + 1 + 1) (w.heap.size + 1 + 1 + 1 + 1) 0 4 8 (a % R256 * b) hA.lo (fun j hj => by rw [Nat.zero_add]; exact hA.prod.cell j (by omega)) (by omega)
      have hP1 : ProdAt w1 (w.heap.size + 1 + 1 + 1 + 1) (wd (a % W64 ^ 4 * b)) := hO1.heap hA.prod (by omega)
      have hi1 : PartAt w1 (w.heap.size + 1 + 1 + 1) 0 0 := hO1.heap hA.hi (by omega)
      obtain ⟨w2, hc2, hN2, hO2⟩ := copy_num w1.drew (w.heap.size + 1 + 1 + 1) (w.heap.size + 1 + 1 + 1 + 1) 4 4 4 (a % R256 * b / R256) hi1 (fun j hj => by rw [wd_div, Nat.add_comm j 4]; exact hP1.cell (4 + j) (by omega)) (by omega)
      have hN3 : NumAt w2 (w.heap.size + 1 + 1) (a % R256 * b) := hO2.heap hN1 (by omega)
      have hO : Off (fun _ => False) w w2 := (hA.off.drew.trans hO1 (fun j hj e => by omega)).drew.trans hO2 (fun j hj e => by omega)
      obtain ⟨l0, l1, l2, l3⟩ := hN3.four
      obtain ⟨h0, h1, h2, h3⟩ := hN2.four
      have lz := fun k => frozen_of_heap hN3 k
      have hz := fun k => frozen_of_heap hN2 k
      have HO := Lib.hid hO
      clear hA hN1 hO1 hP1 hi1 hN2 hO2 hN3 hO
      go_wp2
      go_region
      go_wp2
      go_region
      go_wp2
      refine bodyPost_ret (v := .tuple #[V (a % R256 * b), V (a % R256 * b / R256)]) (by simp [results, Try.results14, go_sem, l0, l1, l2, l3, h0, h1, h2, h3]) rfl ⟨rfl, ?_⟩
      have hn : ∀ j, (⟨w.heap.size + 1 + 1, j, none⟩ : Addr).block < w.heap.size → False := fun j c => by simp at c; omega
      have hm : ∀ j, (⟨w.heap.size + 1 + 1 + 1, j, none⟩ : Addr).block < w.heap.size → False := fun j c => by simp at c; omega
      exact (((((((HO.out.setCell (hn 0) _).setCell (hn 1) _).setCell (hn 2) _).setCell (hn 3) _).setCell (hm 0) _).setCell (hm 1) _).setCell (hm 2) _).setCell (hm 3) _
end Go.Proofs.Ytaealjhndlobiaa
