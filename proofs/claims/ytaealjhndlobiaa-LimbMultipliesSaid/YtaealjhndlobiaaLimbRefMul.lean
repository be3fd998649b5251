/-
  The contract of the reference's Mul over this seat's translation: the low and the high half of the product. Conditions: the arguments are numbers of four words.
-/
import Derived.Test.YtaealjhndlobiaaLimbRef
namespace Go.Proofs.Ytaealjhndlobiaa
open Go.RowKit

/-- What the loops of the reference's Mul keep: the digits of the numbers, and those of the product so far. -/
structure RMulAt (w wr : World) (gx cx gy cy go : Nat) (a b : Nat) (f : Nat → Nat) : Prop where
  x : Row wr 0 (.slice (some ⟨gx, 0, none⟩) 16 cx) 16 (d16 a)
  y : Row wr 0 (.slice (some ⟨gy, 0, none⟩) 16 cy) 16 (d16 b)
  out : Row wr 0 (.slice (some ⟨go, 0, none⟩) 33 33) 33 f
  lo : PartAt wr (w.heap.size + 1 + 1) 0 0
  hi : PartAt wr (w.heap.size + 1 + 1 + 1) 0 0
  off : Off (fun _ => False) w wr
theorem RMulAt.congr {w wr : World} {gx cx gy cy go a b : Nat} {f f' : Nat → Nat} (h : RMulAt w wr gx cx gy cy go a b f) (hf : ∀ p, p < 33 → f p = f' p) : RMulAt w wr gx cx gy cy go a b f' := ⟨h.x, h.y, h.out.congr hf, h.lo, h.hi, h.off⟩
theorem RMulAt.store {w wr : World} {gx cx gy cy go a b k x : Nat} {f f' : Nat → Nat} (h : RMulAt w wr gx cx gy cy go a b f) (hx : go ≠ gx) (hy : go ≠ gy) (hg : w.heap.size + 1 + 1 + 1 < go) (hk : k < 33) (hv : f' k = x) (hf : ∀ p, p < 33 → p ≠ k → f p = f' p) (m : Nat) :
    RMulAt w ((wr.drewN m).setCell ⟨go, k, none⟩ (.int .i64 (x : Int))) gx cx gy cy go a b f' := by
  have hO : Off (fun k => k = go) wr ((wr.drewN m).setCell ⟨go, k, none⟩ (.int .i64 (x : Int))) := ((Off.refl (fun k => k = go) wr).drewN m).setCell (p := ⟨go, k, none⟩) (fun _ => rfl) _
  exact ⟨h.x.off hO (fun j hj e => hx (by simp [Value.ownBlock] at hj; omega)), h.y.off hO (fun j hj e => hy (by simp [Value.ownBlock] at hj; omega)), (h.out.drewN m).store hk hv (fun i hi hne => hf i hi hne),
    hO.heap h.lo (by omega), hO.heap h.hi (by omega), h.off.trans hO (fun j hj e => by omega)⟩

theorem make_zeros (w : World) (n : Nat) (hn : n ≤ 1000) : ∃ w', (Instr.makeSlice 41 (.int .i64 (n : Int)) (.int .i64 (n : Int))).run Try.prog w = .ok (.slice (some ⟨w.heap.size, 0, none⟩) n n) w' ∧
    Row w' 0 (.slice (some ⟨w.heap.size, 0, none⟩) n n) n (fun _ => 0) ∧ Off (fun _ => False) w w' := by
  obtain ⟨i0, hi, hz0, hz1, hz2⟩ := info_parts int_info
  obtain ⟨w', h1, h2, h3⟩ := run_makeSlice_full (P := Try.prog) (w := w) 0 41 3 i0 _ 1 Try.underlying41 hi hz0 hz1 .i64 .i64 n (by omega) (by rw [hz2]; omega) (by unfold maxLen; omega) (Nat.zero_le _)
  refine ⟨w', h1, ?_, Off.of_grown h3⟩
  have e : (madeCells (Value.int .i64 0).cells (n * 1)).toList = ints (fun _ => 0) n := by
    rw [Nat.mul_one, show (Value.int .i64 0).cells = #[.int .i64 0] from rfl, toList_madeCells_one]
    unfold ints
    rw [List.map_const', List.length_range]; rfl
  unfold Row
  rw [← e]; exact h2

set_option maxRecDepth 100000 in
set_option maxHeartbeats 4000000 in
theorem refmul_any (a b : Nat) (hb : b < R256) (w : World) :
    Calls Try.prog 15 #[V a, V b] w fun e w' => e = .returned (.tuple #[V (a % R256 * b), V (a % R256 * b / R256)]) ∧ Off (fun _ => False) w w' := by
  have HB := Lib.hid (show b < 65536 ^ 16 by rw [← r256_pow]; exact hb)
  clear hb
  go_enter Try.func15, Try.ntmps15
  go_wp2_with fail
  refine (digits_any a _).mono ?_
  rintro e w1 ⟨vx, rfl, hX, hO1⟩
  obtain ⟨gx, cx, rfl, hgx, hgx2⟩ := hX.form (by omega)
  have hB : NumAt w1 (w.heap.size + 1) b := hO1.heap (heap_old' (heap_old' (heap_new' (by simp) _) _) _) (fun c => c)
  have hL : PartAt w1 (w.heap.size + 1 + 1) 0 0 := hO1.heap (heap_old' (heap_new' (by simp) _) _) (fun c => c)
  have hH : PartAt w1 (w.heap.size + 1 + 1 + 1) 0 0 := hO1.heap (heap_new' (by simp) _) (fun c => c)
  have hO1' : Off (fun _ => False) w w1 := (((((Off.refl _ w).alloc _).alloc _).alloc _).alloc _).trans hO1 (fun _ _ c => c)
  obtain ⟨b0, b1, b2, b3⟩ := hB.four
  have HX := Lib.hid hX
  have HO1 := Lib.hid hO1'
  have HL := Lib.hid hL
  have HH := Lib.hid hH
  have HG := Lib.hid hgx2
  have HG1 := Lib.hid hgx
  clear hX hO1 hO1' hB hL hH hgx hgx2
  go_wp2_with fail
  refine (digits_any b _).mono ?_
  rintro e w2 ⟨vy, rfl, hY, hO2⟩
  obtain ⟨gy, cy, rfl, hgy, hgy2⟩ := hY.form (by omega)
  have hX2 : Row w2 0 (.slice (some ⟨gx, 0, none⟩) 16 cx) 16 (d16 a) := (HX.out.off hO2 (fun _ _ c => c)).base0
  have hL2 : PartAt w2 (w.heap.size + 1 + 1) 0 0 := hO2.heap HL.out (fun c => c)
  have hH2 : PartAt w2 (w.heap.size + 1 + 1 + 1) 0 0 := hO2.heap HH.out (fun c => c)
  have hO3 : Off (fun _ => False) w w2 := HO1.out.trans hO2 (fun _ _ c => c)
  have n1 : w2.heap.size ≠ gx := by have := HG.out; have := hO2.size; omega
  have n2 : w2.heap.size ≠ gy := by omega
  have n3 : w.heap.size + 1 + 1 + 1 < w2.heap.size := by have := HH.out; have := heap_lt this; have := hO2.size; omega
  obtain ⟨w3, hmk, hZ, hO4⟩ := make_zeros w2 33 (by omega)
  obtain ⟨go, hgo⟩ : ∃ go, go = w2.heap.size := ⟨_, rfl⟩
  rw [← hgo] at hmk hZ n1 n2 n3
  have hS : RMulAt w w3 gx cx gy cy go a b (dg 65536 (a % 65536 ^ 0 * b)) := ⟨hX2.off hO4 (fun _ _ c => c), hY.base0.off hO4 (fun _ _ c => c), hZ.congr (fun p _ => by unfold dg; simp [Nat.mod_one]), hO4.heap hL2 (fun c => c), hO4.heap hH2 (fun c => c), hO3.trans hO4 (fun _ _ c => c)⟩
  have HS := Lib.hid hS
  have HN := Lib.hid (And.intro n1 (And.intro n2 n3))
  have hmk' : (Instr.makeSlice 41 (.int .i64 33) (.int .i64 33)).run Try.prog w2 = .ok (.slice (some ⟨go, 0, none⟩) 33 33) w3 := hmk
  clear hmk hS hZ hO4 hX2 hY hL2 hH2 hO3 hO2 HX HO1 HL HH HG HG1 hgy hgy2 b0 b1 b2 b3 n1 n2 n3 hgo
  go_wp2
  go_loopw [9] (fun i wr => ∃ k : Nat, k ≤ 16 ∧ i = .int .i64 k ∧ RMulAt w wr gx cx gy cy go a b (dg 65536 (a % 65536 ^ k * b))) (fun i _ => 16 - (intOf i).toNat)
  case atStart => exact ⟨0, by omega, rfl, HS.out⟩
  case round =>
    obtain ⟨i, hi, rfl, hA⟩ := hrel
    by_cases hlt : i < 16
    · have i1 : decide ((i : Int) < 16) = true := by simp; omega
      have HA := Lib.hid hA
      clear hA
      go_wp2
      obtain ⟨wo, rfl⟩ : ∃ wo : World, wo = wr := ⟨_, rfl⟩
      go_loopw [10, 11] (fun c i' wr => ∃ k : Nat, k ≤ 16 ∧ i' = .int .i64 k ∧ c = .int .i64 (mulC 65536 (a % 65536 ^ i * b) (d16 a i) b i k : Int) ∧ RMulAt w wr gx cx gy cy go a b (midW 65536 a b i k)) (fun _ i' _ => 16 - (intOf i').toNat)
      case atStart => exact ⟨0, by omega, rfl, by rw [mulC_zero]; rfl, HA.out.congr (fun p _ => (midW_zero _ _ _ _ _).symm)⟩
      case round =>
        obtain ⟨k, hk, rfl, rfl, hA⟩ := hrel
        by_cases hlt2 : k < 16
        · have j1 : decide ((k : Int) < 16) = true := by simp; omega
          have ca := hA.x.cell (j := i) hlt
          have cb := hA.y.cell (j := k) hlt2
          have cp := hA.out.cell (j := i + k) (by omega)
          have fz := hA.out.frozen (i + k)
          rw [midW_here] at cp
          have hn := midW_new (B := 65536) (by decide) a b i k
          have hm := midC_new (B := 65536) (by decide) a b i k
          have hcl := mulC_lt (B := 65536) (by decide) (a % 65536 ^ i * b) (d16 a i) b i k (d16_lt a i)
          have e1 : dg 65536 a i = d16 a i := rfl
          have e2 : dg 65536 b k = d16 b k := rfl
          rw [e1, e2] at hn hm
          obtain ⟨x, hx⟩ : ∃ x, x = d16 a i := ⟨_, rfl⟩
          obtain ⟨y, hy⟩ : ∃ y, y = d16 b k := ⟨_, rfl⟩
          obtain ⟨z, hz⟩ : ∃ z, z = dg 65536 (a % 65536 ^ i * b) (i + k) := ⟨_, rfl⟩
          obtain ⟨c, hc⟩ : ∃ c, c = mulC 65536 (a % 65536 ^ i * b) (d16 a i) b i k := ⟨_, rfl⟩
          have hxl : x < 65536 := by rw [hx]; exact d16_lt _ _
          have hyl : y < 65536 := by rw [hy]; exact d16_lt _ _
          have hzl : z < 65536 := by rw [hz]; exact dg_lt (by decide) _ _
          have hcl' : c < 65536 := by rw [hc]; exact hcl
          rw [← hy, ← hz, ← hc, ← hx] at hn hm
          have hc3 := hc
          rw [← hx] at hc3
          rw [← hx] at ca
          rw [← hy] at cb
          rw [← hz] at cp
          rw [← hc]
          obtain ⟨m, hm2⟩ : ∃ m, m = x * y := ⟨_, rfl⟩
          have hml : m ≤ 4294836225 := by
            rw [hm2]
            have := Nat.mul_le_mul (show x ≤ 65535 by omega) (show y ≤ 65535 by omega)
            omega
          rw [← hm2] at hn hm
          obtain ⟨s, hs⟩ : ∃ s, s = i + k := ⟨_, rfl⟩
          have HP := Lib.hid (show (((z : Int) + (m : Int) + (c : Int)) % 65536) = (midW 65536 a b i (k + 1) s : Int) by rw [hs, hn]; omega)
          have HC := Lib.hid (show (((z : Int) + (m : Int) + (c : Int)) / 65536) = (mulC 65536 (a % 65536 ^ i * b) (d16 a i) b i (k + 1) : Int) by rw [← hx, hm]; omega)
          rw [← hs] at cp fz
          have s0 : IntKind.i64.wrap ((i : Int) + (k : Int)) = (s : Int) := by rw [IntWalk.i64_in _ (by omega)]; omega
          have s1 : (s : Int) < 33 := by omega
          have s2 : (0 : Int) ≤ (s : Int) := by omega
          have m0 : IntKind.i64.wrap ((x : Int) * (y : Int)) = (m : Int) := by rw [IntWalk.i64_in _ (by rw [hm2] at hml; have : ((x * y : Nat) : Int) = (x : Int) * (y : Int) := Int.natCast_mul x y; omega)]; rw [hm2]; exact (Int.natCast_mul x y).symm
          have m1 : IntKind.i64.wrap ((z : Int) + (m : Int)) = (z : Int) + (m : Int) := IntWalk.i64_in _ (by omega)
          have m2 : IntKind.i64.wrap ((z : Int) + (m : Int) + (c : Int)) = (z : Int) + (m : Int) + (c : Int) := IntWalk.i64_in _ (by omega)
          have HS2 := Lib.hid hs
          have HA' := Lib.hid hA
          clear hA hn hm hcl hx hy hz hc hc3 hm2 hs e1 e2
          go_wp2
          go_quiet (fail)
          go_wp2
          go_roundw
          case rel => exact ⟨k + 1, by omega, by go_num, by rw [HC.out], by rw [HP.out]; exact HA'.out.store HN.out.1 HN.out.2.1 HN.out.2.2 (by omega) rfl (fun j _ hj => midW_other (by decide) a b i k j (by rw [← HS2.out]; exact hj)) _⟩
          case measure => simp [intOf]; omega
        · obtain rfl : k = 16 := by omega
          have cp := hA.out.cell (j := i + 16) (by omega)
          have fz := hA.out.frozen (i + 16)
          rw [midW_here, dg_zero_of_lt (mul_lt_top (a := a) (i := i) (by decide) HB.out)] at cp
          have hct := mulC_top (B := 65536) (a := a) (i := i) (by decide) HB.out
          have hdone := fun p hp => midW_done (B := 65536) (a := a) (i := i) (p := p) (by decide) HB.out hp
          have hcl := mulC_lt (B := 65536) (by decide) (a % 65536 ^ i * b) (d16 a i) b i 16 (d16_lt a i)
          have e1 : dg 65536 a i = d16 a i := rfl
          rw [e1] at hct
          obtain ⟨c, hc⟩ : ∃ c, c = mulC 65536 (a % 65536 ^ i * b) (d16 a i) b i 16 := ⟨_, rfl⟩
          rw [← hc] at hcl hct ⊢
          have HS2 := Lib.hid (hA.store HN.out.1 HN.out.2.1 HN.out.2.2 (k := i + 16) (x := c) (f' := dg 65536 (a % 65536 ^ (i + 1) * b)) (by omega) hct.symm (fun p _ hp => hdone p hp) 0)
          obtain ⟨s, hs⟩ : ∃ s, s = i + 16 := ⟨_, rfl⟩
          rw [← hs] at cp fz HS2
          have s0 : IntKind.i64.wrap ((i : Int) + 16) = (s : Int) := by rw [IntWalk.i64_in _ (by omega)]; omega
          have s1 : (s : Int) < 33 := by omega
          have s2 : (0 : Int) ≤ (s : Int) := by omega
          clear hA hct hdone hc hs HA e1
          go_wp2
          go_roundw
          case rel => exact ⟨i + 1, by omega, by go_num, HS2.out⟩
          case measure => simp [intOf]; omega
    · obtain rfl : i = 16 := by omega
      have hc : ∀ j, j < 33 → wr.cell? ⟨go, j, none⟩ = some (.int .i64 (d16 (a % 65536 ^ 16 * b) j : Int)) := fun j hj => hA.out.cell hj
      have hV1 := Lib.hid (vec_any (a % 65536 ^ 16 * b) go 33 0 33 (by omega) (by omega) wr hc)
      have HA := Lib.hid hA
      have HC := Lib.hid hc
      clear hA hc
      go_wp2_with fail
      refine (hV1.out).mono ?_
      rintro e w4 ⟨rfl, hO1⟩
      have hc2 : ∀ j, j < 33 → w4.cell? ⟨go, j, none⟩ = some (.int .i64 (d16 (a % 65536 ^ 16 * b) j : Int)) := fun j hj => hO1.cell (HC.out j hj) (fun c => c)
      have hV2 := Lib.hid (vec_any (a % 65536 ^ 16 * b) go 33 16 33 (by omega) (by omega) w4 hc2)
      have HL1 := Lib.hid (show PartAt w4 (w.heap.size + 1 + 1) 0 0 from hO1.heap HA.out.lo (fun c => c))
      have HH1 := Lib.hid (show PartAt w4 (w.heap.size + 1 + 1 + 1) 0 0 from hO1.heap HA.out.hi (fun c => c))
      have HO1 := Lib.hid (HA.out.off.trans hO1 (fun _ _ c => c))
      clear hO1 hc2 HA HC hV1
      go_wp2_with fail
      refine (hV2.out).mono ?_
      rintro e w5 ⟨rfl, hO2⟩
      have hL2 : PartAt w5 (w.heap.size + 1 + 1) 0 0 := hO2.heap HL1.out (fun c => c)
      have hH2 : PartAt w5 (w.heap.size + 1 + 1 + 1) 0 0 := hO2.heap HH1.out (fun c => c)
      obtain ⟨⟨l0, l1, l2, l3⟩, lz⟩ := hL2.four
      obtain ⟨⟨h0, h1, h2, h3⟩, hz⟩ := hH2.four
      have HO2 := Lib.hid (HO1.out.trans hO2 (fun _ _ c => c))
      clear hO2 hL2 hH2 HL1 HH1 HO1 hV2
      go_wp2
      refine bodyPost_ret (v := .tuple #[V (a % R256 * b), V (a % R256 * b / R256)]) (by simp [results, Try.results15, go_sem, l0, l1, l2, l3, h0, h1, h2, h3, r256_pow]) rfl ⟨rfl, ?_⟩
      have hn : ∀ j, (⟨w.heap.size + 1 + 1, j, none⟩ : Addr).block < w.heap.size → False := fun j c => by simp at c; omega
      have hm : ∀ j, (⟨w.heap.size + 1 + 1 + 1, j, none⟩ : Addr).block < w.heap.size → False := fun j c => by simp at c; omega
      exact (((((((HO2.out.setCell (hn 0) _).setCell (hn 1) _).setCell (hn 2) _).setCell (hn 3) _).setCell (hm 0) _).setCell (hm 1) _).setCell (hm 2) _).setCell (hm 3) _
end Go.Proofs.Ytaealjhndlobiaa
