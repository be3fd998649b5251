/-
  The contract of mont.Mul over this seat's translation: the Montgomery product. Conditions: the field's constants are those of its modulus, the second factor lies below it.
-/
import Derived.Test.YtpiialjnjfkfeaaDoorMontSum
import Derived.Test.YtpiialjnjfkfeaaDoorMontRef
import Derived.Test.YtpiialjnjfkfeaaDoorFieldOps
import Derived.Test.YtpiialjnjfkfeaaDoorInvMem
import Derived.Laws.Cover3
namespace Go.Proofs.YtpiialjnjfkfeaaDoor
open Go.RowKit

/-- One reduction of a number below twice the modulus. -/
theorem redV_two {p t : Nat} (hp : p < R256) (ht : t < 2 * p) : V (redV p (t % R256) ((t / R256 : Nat) : Int)) = V (t % p) := by
  rw [← V_mod (redV _ _ _)]
  congr 1
  have h1 : t % p = if t < p then t else t - p := by
    split
    · exact Nat.mod_eq_of_lt (by omega)
    · rw [Nat.mod_eq_sub_mod (by omega)]; exact Nat.mod_eq_of_lt (by omega)
  rw [h1]
  unfold redV subV R256 W64 at *
  simp only [Nat.reducePow] at *
  split <;> split <;> omega
theorem wd_low {i p : Nat} (h : (i * wd p 0 + 1) % 18446744073709551616 = 0) : (i * p + 1) % W64 = 0 := by
  have e : wd p 0 = p % 18446744073709551616 := by unfold wd dg W64; simp
  rw [e] at h
  unfold W64
  rw [Nat.add_mod, Nat.mul_mod_mod, ← Nat.add_mod] at h
  exact h
theorem wd_shift (t k j : Nat) : wd (t * W64 ^ k) (k + j) = wd t j := by
  unfold wd dg
  rw [Nat.pow_add, ← Nat.div_div_eq_div_mul, Nat.mul_div_cancel _ (Nat.pow_pos w64_pos)]
/-- One round of Mul, in plain numbers. -/
theorem mont_round {p v u t k i : Nat} (hp : p < R256) (hv : v < p) (hinv : (i * p + 1) % W64 = 0) (hR : Redc p v (u % W64 ^ k) t (W64 ^ k)) :
    ∃ N m t', N = t * W64 ^ k + wd u k * v * W64 ^ k ∧ N < W64 ^ (k + 6) ∧ m = wd N k * i % 18446744073709551616 ∧ N + m * p * W64 ^ k < W64 ^ (k + 6) ∧ N + m * p * W64 ^ k = t' * W64 ^ (k + 1) ∧ Redc p v (u % W64 ^ (k + 1)) t' (W64 ^ (k + 1)) := by
  have hx : wd u k < W64 := wd_lt u k
  have eN : t * W64 ^ k + wd u k * v * W64 ^ k = (t + wd u k * v) * W64 ^ k := by rw [Nat.add_mul]
  have hw : wd ((t + wd u k * v) * W64 ^ k) k = (t + wd u k * v) % W64 := by
    have := wd_shift (t + wd u k * v) k 0
    rw [Nat.add_zero] at this
    rw [this]; unfold wd dg; rw [Nat.pow_zero, Nat.div_one]
  have hm : (t + wd u k * v) % W64 * i % W64 < W64 := Nat.mod_lt _ w64_pos
  have hz := step_zero (s := t + wd u k * v) hinv
  have hS := Redc.step w64_pos hR hx hm hz
  have hb := hS.bound
  have hdiv := Nat.div_add_mod (t + wd u k * v + (t + wd u k * v) % W64 * i % W64 * p) W64
  rw [hz, Nat.add_zero] at hdiv
  have hfull : (t + wd u k * v + (t + wd u k * v) % W64 * i % W64 * p) * W64 ^ k < W64 ^ (k + 6) := by
    have h6 : t + wd u k * v + (t + wd u k * v) % W64 * i % W64 * p < W64 ^ 6 := by
      rw [← hdiv]
      generalize (t + wd u k * v + (t + wd u k * v) % W64 * i % W64 * p) / W64 = q at hb
      have : q < 2 * R256 := by omega
      unfold R256 W64 at *
      simp only [Nat.reducePow] at *
      omega
    rw [Nat.pow_add, Nat.mul_comm]
    exact Nat.mul_lt_mul_of_pos_left h6 (Nat.pow_pos w64_pos)
  refine ⟨_, (t + wd u k * v) % W64 * i % W64, (t + wd u k * v + (t + wd u k * v) % W64 * i % W64 * p) / W64, eN.symm, ?_, ?_, ?_, ?_, ?_⟩
  · exact Nat.lt_of_le_of_lt (Nat.mul_le_mul_right _ (Nat.le_add_right _ _)) hfull
  · rw [hw]; rfl
  · rw [← Nat.add_mul]; exact hfull
  · rw [← Nat.add_mul, ← hdiv, Nat.pow_succ]
    generalize (t + wd u k * v + (t + wd u k * v) % W64 * i % W64 * p) / W64 = q
    rw [Nat.mul_div_cancel_left _ w64_pos, Nat.mul_comm W64 q, Nat.mul_assoc, Nat.mul_comm W64]
  · have e : u % W64 ^ (k + 1) = u % W64 ^ k + wd u k * W64 ^ k := by rw [mod_succ, Nat.mul_comm (W64 ^ k)]; rfl
    rw [e]
    exact hS
/-- The end of Mul. -/
theorem mont_last {p v u t : Nat} (h : Mp p) (hu : u < R256) (hv : v < p) (hR : Redc p v (u % W64 ^ 4) t (W64 ^ 4)) : V (redV p (t % R256) ((t / R256 : Nat) : Int)) = V (mm p u v) := by
  have hb := hR.bound
  have hc := hR.cong
  rw [show W64 ^ 4 = R256 from rfl, Nat.mod_eq_of_lt hu] at hc
  rw [redV_two h.lt (by omega), mm_of (r := t % p) (a := u) (b := v) h (Nat.mod_lt _ h.pos) (by rw [Nat.mod_mul_mod]; exact hc)]

/-- What the loop of Mul keeps. -/
structure MMAt (w wr : World) (id : Int) (p i r s u v N : Nat) : Prop where
  f : wr.heap[w.heap.size]? = some (.cells #[.int .i64 id, .int .u64 (wd p 0 : Int), .int .u64 (wd p 1 : Int), .int .u64 (wd p 2 : Int), .int .u64 (wd p 3 : Int), .int .u64 (i : Int), .int .u64 (wd r 0 : Int), .int .u64 (wd r 1 : Int), .int .u64 (wd r 2 : Int), .int .u64 (wd r 3 : Int), .int .u64 (wd s 0 : Int), .int .u64 (wd s 1 : Int), .int .u64 (wd s 2 : Int), .int .u64 (wd s 3 : Int)] 42)
  a : wr.heap[w.heap.size + 1]? = some (.cells #[.int .u64 (wd u 0 : Int), .int .u64 (wd u 1 : Int), .int .u64 (wd u 2 : Int), .int .u64 (wd u 3 : Int)] 40)
  b : wr.heap[w.heap.size + 1 + 1]? = some (.cells #[.int .u64 (wd v 0 : Int), .int .u64 (wd v 1 : Int), .int .u64 (wd v 2 : Int), .int .u64 (wd v 3 : Int)] 40)
  ret : wr.heap[w.heap.size + 1 + 1 + 1]? = some (.cells #[.int .u64 0, .int .u64 0, .int .u64 0, .int .u64 0] 40)
  sum : SumAt wr (w.heap.size + 1 + 1 + 1 + 1) N
  off : Off (fun _ => False) w wr
theorem MMAt.start (w : World) (id : Int) (p i r s u v : Nat) : MMAt w (((((w.alloc (.cells #[.int .i64 id, .int .u64 (wd p 0 : Int), .int .u64 (wd p 1 : Int), .int .u64 (wd p 2 : Int), .int .u64 (wd p 3 : Int), .int .u64 (i : Int), .int .u64 (wd r 0 : Int), .int .u64 (wd r 1 : Int), .int .u64 (wd r 2 : Int), .int .u64 (wd r 3 : Int), .int .u64 (wd s 0 : Int), .int .u64 (wd s 1 : Int), .int .u64 (wd s 2 : Int), .int .u64 (wd s 3 : Int)] 42)).alloc (.cells #[.int .u64 (wd u 0 : Int), .int .u64 (wd u 1 : Int), .int .u64 (wd u 2 : Int), .int .u64 (wd u 3 : Int)] 40)).alloc (.cells #[.int .u64 (wd v 0 : Int), .int .u64 (wd v 1 : Int), .int .u64 (wd v 2 : Int), .int .u64 (wd v 3 : Int)] 40)).alloc (.cells #[.int .u64 0, .int .u64 0, .int .u64 0, .int .u64 0] 40)).alloc (.cells #[.int .u64 0, .int .u64 0, .int .u64 0, .int .u64 0, .int .u64 0, .int .u64 0, .int .u64 0, .int .u64 0, .int .u64 0] 94)) id p i r s u v 0 := by
  refine ⟨heap_old' (heap_old' (heap_old' (heap_old' (heap_new' rfl _) _) _) _) _, heap_old' (heap_old' (heap_old' (heap_new' (by simp) _) _) _) _, heap_old' (heap_old' (heap_new' (by simp) _) _) _, heap_old' (heap_new' (by simp) _) _, ?_, (((((Off.refl _ w).alloc _).alloc _).alloc _).alloc _).alloc _⟩
  unfold SumAt SumW
  simp only [wd_zero]
  exact heap_new' (by simp) _
theorem MMAt.drew {w wr : World} {id : Int} {p i r s u v N : Nat} (h : MMAt w wr id p i r s u v N) : MMAt w wr.drew id p i r s u v N := ⟨h.f, h.a, h.b, h.ret, h.sum, h.off.drew⟩
theorem MMAt.step {w wr wr' : World} {id : Int} {p i r s u v N N' : Nat} (h : MMAt w wr id p i r s u v N) (hS : SumAt wr' (w.heap.size + 1 + 1 + 1 + 1) N') (hO : Off (fun k => k = w.heap.size + 1 + 1 + 1 + 1) wr wr') : MMAt w wr' id p i r s u v N' :=
  ⟨hO.heap h.f (by omega), hO.heap h.a (by omega), hO.heap h.b (by omega), hO.heap h.ret (by omega), hS, h.off.trans hO (fun k hk e => by omega)⟩
theorem elem_cell {w : World} {b n : Nat} {T : TypeId} (h : w.heap[b]? = some (.cells #[.int .u64 (wd n 0 : Int), .int .u64 (wd n 1 : Int), .int .u64 (wd n 2 : Int), .int .u64 (wd n 3 : Int)] T)) (k : Nat) (hk : k < 4) : w.cell? ⟨b, k, none⟩ = some (.int .u64 (wd n k : Int)) := by
  rw [cell_of_heap h]
  have : k = 0 ∨ k = 1 ∨ k = 2 ∨ k = 3 := by omega
  rcases this with rfl | rfl | rfl | rfl <;> rfl

attribute [local go_sem ↓] Go.wp_at_zero Go.wp_at_succ
set_option maxRecDepth 100000 in
set_option maxHeartbeats 4000000 in
theorem mmul_any {id : Int} {p i r s : Nat} (hF : Fld id p i r s) (u v : Nat) (hu : u < R256) (hv : v < p) (w : World) :
    Calls Tryd.prog 42 #[FV id p i r s, V u, V v] w fun e w' => e = .returned (V (mm p u v)) ∧ Off (fun _ => False) w w' := by
  have hp := hF.mp.lt
  have hinv := wd_low hF.inv
  have HROUND := Lib.hid (fun k t (hR : Redc p v (u % W64 ^ k) t (W64 ^ k)) => mont_round (i := i) (k := k) hp hv hinv hR)
  have HLAST := Lib.hid (fun t (hR : Redc p v (u % W64 ^ 4) t (W64 ^ 4)) => mont_last hF.mp hu hv hR)
  have HB := Lib.hid (fun t (hR : Redc p v (u % W64 ^ 4) t (W64 ^ 4)) => hR.bound)
  have HADD1 := Lib.hid (fun N k B W hk hN hA => sumadd_any N (wd u k) v k B (wd_lt u k) (by omega) hk hN W hA)
  have HADD2 := Lib.hid (fun N m k B W hm hk hN hA => sumadd_any N m p k B hm hp hk hN W hA)
  have HSUB := Lib.hid (fun a (c : Nat) (ha : a < R256) (hc : c < 2) W => subtract_any id p i r s a (c : Int) hp ha ⟨by omega, by omega⟩ W)
  have HVP := Lib.hid hv
  have HPP := Lib.hid hp
  have HSTART := Lib.hid (Redc.start p v hF.mp.pos)
  obtain ⟨x, hx⟩ : ∃ x, x = mm p u v := ⟨_, rfl⟩
  rw [← hx] at HLAST ⊢
  clear hF hinv hp hu hv hx
  go_enter Tryd.func42, Tryd.ntmps42
  go_wp2
  go_loopw [10] (fun i' wr => ∃ k t : Nat, k ≤ 4 ∧ i' = .int .i64 k ∧ Redc p v (u % W64 ^ k) t (W64 ^ k) ∧ MMAt w wr id p i r s u v (t * W64 ^ k)) (fun i' _ => 4 - (intOf i').toNat)
  case atStart => exact ⟨0, 0, by omega, rfl, by rw [Nat.pow_zero, Nat.mod_one]; exact HSTART.out, by rw [Nat.zero_mul]; exact MMAt.start w id p i r s u v⟩
  case round =>
    obtain ⟨k, t, hk, rfl, hR, hA⟩ := hrel
    by_cases hlt : k < 4
    · have j1 : decide ((k : Int) < 4) = true := by simp; omega
      obtain ⟨N, m, t', hN, hb1, hm, hb2, hN2, hR2⟩ := HROUND.out k t hR
      have HC1 := Lib.hid (fun W hW => HADD1.out (t * W64 ^ k) k (w.heap.size + 1 + 1 + 1 + 1) W hlt (by rw [← hN]; exact hb1) hW)
      rw [← hN] at HC1
      have hml : m < 18446744073709551616 := by rw [hm]; exact Nat.mod_lt _ (by decide)
      have HC2 := Lib.hid (fun W hW => HADD2.out N m k (w.heap.size + 1 + 1 + 1 + 1) W hml hlt hb2 hW)
      rw [hN2] at HC2
      have ca := elem_cell hA.a k hlt
      obtain ⟨b0, b1, b2, b3⟩ := cells4 hA.b
      obtain ⟨y, hy⟩ : ∃ y, y = wd u k := ⟨_, rfl⟩
      rw [← hy] at ca HC1
      obtain ⟨z, hz⟩ : ∃ z, z = wd N k := ⟨_, rfl⟩
      rw [← hz] at hm
      have wm : IntKind.u64.wrap ((z : Int) * (i : Int)) = (m : Int) := by
        rw [IntKind.wrap_u64, hm, ← Int.natCast_mul]; omega
      have HZ := Lib.hid hz
      have HR2 := Lib.hid hR2
      have HA := Lib.hid hA
      have HK := Lib.hid hk
      clear hN hb1 hm hb2 hN2 hR2 hR hA hy hz hml hk
      go_wp2
      go_region_with (go_at_call 48; refine (HC1.out _ HA.out.drew.sum).mono ?_; rintro e w1 ⟨rfl, hS1, hO1⟩)
      all_goals
        have hA1 := HA.out.drew.step hS1 hO1
        have cz := hS1.cell k (by omega)
        rw [← HZ.out] at cz
        obtain ⟨_, p0, p1, p2, p3, ci, _⟩ := fv_cells hA1.f
        have HA1 := Lib.hid hA1
        clear hA1 hS1 hO1 ca b0 b1 b2 b3
        go_wp2
        go_region_with (go_at_call 48; refine (HC2.out _ HA1.out.drew.sum).mono ?_; rintro e w2 ⟨rfl, hS2, hO2⟩)
        all_goals
          go_wp2
          go_roundw
          case rel => exact ⟨k + 1, t', by omega, by go_num, HR2.out, HA1.out.drew.step hS2 hO2⟩
          case measure => simp [intOf]; omega
    · obtain rfl : k = 4 := by omega
      have hlast := HLAST.out t hR
      have hbd := HB.out t hR
      obtain ⟨c, hc⟩ : ∃ c, c = t / R256 := ⟨_, rfl⟩
      have hc2 : c < 2 := by
        have h1 := HVP.out
        have h2 := HPP.out
        rw [hc]; exact (Nat.div_lt_iff_lt_mul (by decide)).2 (by omega)
      have hc8 : wd (t * W64 ^ 4) 8 = c := by
        have h := wd_shift t 4 4
        rw [show 4 + 4 = 8 from rfl] at h
        have h2 := wd_div t 0
        rw [Nat.zero_add] at h2
        rw [h, ← h2, ← hc]
        unfold wd dg W64
        rw [Nat.pow_zero, Nat.div_one]
        exact Nat.mod_eq_of_lt (by omega)
      have s4 := hA.sum.cell 4 (by omega)
      have s5 := hA.sum.cell 5 (by omega)
      have s6 := hA.sum.cell 6 (by omega)
      have s7 := hA.sum.cell 7 (by omega)
      have s8 := hA.sum.cell 8 (by omega)
      rw [hc8] at s8
      rw [show wd (t * W64 ^ 4) 4 = wd t 0 from wd_shift t 4 0] at s4
      rw [show wd (t * W64 ^ 4) 5 = wd t 1 from wd_shift t 4 1] at s5
      rw [show wd (t * W64 ^ 4) 6 = wd t 2 from wd_shift t 4 2] at s6
      rw [show wd (t * W64 ^ 4) 7 = wd t 3 from wd_shift t 4 3] at s7
      have HC := Lib.hid (fun W => by
        have h := HSUB.out (t % R256) c (Nat.mod_lt _ (by decide)) hc2 W
        rw [V_mod, hc, hlast] at h
        rw [← hc] at h
        exact h)
      obtain ⟨f0, f1, f2, f3, f4, f5, f6, f7, f8, f9, f10, f11, f12, f13⟩ := fv_cells hA.f
      have hat : ∀ W, (Instr.arrayAt 39 (.slice (some ⟨w.heap.size + 1 + 1 + 1 + 1, 4, none⟩) 4 5)).run Tryd.prog W = .ok (.pointer (some ⟨w.heap.size + 1 + 1 + 1 + 1, 4, none⟩)) W := fun W => run_arrayAt (w := W) 39 _ 4 _ 4 5 Tryd.underlying39 (by omega)
      have hmf : ∀ (fn : Fn) (first cap : Array Value) (W : World), (Instr.makeFunc fn first cap).run Tryd.prog W = .ok (.func fn first cap) W := fun _ _ _ _ => rfl
      have HA := Lib.hid hA
      clear hlast hbd hc hc2 hc8 hA hR
      go_wp2
      go_region_with (go_at_call 47; refine (HC.out _).mono ?_; rintro e w2 ⟨rfl, hO2⟩; obtain ⟨⟨r0, r1, r2, r3⟩, fz, lt⟩ := zero_cells (hO2.heap HA.out.drew.ret (fun c => c)))
      all_goals
        go_wp2
        refine bodyPost_ret (v := V x) (by simp [results, Tryd.results42, go_sem, r0, r1, r2, r3]) rfl ⟨rfl, ?_⟩
        exact off4 (HA.out.off.drew.trans hO2 (fun _ _ c => c)) (by omega) _ _ _ _
end Go.Proofs.YtpiialjnjfkfeaaDoor
