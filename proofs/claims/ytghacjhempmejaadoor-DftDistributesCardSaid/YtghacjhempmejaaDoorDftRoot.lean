/-
  A root of unity: 'root' gives the word of the table. Conditions: the tables of the coefficients are as they are laid; the number of roots is a power of two up to 256.
-/
import Derived.Test.YtghacjhempmejaaDoorDftAng
namespace Go.Proofs.YtghacjhempmejaaDoor
open Go.RowKit Ieee
set_option maxRecDepth 100000
set_option maxHeartbeats 4000000
@[local go_sem] theorem unary_negf' (k : FloatKind) (b : Nat) : Op.unary .neg (.float k b) = pure (.float k (Op.negFloat k b)) := rfl
theorem turnsW_succ (q : Nat) (p : Nat × Nat) : turnsW (q + 1) p = turnW (turnsW q p) := by
  induction q generalizing p with
  | zero => rfl
  | succ q ih => exact ih (turnW p)
theorem root_any (e k : Nat) (he : e < 9) (hk : k < pw e) (w : World) (hT : TabAt w) :
    Calls Tryd.prog 26 #[.int .i64 (k : Int), .int .i64 ((pw e : Nat) : Int)] w fun r w' => r = .returned (.complex .f64 (wW (k * pw (8 - e))).1 (wW (k * pw (8 - e))).2) ∧ w = w' := by
  obtain ⟨hq5, p, d, hp, hd, hx, hr⟩ := root_facts he hk
  have hS := sincos_tab p hp w hT
  have hn0 : 0 < pw e := Nat.two_pow_pos e
  have hn8 : pw e ≤ 256 := Nat.pow_le_pow_right (n := 2) (i := e) (j := 8) (by omega) (by omega)
  obtain ⟨q, hq⟩ : ∃ q, q = quarters k (pw e) := ⟨_, rfl⟩
  obtain ⟨n, hn⟩ : ∃ n, n = pw e := ⟨_, rfl⟩
  obtain ⟨r, hrr⟩ : ∃ r, r = restI k (pw e) := ⟨_, rfl⟩
  obtain ⟨g, hg⟩ : ∃ g, g = wW (k * pw (8 - e)) := ⟨_, rfl⟩
  rw [← hg] at hr ⊢
  rw [← hq] at hr hq5
  rw [← hrr] at hd
  unfold restI at hrr
  rw [← hq, ← hn] at hrr
  unfold quarters at hq
  rw [← hn] at hq hn0 hn8 hk hd ⊢
  obtain ⟨pa, pb, pc⟩ := p
  simp only at hx hr hS
  clear hT hp he hn hg
  have w1 : IntKind.i64.wrap (4 * (k : Int)) = 4 * (k : Int) := by rw [IntKind.wrap_i64]; omega
  have t1 : ((n : Int)).tdiv 2 = ((n / 2 : Nat) : Int) := by rw [Int.tdiv_eq_ediv_of_nonneg (by omega)]; rfl
  obtain ⟨n2, hn2⟩ : ∃ n2, n2 = n / 2 := ⟨_, rfl⟩
  rw [← hn2] at hq t1
  have w2 : IntKind.i64.wrap ((n2 : Nat) : Int) = (n2 : Int) := by rw [IntKind.wrap_i64]; omega
  have w3 : IntKind.i64.wrap (4 * (k : Int) + (n2 : Int)) = 4 * (k : Int) + (n2 : Int) := by rw [IntKind.wrap_i64]; omega
  have t2 : (4 * (k : Int) + (n2 : Int)).tdiv (n : Int) = (q : Int) := by
    rw [show 4 * (k : Int) + (n2 : Int) = ((4 * k + n2 : Nat) : Int) by push_cast; rfl, hq]
    exact Int.tdiv_eq_ediv_of_nonneg (by omega)
  have w4 : IntKind.i64.wrap ((q : Nat) : Int) = (q : Int) := by rw [IntKind.wrap_i64]; omega
  have hqn : q * n ≤ 4 * k + n2 := by rw [hq]; exact Nat.div_mul_le_self _ _
  have hqn' : (q : Int) * (n : Int) ≤ 4 * (k : Int) + (n2 : Int) := by exact_mod_cast hqn
  have hqn0 : 0 ≤ (q : Int) * (n : Int) := Int.mul_nonneg (by omega) (by omega)
  have w5 : IntKind.i64.wrap ((q : Int) * (n : Int)) = (q : Int) * (n : Int) := by rw [IntKind.wrap_i64]; omega
  have w6 : IntKind.i64.wrap (4 * (k : Int) - (q : Int) * (n : Int)) = r := by rw [IntKind.wrap_i64, hrr]; omega
  have z1 : ((n : Int) == 0) = false := by simp; omega
  have E1 := fun (W : World) (t : TypeId) => run_float_arith (P := Tryd.prog) W .quo t .f64 _ _ _ hd
  have E2 := fun (W : World) (t : TypeId) => run_float_arith (P := Tryd.prog) W .mul t .f64 _ _ _ hx
  have HR := Lib.hid hr
  have Hq5 := Lib.hid hq5
  clear hd hx hq hrr hr hqn hqn' hqn0 hq5 hn2
  go_enter Tryd.func26, Tryd.ntmps26
  go_wp2_with first | (go_at_call 32; refine hS.mono ?_; rintro e w' ⟨rfl, rfl⟩) | fail
  go_loop [9, 37] (fun c i => ∃ j : Nat, j ≤ q ∧ i = .int .i64 (j : Int) ∧ c = .complex .f64 (turnsW j (pc, pb)).1 (turnsW j (pc, pb)).2) (fun _ i => q - (intOf i).toNat)
  case atStart => exact ⟨0, by omega, rfl, rfl⟩
  case round =>
    obtain ⟨j, hj, rfl, rfl⟩ := hrel
    by_cases hlt : j < q
    · have hji : (j : Int) < (q : Int) := by omega
      have hwj : IntKind.i64.wrap ((j : Int) + 1) = (j : Int) + 1 := by have := Hq5.out; rw [IntKind.wrap_i64]; omega
      obtain ⟨T1, HT⟩ : ∃ T1, Hid (T1 = turnsW j (pc, pb)) := ⟨_, Lib.hid rfl⟩
      rw [← HT.out]
      go_wp2
      go_round
      case rel => exact ⟨j + 1, by omega, by simp, by rw [turnsW_succ, ← HT.out]; rfl⟩
      case measure => simp [intOf] <;> omega
    · obtain rfl : j = q := by omega
      have hji : ¬ ((j : Nat) : Int) < (j : Int) := by omega
      rw [HR.out]
      clear HR
      go_wp2
      go_ret
      exact ⟨rfl, rfl⟩
end Go.Proofs.YtghacjhempmejaaDoor
