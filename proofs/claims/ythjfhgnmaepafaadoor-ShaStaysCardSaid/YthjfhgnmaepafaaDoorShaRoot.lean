/-
  Contracts of the reference's cubeAbove, squareAbove and root over this seat's translation. Conditions: the number has at most 37 bits, the radicand is at most 100000.
-/
import Derived.Test.YthjfhgnmaepafaaDoorShaRotr
namespace Go.Proofs.YthjfhgnmaepafaaDoor
open Go.RowKit
set_option maxRecDepth 100000
set_option maxHeartbeats 4000000
theorem cubeabove_any (x n : Nat) (hx : x < 137438953472) (hn : n ≤ 100000) (w : World) :
    Calls Tryd.prog 31 #[.int .u64 (x : Int), .int .u64 (n : Int)] w fun e w' => e = .returned (.bool (above true x n)) ∧ w = w' := by
  obtain ⟨h1, h2, h3, h4, h5, h6, h7, h8, h9⟩ := cube_bounds hx
  have H := cube_above x n
  obtain ⟨R, hR⟩ : ∃ R, R = above true x n := ⟨_, rfl⟩
  rw [← hR] at H ⊢
  clear hR
  unfold cbR cb3 cb2 cb1 at H
  obtain ⟨a, ha⟩ : ∃ a, a = x / 262144 := ⟨_, rfl⟩
  obtain ⟨b, hb⟩ : ∃ b, b = x % 262144 := ⟨_, rfl⟩
  rw [← ha] at h1 h2 h3 h4 h7 h8 h9 H
  rw [← hb] at h3 h5 h6 h8 h9 H
  have ha' : (x : Int) / 262144 = (a : Int) := by omega
  have hb' : (x : Int) % 262144 = (b : Int) := by omega
  have haw : IntKind.u64.wrap (a : Int) = a := by rw [IntKind.wrap_u64]; omega
  obtain ⟨c0, e0⟩ : ∃ c, c = b * b := ⟨_, rfl⟩
  obtain ⟨c1, e1⟩ : ∃ c, c = c0 * b := ⟨_, rfl⟩
  obtain ⟨c2, e2⟩ : ∃ c, c = 3 * a := ⟨_, rfl⟩
  obtain ⟨c3, e3⟩ : ∃ c, c = c2 * b := ⟨_, rfl⟩
  obtain ⟨c4, e4⟩ : ∃ c, c = c3 * b := ⟨_, rfl⟩
  obtain ⟨c5, e5⟩ : ∃ c, c = c2 * a := ⟨_, rfl⟩
  obtain ⟨c6, e6⟩ : ∃ c, c = c5 * b := ⟨_, rfl⟩
  obtain ⟨c7, e7⟩ : ∃ c, c = a * a := ⟨_, rfl⟩
  obtain ⟨c8, e8⟩ : ∃ c, c = c7 * a := ⟨_, rfl⟩
  rw [← e0] at h5 h6 H
  rw [← e1] at h5 H
  rw [← e2] at h2 h3 h4 h8 h9 H
  rw [← e3] at h3 h8 H
  rw [← e4] at h8 H
  rw [← e5] at h4 h9 H
  rw [← e6] at h9 H
  rw [← e7] at h7 h1 H
  rw [← e8] at h1 H
  have m0 : (b : Int) * (b : Int) = (c0 : Int) := by rw [e0]; simp
  have m1 : (c0 : Int) * (b : Int) = (c1 : Int) := by rw [e1]; simp
  have m2 : 3 * (a : Int) = (c2 : Int) := by omega
  have m3 : (c2 : Int) * (b : Int) = (c3 : Int) := by rw [e3]; simp
  have m4 : (c3 : Int) * (b : Int) = (c4 : Int) := by rw [e4]; simp
  have m5 : (c2 : Int) * (a : Int) = (c5 : Int) := by rw [e5]; simp
  have m6 : (c5 : Int) * (b : Int) = (c6 : Int) := by rw [e6]; simp
  have m7 : (a : Int) * (a : Int) = (c7 : Int) := by rw [e7]; simp
  have m8 : (c7 : Int) * (a : Int) = (c8 : Int) := by rw [e8]; simp
  have W : ∀ y : Nat, y < 18446744073709551616 → IntKind.u64.wrap (y : Int) = y := fun y hy => by rw [IntKind.wrap_u64]; omega
  have w0 := W c0 (by omega)
  have w1 := W c1 (by omega)
  have w2 := W c2 (by omega)
  have w3 := W c3 (by omega)
  have w4 := W c4 (by omega)
  have w5 := W c5 (by omega)
  have w6 := W c6 (by omega)
  have w7 := W c7 (by omega)
  have w8 := W c8 (by omega)
  obtain ⟨d1, f1⟩ : ∃ d, d = c4 + c1 / 262144 := ⟨_, rfl⟩
  obtain ⟨d2, f2⟩ : ∃ d, d = c6 + d1 / 262144 := ⟨_, rfl⟩
  obtain ⟨d3, f3⟩ : ∃ d, d = c8 + d2 / 262144 := ⟨_, rfl⟩
  rw [← f1, ← f2, ← f3] at H
  obtain ⟨q1, p1⟩ : ∃ q, q = c1 / 262144 := ⟨_, rfl⟩
  obtain ⟨q2, p2⟩ : ∃ q, q = d1 / 262144 := ⟨_, rfl⟩
  obtain ⟨q3, p3⟩ : ∃ q, q = d2 / 262144 := ⟨_, rfl⟩
  have s1 : (c1 : Int) / 262144 = (q1 : Int) := by omega
  have s2 : (d1 : Int) / 262144 = (q2 : Int) := by omega
  have s3 : (d2 : Int) / 262144 = (q3 : Int) := by omega
  have t1 : (c4 : Int) + (q1 : Int) = (d1 : Int) := by omega
  have t2 : (c6 : Int) + (q2 : Int) = (d2 : Int) := by omega
  have t3 : (c8 : Int) + (q3 : Int) = (d3 : Int) := by omega
  have v1 := W d1 (by omega)
  have v2 := W d2 (by omega)
  have v3 := W d3 (by omega)
  have v4 := W q1 (by omega)
  have v5 := W q2 (by omega)
  have v6 := W q3 (by omega)
  obtain ⟨r1, g1⟩ : ∃ r, r = c1 % 262144 := ⟨_, rfl⟩
  obtain ⟨r2, g2⟩ : ∃ r, r = d1 % 262144 := ⟨_, rfl⟩
  obtain ⟨r3, g3⟩ : ∃ r, r = d2 % 262144 := ⟨_, rfl⟩
  rw [← g1, ← g2, ← g3] at H
  have y1 : (c1 : Int) % 262144 = (r1 : Int) := by omega
  have y2 : (d1 : Int) % 262144 = (r2 : Int) := by omega
  have y3 : (d2 : Int) % 262144 = (r3 : Int) := by omega
  obtain ⟨z1, k1⟩ : ∃ z, z = r1 + r2 := ⟨_, rfl⟩
  obtain ⟨z2, k2⟩ : ∃ z, z = z1 + r3 := ⟨_, rfl⟩
  rw [← k1, ← k2] at H
  have l1 : (r1 : Int) + (r2 : Int) = (z1 : Int) := by omega
  have l2 : (z1 : Int) + (r3 : Int) = (z2 : Int) := by omega
  have u1 := W z1 (by omega)
  have u2 := W z2 (by omega)
  obtain ⟨n1, o1⟩ : ∃ z, z = n * 4398046511104 := ⟨_, rfl⟩
  rw [← o1] at H
  have o2 : (n : Int) * 4398046511104 = (n1 : Int) := by omega
  have o3 := W n1 (by omega)
  have HH := Lib.hid H
  clear H h1 h2 h3 h4 h5 h6 h7 h8 h9 ha hb e0 e1 e2 e3 e4 e5 e6 e7 e8 f1 f2 f3 p1 p2 p3 g1 g2 g3 k1 k2 o1 W
  by_cases j1 : n1 < d3
  · have HF := Lib.hid (show R = true by rw [← HH.out, decide_eq_true j1]; rfl)
    have i1 : decide ((d3 : Int) > (n1 : Int)) = true := by simp; omega
    go_enter Tryd.func31, Tryd.ntmps31
    go_wp2
    rw [HF.out]
    go_ret
    exact ⟨rfl, rfl⟩
  · have i1 : decide ((d3 : Int) > (n1 : Int)) = false := by simp; omega
    by_cases j2 : d3 = n1
    · have i2 : ((d3 : Int) == (n1 : Int)) = true := by simp; omega
      have HF := Lib.hid (show R = decide (0 < z2) by rw [← HH.out, decide_eq_false j1, decide_eq_true j2]; simp)
      go_enter Tryd.func31, Tryd.ntmps31
      go_wp2
      rw [HF.out]
      go_ret
      exact ⟨rfl, rfl⟩
    · have i2 : ((d3 : Int) == (n1 : Int)) = false := by simp; omega
      have HF := Lib.hid (show R = false by rw [← HH.out, decide_eq_false j1, decide_eq_false j2]; rfl)
      go_enter Tryd.func31, Tryd.ntmps31
      go_wp2
      rw [HF.out]
      go_ret
      exact ⟨rfl, rfl⟩
theorem squareabove_any (x n : Nat) (hx : x < 137438953472) (hn : n ≤ 100000) (w : World) :
    Calls Tryd.prog 32 #[.int .u64 (x : Int), .int .u64 (n : Int)] w fun e w' => e = .returned (.bool (above false x n)) ∧ w = w' := by
  have H := square_above x n _ rfl
  have hL := sqL_lt x
  have hM := sqM_lt x
  obtain ⟨R, hR⟩ : ∃ R, R = above false x n := ⟨_, rfl⟩
  rw [← hR] at H ⊢
  clear hR
  unfold sqH sqM sqL at H
  unfold sqL at hL
  unfold sqM at hM
  have h1 : x / 4294967296 * (x / 4294967296) ≤ 31 * 31 := Nat.mul_le_mul (by omega) (by omega)
  have h2 : 2 * (x / 4294967296) * (x % 4294967296) ≤ 62 * 4294967295 := Nat.mul_le_mul (by omega) (by omega)
  obtain ⟨a, ha⟩ : ∃ a, a = x / 4294967296 := ⟨_, rfl⟩
  obtain ⟨b, hb⟩ : ∃ b, b = x % 4294967296 := ⟨_, rfl⟩
  rw [← ha] at h1 h2 hM H
  rw [← hb] at h2 hL hM H
  have ha' : (x : Int) / 4294967296 = (a : Int) := by omega
  have hb' : (x : Int) % 4294967296 = (b : Int) := by omega
  have W : ∀ y : Nat, y < 18446744073709551616 → IntKind.u64.wrap (y : Int) = y := fun y hy => by rw [IntKind.wrap_u64]; omega
  have haw := W a (by omega)
  obtain ⟨c0, e0⟩ : ∃ c, c = b * b := ⟨_, rfl⟩
  obtain ⟨c1, e1⟩ : ∃ c, c = a * a := ⟨_, rfl⟩
  obtain ⟨c2, e2⟩ : ∃ c, c = 2 * a := ⟨_, rfl⟩
  obtain ⟨c3, e3⟩ : ∃ c, c = c2 * b := ⟨_, rfl⟩
  rw [← e0] at hL H
  rw [← e1] at h1 H
  rw [← e2] at h2 hM H
  rw [← e3] at h2 hM H
  have m0 : (b : Int) * (b : Int) = (c0 : Int) := by rw [e0]; simp
  have m1 : (a : Int) * (a : Int) = (c1 : Int) := by rw [e1]; simp
  have m2 : 2 * (a : Int) = (c2 : Int) := by omega
  have m3 : (c2 : Int) * (b : Int) = (c3 : Int) := by rw [e3]; simp
  have w0 := W c0 (by omega)
  have w1 := W c1 (by omega)
  have w2 := W c2 (by omega)
  have w3 := W c3 (by omega)
  obtain ⟨q, hq⟩ : ∃ q, q = c3 / 4294967296 := ⟨_, rfl⟩
  obtain ⟨d, hd⟩ : ∃ d, d = c1 + q := ⟨_, rfl⟩
  obtain ⟨r, hr⟩ : ∃ r, r = c3 % 4294967296 := ⟨_, rfl⟩
  obtain ⟨m, hm⟩ : ∃ m, m = r * 4294967296 := ⟨_, rfl⟩
  obtain ⟨t, ht⟩ : ∃ t, t = (c0 + m) % 18446744073709551616 := ⟨_, rfl⟩
  rw [← hr] at hM H
  rw [← hq, ← hd] at H
  rw [← hm] at hM H
  rw [← ht] at H
  have n1 : (c3 : Int) / 4294967296 = (q : Int) := by omega
  have n2 : (c1 : Int) + (q : Int) = (d : Int) := by omega
  have n3 : (c3 : Int) % 4294967296 = (r : Int) := by omega
  have n4 : (r : Int) * 4294967296 = (m : Int) := by omega
  have n5 : IntKind.u64.wrap ((c0 : Int) + (m : Int)) = (t : Int) := by rw [IntKind.wrap_u64]; omega
  have w4 := W q (by omega)
  have w5 := W d (by omega)
  have w6 := W m (by omega)
  have n6 : IntKind.u64.wrap ((d : Int) + 1) = ((d + 1 : Nat) : Int) := by rw [IntKind.wrap_u64]; omega
  have HH := Lib.hid H
  clear H h1 h2 hL hM ha hb e0 e1 e2 e3 hq hd hr hm ht W
  by_cases hc : t < c0
  · have i0 : decide ((t : Int) < (c0 : Int)) = true := by simp; omega
    have H2 := Lib.hid (show (decide (n < d + 1) || decide (d + 1 = n) && decide (0 < t)) = R by have := HH.out; rw [if_pos hc] at this; exact this)
    obtain ⟨d', hd'⟩ : ∃ d', d' = d + 1 := ⟨_, rfl⟩
    rw [← hd'] at n6 H2
    clear HH hd'
    by_cases j1 : n < d'
    · have HF := Lib.hid (show R = true by rw [← H2.out, decide_eq_true j1]; rfl)
      have i1 : decide ((d' : Int) > (n : Int)) = true := by simp; omega
      go_enter Tryd.func32, Tryd.ntmps32
      go_wp2
      rw [HF.out]
      go_ret
      exact ⟨rfl, rfl⟩
    · have i1 : decide ((d' : Int) > (n : Int)) = false := by simp; omega
      by_cases j2 : d' = n
      · have i2 : ((d' : Int) == (n : Int)) = true := by simp; omega
        have HF := Lib.hid (show R = decide (0 < t) by rw [← H2.out, decide_eq_false j1, decide_eq_true j2]; simp)
        go_enter Tryd.func32, Tryd.ntmps32
        go_wp2
        rw [HF.out]
        go_ret
        exact ⟨rfl, rfl⟩
      · have i2 : ((d' : Int) == (n : Int)) = false := by simp; omega
        have HF := Lib.hid (show R = false by rw [← H2.out, decide_eq_false j1, decide_eq_false j2]; rfl)
        go_enter Tryd.func32, Tryd.ntmps32
        go_wp2
        rw [HF.out]
        go_ret
        exact ⟨rfl, rfl⟩
  · have i0 : decide ((t : Int) < (c0 : Int)) = false := by simp; omega
    have H2 := Lib.hid (show (decide (n < d) || decide (d = n) && decide (0 < t)) = R by have := HH.out; rw [if_neg hc] at this; exact this)
    clear HH n6
    by_cases j1 : n < d
    · have HF := Lib.hid (show R = true by rw [← H2.out, decide_eq_true j1]; rfl)
      have i1 : decide ((d : Int) > (n : Int)) = true := by simp; omega
      go_enter Tryd.func32, Tryd.ntmps32
      go_wp2
      rw [HF.out]
      go_ret
      exact ⟨rfl, rfl⟩
    · have i1 : decide ((d : Int) > (n : Int)) = false := by simp; omega
      by_cases j2 : d = n
      · have i2 : ((d : Int) == (n : Int)) = true := by simp; omega
        have HF := Lib.hid (show R = decide (0 < t) by rw [← H2.out, decide_eq_false j1, decide_eq_true j2]; simp)
        go_enter Tryd.func32, Tryd.ntmps32
        go_wp2
        rw [HF.out]
        go_ret
        exact ⟨rfl, rfl⟩
      · have i2 : ((d : Int) == (n : Int)) = false := by simp; omega
        have HF := Lib.hid (show R = false by rw [← H2.out, decide_eq_false j1, decide_eq_false j2]; rfl)
        go_enter Tryd.func32, Tryd.ntmps32
        go_wp2
        rw [HF.out]
        go_ret
        exact ⟨rfl, rfl⟩
end Go.Proofs.YthjfhgnmaepafaaDoor
