/-
  Contracts of the reference's Mul, Mod, Radix, Pow and Inverse (package sharecoreref04) over this seat's translation: products and powers modulo p by doubling and by squaring. Conditions: as each says.
-/
import Derived.Test.YtpiialjnjfkfeaaDoorModRed
import Derived.Test.YtpiialjnjfkfeaaDoorLimbBits
import Derived.Test.YtpiialjnjfkfeaaDoorLimbOpen
import Derived.Deep.RegionHeld3
import Derived.Deep.DrawnRows
namespace Go.Proofs.YtpiialjnjfkfeaaDoor
open Go.RowKit
/-- 2^k modulo p. -/
def radV (p k : Nat) : Nat := 2 ^ k % p

/-- Four stores of a number's words. -/
def put4 (u : World) (g m : Nat) : World := (((u.setCell ⟨g, 0, none⟩ (.int .u64 (wd m 0 : Int))).setCell ⟨g, 1, none⟩ (.int .u64 (wd m 1 : Int))).setCell ⟨g, 2, none⟩ (.int .u64 (wd m 2 : Int))).setCell ⟨g, 3, none⟩ (.int .u64 (wd m 3 : Int))
theorem put4_off (u : World) (g m : Nat) : Off (fun k => k = g) u (put4 u g m) :=
  ((((Off.refl (fun k => k = g) u).setCell (p := ⟨g, 0, none⟩) (fun _ => rfl) _).setCell (p := ⟨g, 1, none⟩) (fun _ => rfl) _).setCell (p := ⟨g, 2, none⟩) (fun _ => rfl) _).setCell (p := ⟨g, 3, none⟩) (fun _ => rfl) _
theorem put4_num {u : World} {g n : Nat} (h : NumAt u g n) (m : Nat) : NumAt (put4 u g m) g m := by
  have := heap_set (heap_set (heap_set (heap_set h 0 (.int .u64 (wd m 0 : Int))) 1 (.int .u64 (wd m 1 : Int))) 2 (.int .u64 (wd m 2 : Int))) 3 (.int .u64 (wd m 3 : Int))
  unfold NumAt put4
  rw [this]; rfl

/-- What the loops of Mul and Pow keep: the modulus, the factor, the number whose bits are read, and the result so far, in block g. -/
structure PowAt (w wr : World) (p a b o g : Nat) : Prop where
  p : NumAt wr w.heap.size p
  a : NumAt wr (w.heap.size + 1) a
  b : NumAt wr (w.heap.size + 1 + 1) b
  ret : PartAt wr (w.heap.size + 1 + 1 + 1) 0 0
  out : NumAt wr g o
  off : Off (fun _ => False) w wr
theorem PowAt.keep {w wr u : World} {p a b o g : Nat} (h : PowAt w wr p a b o g) (ho : Off (fun _ => False) wr u) : PowAt w u p a b o g :=
  ⟨ho.heap h.p (fun c => c), ho.heap h.a (fun c => c), ho.heap h.b (fun c => c), ho.heap h.ret (fun c => c), ho.heap h.out (fun c => c), h.off.trans ho (fun _ _ c => c)⟩
theorem PowAt.put {w wr : World} {p a b o g : Nat} (h : PowAt w wr p a b o g) (hg : w.heap.size + 1 + 1 + 1 < g) (m : Nat) : PowAt w (put4 wr g m) p a b m g :=
  have ho := put4_off wr g m
  ⟨ho.heap h.p (by omega), ho.heap h.a (by omega), ho.heap h.b (by omega), ho.heap h.ret (by omega), put4_num h.out m, h.off.trans ho (fun j hj e => by omega)⟩

theorem bits_next (b k : Nat) (hk : k < 256) : b / 2 ^ (256 - (k + 1)) = 2 * (b / 2 ^ (256 - k)) + bitV b (255 - k) := by
  unfold bitV
  rw [show 256 - (k + 1) = 255 - k by omega, show 256 - k = 255 - k + 1 by omega, ← half_pow]
  omega
theorem bitV_le (b i : Nat) : bitV b i = 0 ∨ bitV b i = 1 := by unfold bitV; omega
theorem div_all {b : Nat} (hb : b < R256) : b / 2 ^ 256 = 0 := by
  have e : R256 = 2 ^ 256 := by decide
  exact Nat.div_eq_of_lt (by rw [← e]; exact hb)

/-- The product behind k rounds. -/
def mulV (p a b k : Nat) : Nat := a * (b / 2 ^ (256 - k)) % p
theorem mulV_zero (p a : Nat) {b : Nat} (hb : b < R256) : mulV p a b 0 = 0 := by unfold mulV; rw [Nat.sub_zero, div_all hb, Nat.mul_zero, Nat.zero_mod]
theorem mulV_full (p a b : Nat) : mulV p a b 256 = a * b % p := by unfold mulV; simp
theorem mulV_no (p a b k : Nat) (hk : k < 256) (h : bitV b (255 - k) = 0) : mulV p a b (k + 1) = (mulV p a b k + mulV p a b k) % p := by
  unfold mulV
  rw [bits_next b k hk, h, ← Nat.add_mod, Nat.add_zero, Nat.mul_left_comm, Nat.two_mul]
theorem mulV_yes (p a b k : Nat) (hk : k < 256) (h : bitV b (255 - k) = 1) : mulV p a b (k + 1) = ((mulV p a b k + mulV p a b k) % p + a) % p := by
  unfold mulV
  rw [bits_next b k hk, h, ← Nat.add_mod, Nat.mod_add_mod, Nat.mul_add, Nat.mul_left_comm, Nat.two_mul, Nat.mul_one]

/-- The power behind k rounds. -/
def powV (p a b k : Nat) : Nat := a ^ (b / 2 ^ (256 - k)) % p
theorem powV_zero (p a : Nat) {b : Nat} (hb : b < R256) (hp : 1 < p) : powV p a b 0 = 1 := by unfold powV; rw [Nat.sub_zero, div_all hb, Nat.pow_zero, Nat.mod_eq_of_lt hp]
theorem powV_full (p a b : Nat) : powV p a b 256 = a ^ b % p := by unfold powV; simp
theorem powV_no (p a b k : Nat) (hk : k < 256) (h : bitV b (255 - k) = 0) : powV p a b (k + 1) = powV p a b k * powV p a b k % p := by
  unfold powV
  rw [bits_next b k hk, h, ← Nat.mul_mod, Nat.add_zero, Nat.two_mul, Nat.pow_add]
theorem powV_yes (p a b k : Nat) (hk : k < 256) (h : bitV b (255 - k) = 1) : powV p a b (k + 1) = (powV p a b k * powV p a b k % p) * a % p := by
  unfold powV
  rw [bits_next b k hk, h, ← Nat.mul_mod, Nat.mod_mul_mod, Nat.pow_succ, Nat.two_mul, Nat.pow_add]

set_option maxRecDepth 100000 in
set_option maxHeartbeats 4000000 in
theorem mod_mul (p a b : Nat) (hp : p < R256) (h1 : 1 < p) (ha : a < p) (hb : b < R256) (w : World) :
    Calls Tryd.prog 29 #[V p, V a, V b] w fun e w' => e = .returned (V (a * b % p)) ∧ Off (fun _ => False) w w' := by
  have HB := Lib.hid hb
  have HF := Lib.hid (mulV_full p a b)
  have HZ := Lib.hid (mulV_zero p a hb)
  have FO := Lib.hid (fun x y hx hy W => mod_add p x y hp hx hy W)
  have FB := Lib.hid (fun i hi W => refbit_any b i hb hi W)
  have hlt0 : ∀ k, mulV p a b k < p := fun k => by unfold mulV; exact Nat.mod_lt _ (by omega)
  have HL := Lib.hid hlt0
  have hpw : ∀ x, x < p → x < R256 := fun x hx => by omega
  have HP := Lib.hid hpw
  have HN := Lib.hid (fun k hk h => mulV_no p a b k hk h)
  have HY := Lib.hid (fun k hk h => mulV_yes p a b k hk h)
  have HAp := Lib.hid ha
  clear hlt0 hpw hb hp h1 ha
  go_enter Tryd.func29, Tryd.ntmps29
  go_wp2
  obtain ⟨g, hg⟩ : ∃ g, g = w.heap.size + 1 + 1 + 1 + 1 := ⟨_, rfl⟩
  have z0 : ∀ i, wd 0 i = 0 := fun i => by unfold wd dg; simp
  have HS := Lib.hid (show PowAt w (((((w.alloc (.cells #[.int .u64 (wd p 0 : Int), .int .u64 (wd p 1 : Int), .int .u64 (wd p 2 : Int), .int .u64 (wd p 3 : Int)] 39)).alloc (.cells #[.int .u64 (wd a 0 : Int), .int .u64 (wd a 1 : Int), .int .u64 (wd a 2 : Int), .int .u64 (wd a 3 : Int)] 39)).alloc (.cells #[.int .u64 (wd b 0 : Int), .int .u64 (wd b 1 : Int), .int .u64 (wd b 2 : Int), .int .u64 (wd b 3 : Int)] 39)).alloc (.cells #[.int .u64 0, .int .u64 0, .int .u64 0, .int .u64 0] 39)).alloc (.cells #[.int .u64 0, .int .u64 0, .int .u64 0, .int .u64 0] 39)) p a b 0 g from
    ⟨heap_old' (heap_old' (heap_old' (heap_old' (heap_new' rfl _) _) _) _) _, heap_old' (heap_old' (heap_old' (heap_new' (by simp) _) _) _) _, heap_old' (heap_old' (heap_new' (by simp) _) _) _, heap_old' (heap_new' (by simp) _) _, by unfold NumAt; simp only [z0]; rw [hg]; exact heap_new' (by simp) _, (((((Off.refl _ w).alloc _).alloc _).alloc _).alloc _).alloc _⟩)
  have hgl : w.heap.size + 1 + 1 + 1 < g := by omega
  clear z0
  rw [← hg]
  clear hg
  go_loopw [8] (fun i wr => ∃ k : Nat, k ≤ 256 ∧ i = .int .i64 (255 - (k : Int)) ∧ PowAt w wr p a b (mulV p a b k) g) (fun i _ => (intOf i + 1).toNat)
  case atStart => exact ⟨0, by omega, by simp, by rw [HZ.out]; exact HS.out⟩
  case round =>
    obtain ⟨k, hk, rfl, hA⟩ := hrel
    by_cases hlt : k < 256
    · obtain ⟨j, hj⟩ : ∃ j, j = 255 - k := ⟨_, rfl⟩
      have hij : (255 : Int) - (k : Int) = (j : Int) := by omega
      have HJ := Lib.hid (show ((j : Int) - 1) = 255 - ((k + 1 : Nat) : Int) by omega)
      rw [hij]
      have i1 : decide ((0 : Int) ≤ (j : Int)) = true := by simp
      have jb : (j : Int) ≤ 255 := by omega
      clear hij
      obtain ⟨o, ho⟩ : ∃ o, o = mulV p a b k := ⟨_, rfl⟩
      have hop := HL.out k
      have hno := HN.out k hlt
      have hye := HY.out k hlt
      rw [← ho] at hA hop hno hye
      rw [← hj] at hno hye
      have HOP := Lib.hid hop
      have HNO := Lib.hid hno
      have HYE := Lib.hid hye
      have HA := Lib.hid hA
      obtain ⟨p0, p1, p2, p3⟩ := hA.p.four
      obtain ⟨o0, o1, o2, o3⟩ := hA.out.four
      clear hA hno hye hop hj ho
      go_wp2_with fail
      refine (FO.out o o HOP.out HOP.out _).mono ?_
      rintro e u1 ⟨rfl, hO1⟩
      obtain ⟨d, hd⟩ : ∃ d, d = (o + o) % p := ⟨_, rfl⟩
      rw [← hd]
      have hdp : d < p := by rw [hd]; exact Nat.mod_lt _ (by have := HOP.out; omega)
      have HDP := Lib.hid hdp
      have HD := Lib.hid hd
      have hA1 := HA.out.keep hO1
      clear p0 p1 p2 p3 o0 o1 o2 o3 hO1 hd hdp
      obtain ⟨o0, o1, o2, o3⟩ := hA1.out.four
      have fz := fun j => frozen_of_heap hA1.out j
      have hA2 := hA1.put (Nat.lt_of_lt_of_le hgl (Nat.le_refl _)) d
      obtain ⟨b0, b1, b2, b3⟩ := (show NumAt u1 (w.heap.size + 1 + 1) b from hA1.b).four
      have nb : w.heap.size + 1 + 1 ≠ g := by omega
      have HA2 := Lib.hid hA2
      clear hA1 hA2
      go_wp2_with fail
      refine (FB.out j (by omega) _).mono ?_
      rintro e u2 ⟨rfl, hO2⟩
      have hA3 := HA2.out.keep hO2
      clear o0 o1 o2 o3 fz b0 b1 b2 b3 hO2
      rcases bitV_le b j with hbit | hbit
      · rw [hbit]
        have HA3 := Lib.hid (by rw [HD.out, ← HNO.out hbit] at hA3; exact hA3 : PowAt w u2 p a b (mulV p a b (k + 1)) g)
        clear hA3 hbit
        go_wp2
        go_roundw
        case rel => exact ⟨k + 1, by omega, by rw [HJ.out], HA3.out⟩
        case measure => simp [intOf] <;> omega
      · rw [hbit]
        obtain ⟨p0, p1, p2, p3⟩ := hA3.p.four
        obtain ⟨a0, a1, a2, a3⟩ := hA3.a.four
        obtain ⟨o0, o1, o2, o3⟩ := hA3.out.four
        have HA3 := Lib.hid hA3
        have HBIT := Lib.hid hbit
        clear hA3 hbit
        go_wp2_with fail
        refine (FO.out d a HDP.out HAp.out _).mono ?_
        rintro e u3 ⟨rfl, hO3⟩
        have hA4 := HA3.out.keep hO3
        clear p0 p1 p2 p3 a0 a1 a2 a3 o0 o1 o2 o3 hO3
        obtain ⟨o0, o1, o2, o3⟩ := hA4.out.four
        have fz := fun j => frozen_of_heap hA4.out j
        obtain ⟨q, hq⟩ : ∃ q, q = (d + a) % p := ⟨_, rfl⟩
        rw [← hq]
        have hA5 := hA4.put (Nat.lt_of_lt_of_le hgl (Nat.le_refl _)) q
        have HA5 := Lib.hid (by rw [hq, HD.out, ← HYE.out HBIT.out] at hA5; rw [hq, HD.out, ← HYE.out HBIT.out]; exact hA5 : PowAt w (put4 u3 g q) p a b (mulV p a b (k + 1)) g)
        clear hA4 hA5 hq
        go_wp2
        go_roundw
        case rel => exact ⟨k + 1, by omega, by rw [HJ.out], HA5.out⟩
        case measure => simp [intOf] <;> omega
    · obtain rfl : k = 256 := by omega
      have i1 : decide ((0 : Int) ≤ 255 - ((256 : Nat) : Int)) = false := by simp
      obtain ⟨o, ho⟩ : ∃ o, o = mulV p a b 256 := ⟨_, rfl⟩
      rw [← ho] at hA
      have HE := Lib.hid (ho.trans HF.out)
      obtain ⟨o0, o1, o2, o3⟩ := hA.out.four
      obtain ⟨⟨r0, r1, r2, r3⟩, fz⟩ := hA.ret.four
      have HA := Lib.hid hA
      clear hA ho
      go_wp2
      refine bodyPost_ret (v := V o) (by simp [results, Tryd.results29, go_sem, r0, r1, r2, r3]) rfl ⟨by rw [HE.out], ?_⟩
      exact off4 HA.out.off (by omega) _ _ _ _

/-- A call that changes nothing that lay in memory before keeps two numbers, a number's place and the frame. -/
theorem held_mod {f : FuncId} {args : Array Value} {v : Value} (hc : ∀ W, Calls Tryd.prog f args W fun e w' => e = .returned v ∧ Off (fun _ => False) W w') {w W : World} {b n b' n' r : Nat}
    (h : (W.cell? ⟨b, 0, none⟩ = some (.int .u64 (wd n 0 : Int)) ∧ W.cell? ⟨b, 1, none⟩ = some (.int .u64 (wd n 1 : Int)) ∧ W.cell? ⟨b, 2, none⟩ = some (.int .u64 (wd n 2 : Int)) ∧ W.cell? ⟨b, 3, none⟩ = some (.int .u64 (wd n 3 : Int))) ∧
      (W.cell? ⟨b', 0, none⟩ = some (.int .u64 (wd n' 0 : Int)) ∧ W.cell? ⟨b', 1, none⟩ = some (.int .u64 (wd n' 1 : Int)) ∧ W.cell? ⟨b', 2, none⟩ = some (.int .u64 (wd n' 2 : Int)) ∧ W.cell? ⟨b', 3, none⟩ = some (.int .u64 (wd n' 3 : Int))) ∧ (∃ m, NumAt W r m) ∧ Off (fun _ => False) w W) :
    Calls Tryd.prog f args W fun e w' => e = .returned v ∧ ((w'.cell? ⟨b, 0, none⟩ = some (.int .u64 (wd n 0 : Int)) ∧ w'.cell? ⟨b, 1, none⟩ = some (.int .u64 (wd n 1 : Int)) ∧ w'.cell? ⟨b, 2, none⟩ = some (.int .u64 (wd n 2 : Int)) ∧ w'.cell? ⟨b, 3, none⟩ = some (.int .u64 (wd n 3 : Int))) ∧
      (w'.cell? ⟨b', 0, none⟩ = some (.int .u64 (wd n' 0 : Int)) ∧ w'.cell? ⟨b', 1, none⟩ = some (.int .u64 (wd n' 1 : Int)) ∧ w'.cell? ⟨b', 2, none⟩ = some (.int .u64 (wd n' 2 : Int)) ∧ w'.cell? ⟨b', 3, none⟩ = some (.int .u64 (wd n' 3 : Int))) ∧ (∃ m, NumAt w' r m) ∧ Off (fun _ => False) w w') :=
  (hc W).mono fun _ _ ⟨he, hO⟩ => ⟨he, Four.off h.1 hO, Four.off h.2.1 hO, h.2.2.1.imp (fun _ hm => hO.heap hm (fun c => c)), h.2.2.2.trans hO (fun _ _ c => c)⟩
/-- What the store of the result meets, and what it leaves. -/
theorem mod_after {w W : World} {b n b' n' r : Nat} (hr : w.heap.size ≤ r) (hb : b ≠ r) (hb' : b' ≠ r)
    (h : (W.cell? ⟨b, 0, none⟩ = some (.int .u64 (wd n 0 : Int)) ∧ W.cell? ⟨b, 1, none⟩ = some (.int .u64 (wd n 1 : Int)) ∧ W.cell? ⟨b, 2, none⟩ = some (.int .u64 (wd n 2 : Int)) ∧ W.cell? ⟨b, 3, none⟩ = some (.int .u64 (wd n 3 : Int))) ∧
      (W.cell? ⟨b', 0, none⟩ = some (.int .u64 (wd n' 0 : Int)) ∧ W.cell? ⟨b', 1, none⟩ = some (.int .u64 (wd n' 1 : Int)) ∧ W.cell? ⟨b', 2, none⟩ = some (.int .u64 (wd n' 2 : Int)) ∧ W.cell? ⟨b', 3, none⟩ = some (.int .u64 (wd n' 3 : Int))) ∧ (∃ m, NumAt W r m) ∧ Off (fun _ => False) w W) (k : Nat) :
    (∃ m, (W.cell? ⟨r, 0, none⟩ = some (.int .u64 (wd m 0 : Int)) ∧ W.cell? ⟨r, 1, none⟩ = some (.int .u64 (wd m 1 : Int)) ∧ W.cell? ⟨r, 2, none⟩ = some (.int .u64 (wd m 2 : Int)) ∧ W.cell? ⟨r, 3, none⟩ = some (.int .u64 (wd m 3 : Int))) ∧ ∀ j, W.frozen? ⟨r, j, none⟩ = false) ∧
    (((put4 W r k).cell? ⟨b, 0, none⟩ = some (.int .u64 (wd n 0 : Int)) ∧ (put4 W r k).cell? ⟨b, 1, none⟩ = some (.int .u64 (wd n 1 : Int)) ∧ (put4 W r k).cell? ⟨b, 2, none⟩ = some (.int .u64 (wd n 2 : Int)) ∧ (put4 W r k).cell? ⟨b, 3, none⟩ = some (.int .u64 (wd n 3 : Int))) ∧
      ((put4 W r k).cell? ⟨b', 0, none⟩ = some (.int .u64 (wd n' 0 : Int)) ∧ (put4 W r k).cell? ⟨b', 1, none⟩ = some (.int .u64 (wd n' 1 : Int)) ∧ (put4 W r k).cell? ⟨b', 2, none⟩ = some (.int .u64 (wd n' 2 : Int)) ∧ (put4 W r k).cell? ⟨b', 3, none⟩ = some (.int .u64 (wd n' 3 : Int))) ∧ (∃ m, NumAt (put4 W r k) r m) ∧ Off (fun _ => False) w (put4 W r k)) := by
  obtain ⟨h1, h2, ⟨m, hm⟩, hO⟩ := h
  have ho := put4_off W r k
  exact ⟨⟨m, hm.four, fun j => frozen_of_heap hm j⟩, ⟨ho.cell h1.1 hb, ho.cell h1.2.1 hb, ho.cell h1.2.2.1 hb, ho.cell h1.2.2.2 hb⟩, ⟨ho.cell h2.1 hb', ho.cell h2.2.1 hb', ho.cell h2.2.2.1 hb', ho.cell h2.2.2.2 hb'⟩, ⟨k, put4_num hm k⟩, hO.trans ho (fun j hj e => by omega)⟩

attribute [local go_sem ↓] Go.wp_at_zero Go.wp_at_succ
set_option maxRecDepth 100000 in
set_option maxHeartbeats 4000000 in
theorem mod_mod (p a : Nat) (hp : p < R256) (h1 : 1 < p) (ha : a < R256) (w : World) :
    Calls Tryd.prog 34 #[V p, V a] w fun e w' => e = .returned (V (a % p)) ∧ Off (fun _ => False) w w' := by
  have FM := fun W => mod_mul p 1 a hp h1 h1 ha W
  simp only [Nat.one_mul] at FM
  obtain ⟨r, hr⟩ : ∃ r, r = a % p := ⟨_, rfl⟩
  simp only [← hr] at FM ⊢
  have FM := Lib.hid FM
  have z0 : ∀ i, wd 0 i = 0 := fun i => by unfold wd dg; simp
  obtain ⟨W0, hW0⟩ : ∃ W0, W0 = (((w.alloc (.cells #[.int .u64 (wd p 0 : Int), .int .u64 (wd p 1 : Int), .int .u64 (wd p 2 : Int), .int .u64 (wd p 3 : Int)] 39)).alloc (.cells #[.int .u64 (wd a 0 : Int), .int .u64 (wd a 1 : Int), .int .u64 (wd a 2 : Int), .int .u64 (wd a 3 : Int)] 39)).alloc (.cells #[.int .u64 0, .int .u64 0, .int .u64 0, .int .u64 0] 39)) := ⟨_, rfl⟩
  have hP : NumAt W0.drew w.heap.size p := by rw [hW0]; exact heap_old' (heap_old' (heap_new' rfl _) _) _
  have hA : NumAt W0.drew (w.heap.size + 1) a := by rw [hW0]; exact heap_old' (heap_new' (by simp) _) _
  have hR : NumAt W0.drew (w.heap.size + 1 + 1) 0 := by rw [hW0]; unfold NumAt; simp only [z0]; exact heap_new' (by simp) _
  have hO : Off (fun _ => False) w W0.drew := by rw [hW0]; exact ((((Off.refl _ w).alloc _).alloc _).alloc _).drew
  have hS := Lib.hid (And.intro hP.four (And.intro hA.four (And.intro (Exists.intro (p := fun m => NumAt W0.drew (w.heap.size + 1 + 1) m) 0 hR) hO)))
  rw [hW0] at hS
  have n1 : w.heap.size ≤ w.heap.size + 1 + 1 := by omega
  have n2 : w.heap.size ≠ w.heap.size + 1 + 1 := by omega
  have n3 : w.heap.size + 1 ≠ w.heap.size + 1 + 1 := by omega
  have N := Lib.hid (And.intro n1 (And.intro n2 n3))
  clear hP hA hR hO hW0 z0 hr hp h1 ha n1 n2 n3
  go_enter Tryd.func34, Tryd.ntmps34
  go_wp2_with fail
  have hS := hS.out
  go_region_held3 (fun w' => (w'.cell? ⟨w.heap.size, 0, none⟩ = some (.int .u64 (wd p 0 : Int)) ∧ w'.cell? ⟨w.heap.size, 1, none⟩ = some (.int .u64 (wd p 1 : Int)) ∧ w'.cell? ⟨w.heap.size, 2, none⟩ = some (.int .u64 (wd p 2 : Int)) ∧ w'.cell? ⟨w.heap.size, 3, none⟩ = some (.int .u64 (wd p 3 : Int))) ∧ (w'.cell? ⟨w.heap.size + 1, 0, none⟩ = some (.int .u64 (wd a 0 : Int)) ∧ w'.cell? ⟨w.heap.size + 1, 1, none⟩ = some (.int .u64 (wd a 1 : Int)) ∧ w'.cell? ⟨w.heap.size + 1, 2, none⟩ = some (.int .u64 (wd a 2 : Int)) ∧ w'.cell? ⟨w.heap.size + 1, 3, none⟩ = some (.int .u64 (wd a 3 : Int))) ∧ (∃ m, NumAt w' (w.heap.size + 1 + 1) m) ∧ Off (fun _ => False) w w')
    (first | assumption | go_keep)
    (first
      | (go_at_call 38; refine (held_mod mod_one (by assumption)).mono ?_; rintro e w' ⟨rfl, hS⟩)
      | (go_at_call 29; refine (held_mod FM.out (by assumption)).mono ?_; rintro e w' ⟨rfl, hS⟩; obtain ⟨⟨m, ⟨r0, r1, r2, r3⟩, fz⟩, hS2⟩ := mod_after N.out.1 N.out.2.1 N.out.2.2 hS r; unfold put4 at hS2))
  go_split_ands
  go_wp2
  refine bodyPost_ret (v := V r) (by simp [results, Tryd.results34, go_sem, r0, r1, r2, r3]) rfl ⟨rfl, by assumption⟩

/-- What the loop of Radix keeps. -/
structure RadAt (w wr : World) (p o g : Nat) : Prop where
  p : NumAt wr w.heap.size p
  ret : PartAt wr (w.heap.size + 1) 0 0
  out : NumAt wr g o
  off : Off (fun _ => False) w wr
theorem RadAt.keep {w wr u : World} {p o g : Nat} (h : RadAt w wr p o g) (ho : Off (fun _ => False) wr u) : RadAt w u p o g :=
  ⟨ho.heap h.p (fun c => c), ho.heap h.ret (fun c => c), ho.heap h.out (fun c => c), h.off.trans ho (fun _ _ c => c)⟩
theorem RadAt.put {w wr : World} {p o g : Nat} (h : RadAt w wr p o g) (hg : w.heap.size + 1 < g) (m : Nat) : RadAt w (put4 wr g m) p m g :=
  have ho := put4_off wr g m
  ⟨ho.heap h.p (by omega), ho.heap h.ret (by omega), put4_num h.out m, h.off.trans ho (fun j hj e => by omega)⟩
theorem rad_step (p k : Nat) : (radV p k + radV p k) % p = radV p (k + 1) := by
  unfold radV
  rw [← Nat.add_mod, Nat.pow_succ, Nat.mul_two]

set_option maxRecDepth 100000 in
set_option maxHeartbeats 4000000 in
theorem mod_radix (p : Nat) (hp : p < R256) (h1 : 1 < p) (w : World) :
    Calls Tryd.prog 30 #[V p] w fun e w' => e = .returned (V (radV p 256)) ∧ Off (fun _ => False) w w' := by
  have hz : 1 = radV p 0 := by unfold radV; rw [Nat.pow_zero, Nat.mod_eq_of_lt h1]
  have HZ := Lib.hid hz
  have hlt0 : ∀ k, radV p k < p := fun k => Nat.mod_lt _ (by omega)
  have FO := Lib.hid (fun x hx W => mod_add p x x hp hx hx W)
  have HL := Lib.hid hlt0
  have HN := Lib.hid (rad_step p)
  clear hlt0 hp h1 hz
  go_enter Tryd.func30, Tryd.ntmps30
  go_wp2_with fail
  refine (mod_one _).mono ?_
  rintro e u0 ⟨rfl, hO0⟩
  have HS0 := Lib.hid (show RadAt w (u0.alloc (.cells #[.int .u64 (wd 1 0 : Int), .int .u64 (wd 1 1 : Int), .int .u64 (wd 1 2 : Int), .int .u64 (wd 1 3 : Int)] 39)) p 1 u0.heap.size from
    ⟨heap_old' (hO0.heap (heap_old' (heap_new' rfl _) _) (fun c => c)) _, heap_old' (hO0.heap (heap_new' (by simp) _) (fun c => c)) _, heap_new' rfl _, ((((Off.refl _ w).alloc _).alloc _).trans hO0 (fun _ _ c => c)).alloc _⟩)
  have hsz := hO0.size
  obtain ⟨g, hg⟩ : ∃ g, g = u0.heap.size := ⟨_, rfl⟩
  have hgl : w.heap.size + 1 < g := by simp at hsz; omega
  have HS := Lib.hid (by rw [← hg] at HS0; exact HS0.out : RadAt w (u0.alloc (.cells #[.int .u64 (wd 1 0 : Int), .int .u64 (wd 1 1 : Int), .int .u64 (wd 1 2 : Int), .int .u64 (wd 1 3 : Int)] 39)) p 1 g)
  clear hO0 hsz HS0
  go_wp2
  rw [← hg]
  clear hg
  go_loopw [4] (fun i wr => ∃ k : Nat, k ≤ 256 ∧ i = .int .i64 k ∧ RadAt w wr p (radV p k) g) (fun i _ => 256 - (intOf i).toNat)
  case atStart => exact ⟨0, by omega, rfl, by rw [← HZ.out]; exact HS.out⟩
  case round =>
    obtain ⟨k, hk, rfl, hA⟩ := hrel
    by_cases hlt : k < 256
    · have i1 : decide ((k : Int) < 256) = true := by simp; omega
      have hst := HN.out k
      have hop := HL.out k
      obtain ⟨o, ho⟩ : ∃ o, o = radV p k := ⟨_, rfl⟩
      rw [← ho] at hA hst hop
      obtain ⟨q, hq⟩ : ∃ q, q = (o + o) % p := ⟨_, rfl⟩
      rw [← hq] at hst
      have hF := fun W => FO.out o hop W
      simp only [← hq] at hF
      have HF := Lib.hid hF
      have HST := Lib.hid hst
      obtain ⟨p0, p1, p2, p3⟩ := hA.p.four
      obtain ⟨o0, o1, o2, o3⟩ := hA.out.four
      have HA := Lib.hid hA
      clear hA hst hop ho hq hF
      go_wp2_with fail
      refine (HF.out _).mono ?_
      rintro e u1 ⟨rfl, hO1⟩
      have hA1 := HA.out.keep hO1
      clear p0 p1 p2 p3 o0 o1 o2 o3 hO1
      obtain ⟨o0, o1, o2, o3⟩ := hA1.out.four
      have fz := fun j => frozen_of_heap hA1.out j
      have HA2 := Lib.hid (hA1.put hgl q)
      clear hA1
      go_wp2
      go_roundw
      case rel => exact ⟨k + 1, by omega, by go_num, by rw [← HST.out]; exact HA2.out⟩
      case measure => simp [intOf]; omega
    · obtain rfl : k = 256 := by omega
      obtain ⟨o, ho⟩ : ∃ o, o = radV p 256 := ⟨_, rfl⟩
      have HE := Lib.hid ho
      rw [← ho] at hA
      obtain ⟨o0, o1, o2, o3⟩ := hA.out.four
      obtain ⟨⟨r0, r1, r2, r3⟩, fz⟩ := hA.ret.four
      have HA := Lib.hid hA
      clear hA ho
      go_wp2
      refine bodyPost_ret (v := V o) (by simp [results, Tryd.results30, go_sem, r0, r1, r2, r3]) rfl ⟨by rw [HE.out], ?_⟩
      exact off4 HA.out.off (by omega) _ _ _ _

end Go.Proofs.YtpiialjnjfkfeaaDoor
