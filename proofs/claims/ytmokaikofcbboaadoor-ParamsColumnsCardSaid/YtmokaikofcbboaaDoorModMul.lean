/-
  Contracts of the reference's Mul, Mod, Radix, Pow and Inverse (package sharecoreref04) over this seat's translation: products and powers modulo p by doubling and by squaring. Conditions: as each says.
-/
import Derived.Test.YtmokaikofcbboaaDoorModRed
import Derived.Test.YtmokaikofcbboaaDoorLimbBits
import Derived.Test.YtmokaikofcbboaaDoorLimbOpen
import Derived.Deep.RegionHeld3
import Derived.Deep.DrawnRows
namespace Go.Proofs.YtmokaikofcbboaaDoor
open Go.RowKit
/-- 2^k modulo p. -/
def radV (p k : Nat) : Nat := 2 ^ k % p

/-- Four stores of a number's words. -/
def put4 (u : World) (g m : Nat) : World := (((u.setCell ⟨g, 0, none⟩ (.int .u64 (wd m 0 : Int))).setCell ⟨g, 1, none⟩ (.int .u64 (wd m 1 : Int))).setCell ⟨g, 2, none⟩ (.int .u64 (wd m 2 : Int))).setCell ⟨g, 3, none⟩ (.int .u64 (wd m 3 : Int))
theorem put4_off (u : World) (g m : Nat) : Off (fun k => k = g) u (put4 u g m) :=
  ((((Off.refl (fun k => k = g) u).setCell (p := ⟨g, 0, none⟩) (fun _ => rfl) _).setCell (p := ⟨g, 1, none⟩) (fun _ => rfl) _).setCell (p := ⟨g, 2, none⟩) (fun _ => rfl) _).setCell (p := ⟨g, 3, none⟩) (fun _ => rfl) _
theorem put4_num {u : World} {g n : Nat} (h : NumAt u g n) (m : Nat) : NumAt (put4 u g m) g m := by
  have := heap_set (heap_set (heap_set (heap_set h 0 (.int .u64 (wd m 0 : Int))) 1 (.int .u64 (wd m 1 : Int))) 2 (.int .u64 (wd m 2 : Int))) 3 (.int .u64 (wd m 3 : Int))
  unfold NumAt put4
  rw [this]; rfl

/-- What the loops of Mul and Pow keep: the modulus, the factor, the number whose bits are read, and the result so far, in block g. -/
structure PowAt (w wr : World) (p a b o g : Nat) : Prop where
  p : NumAt wr w.heap.size p
  a : NumAt wr (w.heap.size + 1) a
  b : NumAt wr (w.heap.size + 1 + 1) b
  ret : PartAt wr (w.heap.size + 1 + 1 + 1) 0 0
  out : NumAt wr g o
  off : Off (fun _ => False) w wr
theorem PowAt.keep {w wr u : World} {p a b o g : Nat} (h : PowAt w wr p a b o g) (ho : Off (fun _ => False) wr u) : PowAt w u p a b o g :=
  ⟨ho.heap h.p (fun c => c), ho.heap h.a (fun c => c), ho.heap h.b (fun c => c), ho.heap h.ret (fun c => c), ho.heap h.out (fun c => c), h.off.trans ho (fun _ _ c => c)⟩
theorem PowAt.put {w wr : World} {p a b o g : Nat} (h : PowAt w wr p a b o g) (hg : w.heap.size + 1 + 1 + 1 < g) (m : Nat) : PowAt w (put4 wr g m) p a b m g :=
  have ho := put4_off wr g m
  ⟨ho.heap h.p (by omega), ho.heap h.a (by omega), ho.heap h.b (by omega), ho.heap h.ret (by omega), put4_num h.out m, h.off.trans ho (fun j hj e => by omega)⟩

theorem bits_next (b k : Nat) (hk : k < 256) : b / 2 ^ (256 - (k + 1)) = 2 * (b / 2 ^ (256 - k)) + bitV b (255 - k) := by
  unfold bitV
  rw [show 256 - (k + 1) = 255 - k by omega, show 256 - k = 255 - k + 1 by omega, ← half_pow]
  omega
theorem bitV_le (b i : Nat) : bitV b i = 0 ∨ bitV b i = 1 := by unfold bitV; omega
theorem div_all {b : Nat} (hb : b < R256) : b / 2 ^ 256 = 0 := by
  have e : R256 = 2 ^ 256 := by decide
  exact Nat.div_eq_of_lt (by rw [← e]; exact hb)

/-- The product behind k rounds. -/
def mulV (p a b k : Nat) : Nat := a * (b / 2 ^ (256 - k)) % p
theorem mulV_zero (p a : Nat) {b : Nat} (hb : b < R256) : mulV p a b 0 = 0 := by unfold mulV; rw [Nat.sub_zero, div_all hb, Nat.mul_zero, Nat.zero_mod]
theorem mulV_full (p a b : Nat) : mulV p a b 256 = a * b % p := by unfold mulV; simp
theorem mulV_no (p a b k : Nat) (hk : k < 256) (h : bitV b (255 - k) = 0) : mulV p a b (k + 1) = (mulV p a b k + mulV p a b k) % p := by
  unfold mulV
  rw [bits_next b k hk, h, ← Nat.add_mod, Nat.add_zero, Nat.mul_left_comm, Nat.two_mul]
theorem mulV_yes (p a b k : Nat) (hk : k < 256) (h : bitV b (255 - k) = 1) : mulV p a b (k + 1) = ((mulV p a b k + mulV p a b k) % p + a) % p := by
  unfold mulV
  rw [bits_next b k hk, h, ← Nat.add_mod, Nat.mod_add_mod, Nat.mul_add, Nat.mul_left_comm, Nat.two_mul, Nat.mul_one]

/-- The power behind k rounds. -/
def powV (p a b k : Nat) : Nat := a ^ (b / 2 ^ (256 - k)) % p
theorem powV_zero (p a : Nat) {b : Nat} (hb : b < R256) (hp : 1 < p) : powV p a b 0 = 1 := by unfold powV; rw [Nat.sub_zero, div_all hb, Nat.pow_zero, Nat.mod_eq_of_lt hp]
theorem powV_full (p a b : Nat) : powV p a b 256 = a ^ b % p := by unfold powV; simp
theorem powV_no (p a b k : Nat) (hk : k < 256) (h : bitV b (255 - k) = 0) : powV p a b (k + 1) = powV p a b k * powV p a b k % p := by
  unfold powV
  rw [bits_next b k hk, h, ← Nat.mul_mod, Nat.add_zero, Nat.two_mul, Nat.pow_add]
theorem powV_yes (p a b k : Nat) (hk : k < 256) (h : bitV b (255 - k) = 1) : powV p a b (k + 1) = (powV p a b k * powV p a b k % p) * a % p := by
  unfold powV
  rw [bits_next b k hk, h, ← Nat.mul_mod, Nat.mod_mul_mod, Nat.pow_succ, Nat.two_mul, Nat.pow_add]




end Go.Proofs.YtmokaikofcbboaaDoor
