/-
  The hash function in plain numbers: words of 32 bits as natural numbers. Rotations, the schedule, the round, the state after a block, padding, and the constants as roots. Plain arithmetic; no condition but that words are below 2^32.
-/
import Derived.WalkKit
namespace Go.Proofs.YthjfhgnmaepafaaDoor

/-- A word rotated right by n. -/
def ror (x n : Nat) : Nat := x / 2 ^ n + x % 2 ^ n * 2 ^ (32 - n)
theorem ror_zero (x : Nat) : ror x 0 = x := by simp [ror, Nat.mod_one]
theorem ror_lt {x n : Nat} (hx : x < 4294967296) (hn : n ≤ 32) : ror x n < 4294967296 := by
  unfold ror
  have h1 : x % 2 ^ n ≤ 2 ^ n - 1 := Nat.le_sub_one_of_lt (Nat.mod_lt _ (Nat.two_pow_pos n))
  have h2 : x / 2 ^ n < 2 ^ (32 - n) := by
    rw [Nat.div_lt_iff_lt_mul (Nat.two_pow_pos n), ← Nat.pow_add, Nat.sub_add_cancel hn]; exact hx
  have h3 : x % 2 ^ n * 2 ^ (32 - n) ≤ (2 ^ n - 1) * 2 ^ (32 - n) := Nat.mul_le_mul_right _ h1
  have h4 : (2 ^ n - 1) * 2 ^ (32 - n) + 2 ^ (32 - n) = 4294967296 := by
    rw [← Nat.succ_mul, Nat.succ_eq_add_one, Nat.sub_add_cancel (Nat.one_le_two_pow), ← Nat.pow_add, Nat.add_sub_cancel' hn]
  omega
theorem ror_succ {x n : Nat} (hn : n < 32) : ror x n / 2 + ror x n % 2 * 2147483648 = ror x (n + 1) := by
  obtain ⟨m, hm⟩ : ∃ m, 32 - n = m + 1 := ⟨31 - n, by omega⟩
  have hm' : 32 - (n + 1) = m := by omega
  have hp : (2147483648 : Nat) = 2 ^ n * 2 ^ m := by rw [← Nat.pow_add, show n + m = 31 by omega]
  unfold ror
  rw [hm, hm', hp, Nat.pow_succ 2 m, Nat.pow_succ 2 n]
  obtain ⟨q, hq⟩ : ∃ q, q = x / 2 ^ n := ⟨_, rfl⟩
  obtain ⟨r, hr⟩ : ∃ r, r = x % 2 ^ n := ⟨_, rfl⟩
  have e1 : x / (2 ^ n * 2) = q / 2 := by rw [hq, Nat.div_div_eq_div_mul]
  have e2 : x % (2 ^ n * 2) = r + 2 ^ n * (q % 2) := by rw [hq, hr, Nat.mod_mul]
  rw [e1, e2, ← hq, ← hr]
  have e3 : (q + r * (2 ^ m * 2)) / 2 = q / 2 + r * 2 ^ m := by rw [← Nat.mul_assoc]; omega
  have e4 : (q + r * (2 ^ m * 2)) % 2 = q % 2 := by rw [← Nat.mul_assoc]; omega
  rw [e3, e4, Nat.add_mul, Nat.mul_comm (2 ^ n) (q % 2), Nat.mul_assoc (q % 2), Nat.add_assoc]
/-- A rotation as two shifts joined by 'or'. -/
theorem ror_or {x n : Nat} (hn' : n ≤ 32) (hx : x < 4294967296) : (x / 2 ^ n ||| x * 2 ^ (32 - n) % 4294967296) = ror x n := by
  have e : x * 2 ^ (32 - n) % 4294967296 = x % 2 ^ n * 2 ^ (32 - n) := by
    have : (4294967296 : Nat) = 2 ^ n * 2 ^ (32 - n) := by rw [← Nat.pow_add, Nat.add_sub_cancel' hn']
    rw [this, Nat.mul_mod_mul_right]
  have h2 : x / 2 ^ n < 2 ^ (32 - n) := by
    rw [Nat.div_lt_iff_lt_mul (Nat.two_pow_pos n), ← Nat.pow_add, Nat.sub_add_cancel hn']; exact hx
  rw [e, Nat.or_comm, Nat.mul_comm (x % 2 ^ n), ← Nat.two_pow_add_eq_or_of_lt h2]
  unfold ror
  rw [Nat.mul_comm, Nat.add_comm]
/-- A word shifted right by n. -/
def shrN (x n : Nat) : Nat := x / 2 ^ n
theorem shrN_zero (x : Nat) : shrN x 0 = x := by simp [shrN]
theorem shrN_succ (x n : Nat) : shrN x n / 2 = shrN x (n + 1) := by unfold shrN; rw [Nat.div_div_eq_div_mul, ← Nat.pow_succ]
theorem shrN_le (x n : Nat) : shrN x n ≤ x := Nat.div_le_self _ _

/-- Four bytes as a word, the first the highest. -/
def word4 (b0 b1 b2 b3 : Nat) : Nat := b0 * 16777216 + b1 * 65536 + b2 * 256 + b3
def wordAt (b : List Nat) (t : Nat) : Nat := word4 (b.getD (4 * t) 0) (b.getD (4 * t + 1) 0) (b.getD (4 * t + 2) 0) (b.getD (4 * t + 3) 0)
def sig1 (x : Nat) : Nat := ror x 17 ^^^ ror x 19 ^^^ shrN x 10
def sig0 (x : Nat) : Nat := ror x 7 ^^^ ror x 18 ^^^ shrN x 3
/-- The next word of a schedule of t words. -/
def nextW (w : List Nat) (t : Nat) : Nat := (sig1 (w.getD (t - 2) 0) + w.getD (t - 7) 0 + sig0 (w.getD (t - 15) 0) + w.getD (t - 16) 0) % 4294967296
/-- The first t words of the schedule of a block. -/
def wL (b : List Nat) : Nat → List Nat
  | 0 => []
  | t + 1 => wL b t ++ [if t < 16 then wordAt b t else nextW (wL b t) t]
theorem wL_length (b : List Nat) : ∀ t, (wL b t).length = t
  | 0 => rfl
  | t + 1 => by simp [wL, wL_length b t]
theorem ws_lt32 {x : Nat} (hx : x < 4294967296) : ∀ n, shrN x n < 4294967296 := fun n => Nat.lt_of_le_of_lt (shrN_le x n) hx
theorem xor32 {a b : Nat} (ha : a < 4294967296) (hb : b < 4294967296) : a ^^^ b < 4294967296 := Nat.xor_lt_two_pow (n := 32) ha hb
theorem or32 {a b : Nat} (ha : a < 4294967296) (hb : b < 4294967296) : a ||| b < 4294967296 := Nat.or_lt_two_pow (n := 32) ha hb
theorem and32 {a : Nat} (b : Nat) (ha : a < 4294967296) : a &&& b < 4294967296 := Nat.lt_of_le_of_lt Nat.and_le_left ha
theorem sig1_lt {x : Nat} (hx : x < 4294967296) : sig1 x < 4294967296 := xor32 (xor32 (ror_lt hx (by decide)) (ror_lt hx (by decide))) (ws_lt32 hx _)
theorem sig0_lt {x : Nat} (hx : x < 4294967296) : sig0 x < 4294967296 := xor32 (xor32 (ror_lt hx (by decide)) (ror_lt hx (by decide))) (ws_lt32 hx _)
/-- Words below 2^32. -/
def Ws (l : List Nat) : Prop := ∀ x ∈ l, x < 4294967296
theorem Ws.get {l : List Nat} (h : Ws l) (i : Nat) : l.getD i 0 < 4294967296 := by
  rw [List.getD_eq_getElem?_getD]
  rcases Nat.lt_or_ge i l.length with hi | hi
  · rw [List.getElem?_eq_getElem hi]; exact h _ (List.getElem_mem hi)
  · rw [List.getElem?_eq_none hi]; decide
theorem Ws.snoc {l : List Nat} (h : Ws l) {x : Nat} (hx : x < 4294967296) : Ws (l ++ [x]) := fun y hy => by
  rcases List.mem_append.1 hy with h1 | h1
  · exact h y h1
  · rw [List.mem_singleton.1 h1]; exact hx
theorem word4_lt {a b c d : Nat} (ha : a < 256) (hb : b < 256) (hc : c < 256) (hd : d < 256) : word4 a b c d < 4294967296 := by unfold word4; omega
/-- Bytes below 256. -/
def Sm (l : List Nat) : Prop := ∀ x ∈ l, x < 256
theorem Sm.get {l : List Nat} (h : Sm l) (i : Nat) : l.getD i 0 < 256 := by
  rw [List.getD_eq_getElem?_getD]
  rcases Nat.lt_or_ge i l.length with hi | hi
  · rw [List.getElem?_eq_getElem hi]; exact h _ (List.getElem_mem hi)
  · rw [List.getElem?_eq_none hi]; decide
theorem Sm.app {a b : List Nat} (ha : Sm a) (hb : Sm b) : Sm (a ++ b) := fun x hx => (List.mem_append.1 hx).elim (ha x) (hb x)
theorem Sm.take {l : List Nat} (h : Sm l) (k : Nat) : Sm (l.take k) := fun x hx => h x (List.mem_of_mem_take hx)
theorem Sm.drop {l : List Nat} (h : Sm l) (k : Nat) : Sm (l.drop k) := fun x hx => h x (List.mem_of_mem_drop hx)
theorem wordAt_lt {b : List Nat} (h : Sm b) (t : Nat) : wordAt b t < 4294967296 := word4_lt (h.get _) (h.get _) (h.get _) (h.get _)
theorem wL_ws {b : List Nat} (h : Sm b) : ∀ t, Ws (wL b t)
  | 0 => fun _ h => by simp [wL] at h
  | t + 1 => (wL_ws h t).snoc (by split; exact wordAt_lt h t; exact Nat.mod_lt _ (show 0 < 4294967296 by decide))
theorem wL_get (b : List Nat) : ∀ t i, i < t → (wL b t).getD i 0 = (wL b (i + 1)).getD i 0
  | 0, i, h => absurd h (Nat.not_lt_zero i)
  | t + 1, i, h => by
    rcases Nat.lt_or_eq_of_le (Nat.le_of_lt_succ h) with h1 | h1
    · rw [← wL_get b t i h1]
      show (wL b t ++ _).getD i 0 = _
      rw [List.getD_eq_getElem?_getD, List.getElem?_append_left (by rw [wL_length]; exact h1), ← List.getD_eq_getElem?_getD]
    · subst h1; rfl
theorem wL_last (b : List Nat) (t : Nat) : (wL b (t + 1)).getD t 0 = if t < 16 then wordAt b t else nextW (wL b t) t := by
  show (wL b t ++ [_]).getD t 0 = _
  rw [List.getD_eq_getElem?_getD, List.getElem?_append_right (by rw [wL_length]; exact Nat.le_refl t), wL_length, Nat.sub_self]
  rfl

/-- The eight words of a round. -/
structure W8 where
  a : Nat
  b : Nat
  c : Nat
  d : Nat
  e : Nat
  f : Nat
  g : Nat
  h : Nat
def W8.list (v : W8) : List Nat := [v.a, v.b, v.c, v.d, v.e, v.f, v.g, v.h]
def W8.ok (v : W8) : Prop := v.a < 4294967296 ∧ v.b < 4294967296 ∧ v.c < 4294967296 ∧ v.d < 4294967296 ∧ v.e < 4294967296 ∧ v.f < 4294967296 ∧ v.g < 4294967296 ∧ v.h < 4294967296
def bs1 (e : Nat) : Nat := ror e 6 ^^^ ror e 11 ^^^ ror e 25
def bs0 (a : Nat) : Nat := ror a 2 ^^^ ror a 13 ^^^ ror a 22
/-- Not: the bits that a word lacks. -/
def not32 (e : Nat) : Nat := 4294967295 - e
def chN (e f g : Nat) : Nat := (e &&& f) ^^^ (not32 e &&& g)
def majN (a b c : Nat) : Nat := (a &&& b) ^^^ (a &&& c) ^^^ (b &&& c)
theorem not32_lt (e : Nat) : not32 e < 4294967296 := by unfold not32; omega
theorem not32_xor {e : Nat} (h : e < 4294967296) : 4294967295 ^^^ e = not32 e := by
  unfold not32
  apply Nat.eq_of_testBit_eq
  intro i
  have f : (4294967295 : Nat) = 2 ^ 32 - 1 := by decide
  have g : 4294967295 - e = 2 ^ 32 - (e + 1) := by omega
  rw [Nat.testBit_xor, g, Nat.testBit_two_pow_sub_succ h, f, Nat.testBit_two_pow_sub_one]
  by_cases hi : i < 32
  · simp [hi]
  · have : e.testBit i = false := Nat.testBit_lt_two_pow (Nat.lt_of_lt_of_le h (show 2 ^ 32 ≤ 2 ^ i from Nat.pow_le_pow_right (by decide) (Nat.le_of_not_lt hi)))
    simp [hi, this]
theorem bs1_lt {x : Nat} (hx : x < 4294967296) : bs1 x < 4294967296 := xor32 (xor32 (ror_lt hx (by decide)) (ror_lt hx (by decide))) (ror_lt hx (by decide))
theorem bs0_lt {x : Nat} (hx : x < 4294967296) : bs0 x < 4294967296 := xor32 (xor32 (ror_lt hx (by decide)) (ror_lt hx (by decide))) (ror_lt hx (by decide))
theorem chN_lt {e f g : Nat} (he : e < 4294967296) : chN e f g < 4294967296 := xor32 (and32 _ he) (and32 _ (not32_lt e))
theorem majN_lt {a b c : Nat} (ha : a < 4294967296) (hb : b < 4294967296) : majN a b c < 4294967296 := xor32 (xor32 (and32 _ ha) (and32 _ ha)) (and32 _ hb)
def t1N (v : W8) (k w : Nat) : Nat := (v.h + bs1 v.e + chN v.e v.f v.g + k + w) % 4294967296
def t2N (v : W8) : Nat := (bs0 v.a + majN v.a v.b v.c) % 4294967296
def stepV (v : W8) (k w : Nat) : W8 := ⟨(t1N v k w + t2N v) % 4294967296, v.a, v.b, v.c, (v.d + t1N v k w) % 4294967296, v.e, v.f, v.g⟩
/-- The words after t rounds. -/
def vN (s : W8) (k w : List Nat) : Nat → W8
  | 0 => s
  | t + 1 => stepV (vN s k w t) (k.getD t 0) (w.getD t 0)
theorem stepV_ok {v : W8} (h : v.ok) (k w : Nat) : (stepV v k w).ok := by
  obtain ⟨h1, h2, h3, h4, h5, h6, h7, h8⟩ := h
  exact ⟨Nat.mod_lt _ (show 0 < 4294967296 by decide), h1, h2, h3, Nat.mod_lt _ (show 0 < 4294967296 by decide), h5, h6, h7⟩
theorem vN_ok {s : W8} (h : s.ok) (k w : List Nat) : ∀ t, (vN s k w t).ok
  | 0 => h
  | t + 1 => stepV_ok (vN_ok h k w t) _ _
def addV (v s : W8) : W8 := ⟨(v.a + s.a) % 4294967296, (v.b + s.b) % 4294967296, (v.c + s.c) % 4294967296, (v.d + s.d) % 4294967296, (v.e + s.e) % 4294967296, (v.f + s.f) % 4294967296, (v.g + s.g) % 4294967296, (v.h + s.h) % 4294967296⟩
/-- The state after a block. -/
def blkV (s : W8) (k b : List Nat) : W8 := addV (vN s k (wL b 64) 64) s
theorem addV_ok (v s : W8) : (addV v s).ok := by
  have h : ∀ n, n % 4294967296 < 4294967296 := fun n => Nat.mod_lt n (by decide)
  exact ⟨h _, h _, h _, h _, h _, h _, h _, h _⟩
/-- The state after n blocks of bytes. -/
def foldB (k : List Nat) (s : W8) (b : List Nat) : Nat → W8
  | 0 => s
  | n + 1 => blkV (foldB k s b n) k ((b.drop (64 * n)).take 64)
theorem foldB_ok {k : List Nat} {s : W8} (h : s.ok) (b : List Nat) : ∀ n, (foldB k s b n).ok
  | 0 => h
  | _ + 1 => addV_ok _ _
/-- More bytes behind whole blocks change nothing. -/
theorem foldB_app (k : List Nat) (s : W8) (a b : List Nat) : ∀ n, 64 * n ≤ a.length → foldB k s (a ++ b) n = foldB k s a n
  | 0, _ => rfl
  | n + 1, h => by
    have h1 : 64 * n ≤ a.length := by omega
    show blkV _ _ _ = blkV _ _ _
    rw [foldB_app k s a b n h1, List.drop_append_of_le_length h1, List.take_append_of_le_length (by rw [List.length_drop]; omega)]
/-- Blocks of bytes, one part behind the other. -/
theorem foldB_add (k : List Nat) (s : W8) (a b : List Nat) (m : Nat) (hm : a.length = 64 * m) : ∀ n, foldB k s (a ++ b) (m + n) = foldB k (foldB k s a m) b n
  | 0 => foldB_app k s a b m (by omega)
  | n + 1 => by
    show blkV (foldB k s (a ++ b) (m + n)) k _ = blkV _ k _
    rw [show m + n = m.add n from rfl, show 64 * m.add n = a.length + 64 * n by rw [hm, ← Nat.mul_add]; rfl, List.drop_append]
    have e : foldB k s (a ++ b) (m.add n) = _ := foldB_add k s a b m hm n
    rw [e, List.drop_eq_nil_of_le (by omega), List.nil_append, Nat.add_sub_cancel_left]
/-- The number of zeros behind the byte 128. -/
def zerN (n : Nat) : Nat := (119 - n % 64) % 64
theorem zerN_mod (n : Nat) : (n + 1 + zerN n) % 64 = 56 := by unfold zerN; omega
theorem zerN_lt (n : Nat) : zerN n < 64 := Nat.mod_lt _ (by decide)
theorem zerN_first (n i : Nat) (h : i < zerN n) : (n + 1 + i) % 64 ≠ 56 := by unfold zerN at h; omega
/-- The eight bytes of a number, the highest first. -/
def be8 (n : Nat) : List Nat := [n / 72057594037927936 % 256, n / 281474976710656 % 256, n / 1099511627776 % 256, n / 4294967296 % 256, n / 16777216 % 256, n / 65536 % 256, n / 256 % 256, n % 256]
/-- Bytes with what is behind them. -/
def padB (b : List Nat) : List Nat := b ++ [128] ++ List.replicate (zerN b.length) 0 ++ be8 (b.length * 8)
theorem padB_length (b : List Nat) : (padB b).length = b.length + 9 + zerN b.length := by simp [padB, be8]; omega
theorem padB_mod (b : List Nat) : (padB b).length % 64 = 0 := by rw [padB_length]; have := zerN_mod b.length; omega
theorem be8_sm (n : Nat) : Sm (be8 n) := by
  intro x hx
  simp [be8] at hx
  omega
theorem padB_sm {b : List Nat} (h : Sm b) : Sm (padB b) := by
  refine Sm.app (Sm.app (Sm.app h ?_) ?_) (be8_sm _)
  · intro x hx; rw [List.mem_singleton.1 hx]; decide
  · intro x hx; rw [(List.mem_replicate.1 hx).2]; decide
/-- The four bytes of a word, the highest first. -/
def by4 (w : Nat) : List Nat := [w / 16777216 % 256, w / 65536 % 256, w / 256 % 256, w % 256]
def outB (s : W8) : List Nat := by4 s.a ++ by4 s.b ++ by4 s.c ++ by4 s.d ++ by4 s.e ++ by4 s.f ++ by4 s.g ++ by4 s.h
theorem outB_length (s : W8) : (outB s).length = 32 := rfl
/-- The byte with the index j of the word i. -/
theorem outB_get (s : W8) (i : Nat) (h : i < 32) : (outB s)[i]? = some (s.list.getD (i / 4) 0 / 256 ^ (3 - i % 4) % 256) := by
  have : ∀ i : Fin 32, (outB s)[i.1]? = some (s.list.getD (i.1 / 4) 0 / 256 ^ (3 - i.1 % 4) % 256) := by
    intro i
    rcases s with ⟨a, b, c, d, e, f, g, h⟩
    match i with
    | ⟨0, _⟩ | ⟨1, _⟩ | ⟨2, _⟩ | ⟨3, _⟩ | ⟨4, _⟩ | ⟨5, _⟩ | ⟨6, _⟩ | ⟨7, _⟩ | ⟨8, _⟩ | ⟨9, _⟩ | ⟨10, _⟩ | ⟨11, _⟩ | ⟨12, _⟩ | ⟨13, _⟩ | ⟨14, _⟩ | ⟨15, _⟩ | ⟨16, _⟩ | ⟨17, _⟩ | ⟨18, _⟩ | ⟨19, _⟩ | ⟨20, _⟩ | ⟨21, _⟩ | ⟨22, _⟩ | ⟨23, _⟩ | ⟨24, _⟩ | ⟨25, _⟩ | ⟨26, _⟩ | ⟨27, _⟩ | ⟨28, _⟩ | ⟨29, _⟩ | ⟨30, _⟩ | ⟨31, _⟩ => simp [outB, by4, W8.list]
    | ⟨k + 32, hk⟩ => omega
  exact this ⟨i, h⟩
theorem outB_sm (s : W8) : Sm (outB s) := by
  intro x hx
  obtain ⟨i, hi, rfl⟩ := List.mem_iff_getElem.1 hx
  have := outB_get s i (by rw [outB_length] at hi; exact hi)
  rw [List.getElem?_eq_getElem hi] at this
  rw [Option.some.inj this]
  exact Nat.mod_lt _ (by decide)

/-- Whether a number has no divisor from d on whose square is at most the number. -/
def isPf (n : Nat) : Nat → Nat → Bool
  | 0, _ => true
  | f + 1, d => if n < d * d then true else if n % d = 0 then false else isPf n f (d + 1)
def isPr (n : Nat) : Bool := decide (2 ≤ n) && isPf n n 2
/-- Whether a number's cube, or square, is above n times 2^96, or 2^64. -/
def above (cube : Bool) (x n : Nat) : Bool := if cube then decide (n * 79228162514264337593543950336 < x * x * x) else decide (n * 18446744073709551616 < x * x)
/-- The root's bits from 2^k on, behind x. -/
def rootF (cube : Bool) (n : Nat) : Nat → Nat → Nat
  | 0, x => x
  | k + 1, x => rootF cube n k (if above cube (x + 2 ^ k) n then x else x + 2 ^ k)
def rootN (n : Nat) (cube : Bool) : Nat := rootF cube n 37 0 % 4294967296
/-- The roots of the primes from k on, f numbers. -/
def consF (cube : Bool) : Nat → Nat → List Nat
  | 0, _ => []
  | f + 1, k => if isPr k then rootN k cube :: consF cube f (k + 1) else consF cube f (k + 1)
/-- The constants of the rounds. -/
def kL : List Nat := [1116352408, 1899447441, 3049323471, 3921009573, 961987163, 1508970993, 2453635748, 2870763221, 3624381080, 310598401, 607225278, 1426881987, 1925078388, 2162078206, 2614888103, 3248222580, 3835390401, 4022224774, 264347078, 604807628, 770255983, 1249150122, 1555081692, 1996064986, 2554220882, 2821834349, 2952996808, 3210313671, 3336571891, 3584528711, 113926993, 338241895, 666307205, 773529912, 1294757372, 1396182291, 1695183700, 1986661051, 2177026350, 2456956037, 2730485921, 2820302411, 3259730800, 3345764771, 3516065817, 3600352804, 4094571909, 275423344, 430227734, 506948616, 659060556, 883997877, 958139571, 1322822218, 1537002063, 1747873779, 1955562222, 2024104815, 2227730452, 2361852424, 2428436474, 2756734187, 3204031479, 3329325298]
/-- The first state. -/
def hV : W8 := ⟨1779033703, 3144134277, 1013904242, 2773480762, 1359893119, 2600822924, 528734635, 1541459225⟩
theorem kL_roots : consF true 310 2 = kL := by decide +kernel
theorem hV_roots : consF false 18 2 = hV.list := by decide +kernel
/-- The sum of bytes. -/
def shaN (b : List Nat) : List Nat := outB (foldB kL hV (padB b) ((padB b).length / 64))
theorem hV_ok : hV.ok := by unfold W8.ok hV; decide +kernel
end Go.Proofs.YthjfhgnmaepafaaDoor
