/-
  Numbers as bytes: the byte with the index i has the weight 256^i. Plain arithmetic; no condition but that bytes are below 256.
-/
import Derived.Test.YtpiialjnjfkfeaaDoorLimbPlain
namespace Go.Proofs.YtpiialjnjfkfeaaDoor

/-- The number that bytes represent. -/
def numB : List Nat → Nat
  | [] => 0
  | b :: r => b + 256 * numB r
/-- The byte with the index i of a number. -/
def by8 (n i : Nat) : Nat := dg 256 n i
/-- The first k bytes of a number. -/
def bytesN (n k : Nat) : List Nat := (List.range k).map (by8 n)
def Small (bs : List Nat) : Prop := ∀ b ∈ bs, b < 256
theorem by8_lt (n i : Nat) : by8 n i < 256 := dg_lt (by decide) n i
theorem bytesN_length (n k : Nat) : (bytesN n k).length = k := by simp [bytesN]
theorem bytesN_small (n k : Nat) : Small (bytesN n k) := fun b h => by
  obtain ⟨i, _, rfl⟩ := List.mem_map.1 h
  exact by8_lt n i
theorem bytesN_get (n k i : Nat) (hi : i < k) : (bytesN n k)[i]? = some (by8 n i) := by simp [bytesN, hi]
theorem bytesN_succ (n k : Nat) : bytesN n (k + 1) = bytesN n k ++ [by8 n k] := by simp [bytesN, List.range_succ]
theorem bytesN_zero (n : Nat) : bytesN n 0 = [] := rfl
theorem bytesN_take (n k m : Nat) (h : m ≤ k) : (bytesN n k).take m = bytesN n m := by
  unfold bytesN
  rw [← List.map_take, List.take_range, Nat.min_eq_left h]
theorem Small.tail {b : Nat} {bs : List Nat} (h : Small (b :: bs)) : Small bs := fun x hx => h x (List.mem_cons_of_mem _ hx)
theorem Small.head {b : Nat} {bs : List Nat} (h : Small (b :: bs)) : b < 256 := h b List.mem_cons_self
theorem Small.take {bs : List Nat} (h : Small bs) (k : Nat) : Small (bs.take k) := fun x hx => h x (List.mem_of_mem_take hx)
theorem Small.drop {bs : List Nat} (h : Small bs) (k : Nat) : Small (bs.drop k) := fun x hx => h x (List.mem_of_mem_drop hx)
theorem numB_lt : ∀ {bs : List Nat}, Small bs → numB bs < 256 ^ bs.length
  | [], _ => by simp [numB]
  | b :: r, h => by
    have h1 := numB_lt h.tail
    have h2 := h.head
    rw [List.length_cons, Nat.pow_succ]
    unfold numB
    omega
theorem numB_append : ∀ a b : List Nat, numB (a ++ b) = numB a + 256 ^ a.length * numB b
  | [], b => by simp [numB]
  | x :: a, b => by
    rw [List.cons_append, numB, numB, numB_append a b, List.length_cons, Nat.pow_succ, Nat.mul_add, Nat.mul_comm (256 ^ a.length) 256, Nat.mul_assoc]
    omega
theorem numB_zeros (k : Nat) : numB (List.replicate k 0) = 0 := by
  induction k with
  | zero => rfl
  | succ k ih => rw [List.replicate_succ, numB, ih]
theorem numB_split (bs : List Nat) (k : Nat) (hk : k ≤ bs.length) : numB bs = numB (bs.take k) + 256 ^ k * numB (bs.drop k) := by
  have h := numB_append (bs.take k) (bs.drop k)
  rw [List.take_append_drop, List.length_take, Nat.min_eq_left hk] at h
  exact h
theorem dg_numB_zero {b : Nat} {r : List Nat} (hb : b < 256) : by8 (numB (b :: r)) 0 = b := by
  unfold by8 dg numB
  rw [Nat.pow_zero, Nat.div_one, Nat.add_mul_mod_self_left, Nat.mod_eq_of_lt hb]
theorem dg_numB_succ {b : Nat} {r : List Nat} (hb : b < 256) (i : Nat) : by8 (numB (b :: r)) (i + 1) = by8 (numB r) i := by
  show (b + 256 * numB r) / 256 ^ (i + 1) % 256 = numB r / 256 ^ i % 256
  rw [Nat.pow_succ, Nat.mul_comm (256 ^ i) 256, ← Nat.div_div_eq_div_mul, Nat.add_mul_div_left _ _ (by decide : 0 < 256), Nat.div_eq_of_lt hb, Nat.zero_add]
/-- The bytes of the number that bytes represent. -/
theorem by8_numB : ∀ {bs : List Nat}, Small bs → ∀ {i b : Nat}, bs[i]? = some b → by8 (numB bs) i = b
  | [], _, i, b, h => by simp at h
  | x :: r, hs, 0, b, h => by simp at h; subst h; exact dg_numB_zero hs.head
  | x :: r, hs, i + 1, b, h => by rw [dg_numB_succ hs.head]; exact by8_numB hs.tail (by simpa using h)
theorem by8_over {bs : List Nat} (hs : Small bs) {i : Nat} (hi : bs.length ≤ i) : by8 (numB bs) i = 0 :=
  dg_zero_of_lt (Nat.lt_of_lt_of_le (numB_lt hs) (Nat.pow_le_pow_right (by decide) hi))
theorem bytesN_numB {bs : List Nat} (hs : Small bs) : bytesN (numB bs) bs.length = bs := by
  apply List.ext_getElem?
  intro i
  rcases Nat.lt_or_ge i bs.length with h | h
  · rw [bytesN_get _ _ _ h, List.getElem?_eq_getElem h, by8_numB hs (List.getElem?_eq_getElem h)]
  · rw [List.getElem?_eq_none (by rw [bytesN_length]; exact h), List.getElem?_eq_none h]
theorem numB_bytesN (n k : Nat) : numB (bytesN n k) = n % 256 ^ k := by
  induction k with
  | zero => simp [bytesN_zero, numB, Nat.mod_one]
  | succ k ih =>
    rw [bytesN_succ, numB_append, ih, bytesN_length, mod_succ]
    simp [numB, by8]
theorem r256_bytes : R256 = 256 ^ 32 := by decide +kernel
theorem numB_bytesN32 {n : Nat} (h : n < R256) : numB (bytesN n 32) = n := by rw [numB_bytesN, ← r256_bytes, Nat.mod_eq_of_lt h]
/-- Eight bytes of a number are those of a word. -/
theorem by8_wd (n i k : Nat) (hk : k < 8) : by8 (wd n i) k = by8 n (8 * i + k) := by
  unfold by8 wd dg
  have e : W64 = 256 ^ (k + 1) * 256 ^ (7 - k) := by rw [← Nat.pow_add, show k + 1 + (7 - k) = 8 by omega]; decide
  have e8 : W64 = 256 ^ 8 := by decide
  rw [Nat.pow_add, Nat.pow_mul, ← e8, ← Nat.div_div_eq_div_mul]
  generalize n / W64 ^ i = x
  rw [e, Nat.pow_succ, Nat.mul_assoc, Nat.mod_mul_right_div_self, Nat.mod_mul_right_mod]
/-- A word by its bytes. -/
theorem wd_bytes (n i : Nat) : wd n i = numB ((List.range 8).map fun k => by8 n (8 * i + k)) := by
  have h := numB_bytesN (wd n i) 8
  rw [Nat.mod_eq_of_lt (show wd n i < 256 ^ 8 from wd_lt n i)] at h
  rw [← h]
  congr 1
  apply List.map_congr_left
  intro k hk
  exact by8_wd n i k (List.mem_range.1 hk)
/-- One byte more. -/
theorem numB_take (l : List Nat) (k c : Nat) (h : l[k]? = some c) : numB (l.take (k + 1)) = numB (l.take k) + 256 ^ k * c := by
  have hk := (List.getElem?_eq_some_iff.1 h).1
  have hc := (List.getElem?_eq_some_iff.1 h).2
  rw [List.take_succ_eq_append_getElem hk, numB_append, List.length_take, Nat.min_eq_left (by omega), hc]
  simp [numB]
/-- Eight bytes are a word. -/
theorem wd_numB {all : List Nat} (hs : Small all) (i : Nat) (hl : 8 * i ≤ all.length) : numB ((all.drop (8 * i)).take 8) = wd (numB all) i := by
  have e : W64 ^ i = 256 ^ (8 * i) := by rw [Nat.pow_mul, show W64 = 256 ^ 8 by decide]
  have h1 := numB_split all (8 * i) hl
  have h2 := numB_lt (hs.take (8 * i))
  rw [List.length_take, Nat.min_eq_left hl] at h2
  unfold wd dg
  rw [e, h1, Nat.add_mul_div_left _ _ (Nat.pow_pos (by decide)), Nat.div_eq_of_lt h2, Nat.zero_add]
  generalize hd : all.drop (8 * i) = d
  have hsd : Small d := by rw [← hd]; exact hs.drop _
  rcases Nat.lt_or_ge d.length 8 with h | h
  · rw [List.take_of_length_le (by omega), Nat.mod_eq_of_lt]
    exact Nat.lt_of_lt_of_le (numB_lt hsd) (Nat.pow_le_pow_right (n := 256) (by decide) (by omega : d.length ≤ 8))
  · have h3 := numB_split d 8 h
    have h4 := numB_lt (hsd.take 8)
    rw [List.length_take, Nat.min_eq_left h] at h4
    rw [h3, show W64 = 256 ^ 8 by decide, Nat.add_mul_mod_self_left, Nat.mod_eq_of_lt h4]
/-- A byte is put above others. -/
theorem or_byte {u c k : Nat} (hu : u < 256 ^ k) (hc : c < 256) (hk : k < 8) : bits .or .u64 (u : Int) (IntKind.u64.wrap (IntKind.u64.wrap (c : Int) * 2 ^ (8 * k))) = ((u + 256 ^ k * c : Nat) : Int) := by
  have e : (2 : Nat) ^ (8 * k) = 256 ^ k := by rw [Nat.pow_mul]
  have hp : (256 : Nat) ^ (k + 1) ≤ 256 ^ 8 := Nat.pow_le_pow_right (by decide) hk
  have hb : 256 ^ k * c < 256 ^ (k + 1) := by rw [Nat.pow_succ]; exact Nat.mul_lt_mul_of_pos_left hc (Nat.pow_pos (by decide))
  have h8 : (256 : Nat) ^ 8 = 18446744073709551616 := by decide
  have hu2 : u < 18446744073709551616 := by rw [← h8]; exact Nat.lt_trans hu (Nat.pow_lt_pow_right (by decide) hk)
  have w1 : IntKind.u64.wrap (c : Int) = (c : Int) := by rw [IntKind.wrap_u64]; omega
  have w2 : (c : Int) * 2 ^ (8 * k) = ((256 ^ k * c : Nat) : Int) := by rw [← e]; push_cast; rw [Int.mul_comm]
  have w3 : IntKind.u64.wrap ((256 ^ k * c : Nat) : Int) = ((256 ^ k * c : Nat) : Int) := by
    rw [IntKind.wrap_u64]
    exact Int.emod_eq_of_lt (by omega) (by omega)
  rw [w1, w2, w3, u64_or _ _ (by omega) (by omega) (by omega) (by omega)]
  rw [Int.toNat_natCast, Int.toNat_natCast, Nat.or_comm, ← e, ← Nat.two_pow_add_eq_or_of_lt (by rw [e]; exact hu), e, Nat.add_comm]
/-- The 'or' of bytes. -/
def orB (l : List Nat) : Nat := l.foldl (fun x y => x ||| y) 0
theorem orB_lt {l : List Nat} (h : Small l) : orB l < 256 := by
  have H : ∀ (l : List Nat) (x : Nat), x < 256 → Small l → l.foldl (fun x y => x ||| y) x < 256 := by
    intro l
    induction l with
    | nil => intro x hx _; exact hx
    | cons y l ih => intro x hx hl; exact ih _ (Nat.or_lt_two_pow (n := 8) hx hl.head) hl.tail
  exact H l 0 (by decide) h
theorem orB_snoc (l : List Nat) (x : Nat) : orB (l ++ [x]) = orB l ||| x := by simp [orB]
theorem orB_zero (l : List Nat) : orB l = 0 ↔ ∀ x ∈ l, x = 0 := by
  have H : ∀ (l : List Nat) (x : Nat), (l.foldl (fun x y => x ||| y) x = 0) ↔ (x = 0 ∧ ∀ n ∈ l, n = 0) := by
    intro l
    induction l with
    | nil => intro x; simp
    | cons y l ih => intro x; rw [List.foldl_cons, ih, Nat.or_eq_zero_iff]; simp [and_assoc]
  unfold orB
  rw [H l 0]
  simp
/-- The words of the first k bytes of n. -/
def lowB (n k i : Nat) : Nat := wd (n % 256 ^ k) i
theorem lowB_zero (n i : Nat) : lowB n 0 i = 0 := by unfold lowB wd dg; simp [Nat.mod_one]
theorem lowB_lt (n k i : Nat) : lowB n k i < 18446744073709551616 := wd_lt _ _
theorem w64_bytes (i : Nat) : W64 ^ i = 256 ^ (8 * i) := by rw [Nat.pow_mul, show W64 = 256 ^ 8 by decide]
theorem lowB_succ (n k i : Nat) : lowB n (k + 1) i = lowB n k i + (if i = k / 8 then by8 n k * 256 ^ (k % 8) else 0) := by
  have hm := mod_succ 256 n k
  have hd := by8_lt n k
  have hl := Nat.mod_lt n (Nat.pow_pos (n := k) (show 0 < 256 by decide))
  unfold lowB
  rw [hm, show dg 256 n k = by8 n k from rfl]
  generalize n % 256 ^ k = x at *
  generalize by8 n k = d at *
  clear hm
  by_cases h1 : i = k / 8
  · rw [if_pos h1]
    obtain ⟨r, hr⟩ : ∃ r, r = k % 8 := ⟨_, rfl⟩
    have hk : k = 8 * i + r := by omega
    rw [← hr]
    have hrl : r < 8 := by omega
    clear h1 hr
    subst hk
    unfold wd dg
    rw [w64_bytes]
    rw [Nat.pow_add] at hl ⊢
    have hq : x / 256 ^ (8 * i) < 256 ^ r := Nat.div_lt_of_lt_mul hl
    rw [Nat.mul_assoc, Nat.add_mul_div_left _ _ (Nat.pow_pos (by decide))]
    generalize x / 256 ^ (8 * i) = q at *
    have h2 : (256 : Nat) ^ (r + 1) ≤ 256 ^ 8 := Nat.pow_le_pow_right (by decide) hrl
    have h3 : q + 256 ^ r * d < 256 ^ (r + 1) := by
      rw [Nat.pow_succ]
      have h4 : 256 ^ r * d + 256 ^ r ≤ 256 ^ r * 256 := by rw [← Nat.mul_succ]; exact Nat.mul_le_mul_left _ hd
      omega
    have h5 : (256 : Nat) ^ r ≤ 256 ^ 8 := Nat.pow_le_pow_right (by decide) (by omega)
    have h8 : W64 = 256 ^ 8 := by decide
    rw [h8, Nat.mod_eq_of_lt (Nat.lt_of_lt_of_le h3 h2), Nat.mod_eq_of_lt (Nat.lt_of_lt_of_le hq h5), Nat.mul_comm d]
  · rw [if_neg h1, Nat.add_zero]
    rcases Nat.lt_or_ge i (k / 8) with h2 | h2
    · have e : 256 ^ k * d = (256 ^ (k - 8 * (i + 1)) * d) * W64 ^ (i + 1) := by
        rw [w64_bytes, Nat.mul_comm _ (256 ^ (8 * (i + 1))), ← Nat.mul_assoc, ← Nat.pow_add, show 8 * (i + 1) + (k - 8 * (i + 1)) = k by omega]
      rw [e]
      exact dg_add_low w64_pos _ _ _ _ (by omega)
    · have h3 : (256 : Nat) ^ (k + 1) ≤ W64 ^ i := by rw [w64_bytes]; exact Nat.pow_le_pow_right (by decide) (by omega)
      have h4 : x + 256 ^ k * d < 256 ^ (k + 1) := by
        rw [Nat.pow_succ]
        have h4 : 256 ^ k * d + 256 ^ k ≤ 256 ^ k * 256 := by rw [← Nat.mul_succ]; exact Nat.mul_le_mul_left _ hd
        omega
      unfold wd
      rw [dg_zero_of_lt (Nat.lt_of_lt_of_le h4 h3), dg_zero_of_lt (by omega)]
theorem lowB_sum (n k : Nat) : lowB n k (k / 8) + by8 n k * 256 ^ (k % 8) < 18446744073709551616 := by
  have h := lowB_succ n k (k / 8)
  rw [if_pos rfl] at h
  rw [← h]; exact lowB_lt _ _ _
end Go.Proofs.YtpiialjnjfkfeaaDoor
