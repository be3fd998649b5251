/-
  Numbers as bytes: the byte with the index i has the weight 256^i. Plain arithmetic; no condition but that bytes are below 256.
  Bytes in memory: whole blocks of bytes, and slices of bytes. Plain facts on worlds; no condition.
  Contracts of package bytecode over this seat's translation, words: bytesOf and the closure of numberOf. Conditions: as each says.
-/
import Derived.Test.YtclehgconbdkpaaDoorPlainAll
import Derived.Test.YtclehgconbdkpaaDoorNums
import Derived.Laws.IdiomCopy
import Derived.Laws.MakeOwn
import Derived.Deep.OwnRows
import Derived.Shelf.Bytes.SlEqualAll
import Derived.Shelf.Bytes.SlSmallAll
namespace Go.Proofs.YtclehgconbdkpaaDoor
section

/-- The number that bytes represent. -/
def numB : List Nat → Nat
  | [] => 0
  | b :: r => b + 256 * numB r
/-- The byte with the index i of a number. -/
def by8 (n i : Nat) : Nat := dg 256 n i
/-- The first k bytes of a number. -/
def bytesN (n k : Nat) : List Nat := (List.range k).map (by8 n)
def Small (bs : List Nat) : Prop := ∀ b ∈ bs, b < 256
theorem by8_lt (n i : Nat) : by8 n i < 256 := dg_lt (by decide) n i
theorem bytesN_length (n k : Nat) : (bytesN n k).length = k := by simp [bytesN]
theorem bytesN_small (n k : Nat) : Small (bytesN n k) := fun b h => by
  obtain ⟨i, _, rfl⟩ := List.mem_map.1 h
  exact by8_lt n i
theorem bytesN_get (n k i : Nat) (hi : i < k) : (bytesN n k)[i]? = some (by8 n i) := by simp [bytesN, hi]
theorem bytesN_succ (n k : Nat) : bytesN n (k + 1) = bytesN n k ++ [by8 n k] := by simp [bytesN, List.range_succ]
theorem bytesN_zero (n : Nat) : bytesN n 0 = [] := rfl
theorem bytesN_take (n k m : Nat) (h : m ≤ k) : (bytesN n k).take m = bytesN n m := by
  unfold bytesN
  rw [← List.map_take, List.take_range, Nat.min_eq_left h]
theorem Small.tail {b : Nat} {bs : List Nat} (h : Small (b :: bs)) : Small bs := fun x hx => h x (List.mem_cons_of_mem _ hx)
theorem Small.head {b : Nat} {bs : List Nat} (h : Small (b :: bs)) : b < 256 := h b List.mem_cons_self
theorem Small.take {bs : List Nat} (h : Small bs) (k : Nat) : Small (bs.take k) := fun x hx => h x (List.mem_of_mem_take hx)
theorem Small.drop {bs : List Nat} (h : Small bs) (k : Nat) : Small (bs.drop k) := fun x hx => h x (List.mem_of_mem_drop hx)
theorem numB_lt : ∀ {bs : List Nat}, Small bs → numB bs < 256 ^ bs.length
  | [], _ => by simp [numB]
  | b :: r, h => by
    have h1 := numB_lt h.tail
    have h2 := h.head
    rw [List.length_cons, Nat.pow_succ]
    unfold numB
    omega
theorem numB_append : ∀ a b : List Nat, numB (a ++ b) = numB a + 256 ^ a.length * numB b
  | [], b => by simp [numB]
  | x :: a, b => by
    rw [List.cons_append, numB, numB, numB_append a b, List.length_cons, Nat.pow_succ, Nat.mul_add, Nat.mul_comm (256 ^ a.length) 256, Nat.mul_assoc]
    omega
theorem numB_zeros (k : Nat) : numB (List.replicate k 0) = 0 := by
  induction k with
  | zero => rfl
  | succ k ih => rw [List.replicate_succ, numB, ih]
theorem numB_split (bs : List Nat) (k : Nat) (hk : k ≤ bs.length) : numB bs = numB (bs.take k) + 256 ^ k * numB (bs.drop k) := by
  have h := numB_append (bs.take k) (bs.drop k)
  rw [List.take_append_drop, List.length_take, Nat.min_eq_left hk] at h
  exact h
theorem dg_numB_zero {b : Nat} {r : List Nat} (hb : b < 256) : by8 (numB (b :: r)) 0 = b := by
  unfold by8 dg numB
  rw [Nat.pow_zero, Nat.div_one, Nat.add_mul_mod_self_left, Nat.mod_eq_of_lt hb]
theorem dg_numB_succ {b : Nat} {r : List Nat} (hb : b < 256) (i : Nat) : by8 (numB (b :: r)) (i + 1) = by8 (numB r) i := by
  show (b + 256 * numB r) / 256 ^ (i + 1) % 256 = numB r / 256 ^ i % 256
  rw [Nat.pow_succ, Nat.mul_comm (256 ^ i) 256, ← Nat.div_div_eq_div_mul, Nat.add_mul_div_left _ _ (by decide : 0 < 256), Nat.div_eq_of_lt hb, Nat.zero_add]
/-- The bytes of the number that bytes represent. -/
theorem by8_numB : ∀ {bs : List Nat}, Small bs → ∀ {i b : Nat}, bs[i]? = some b → by8 (numB bs) i = b
  | [], _, i, b, h => by simp at h
  | x :: r, hs, 0, b, h => by simp at h; subst h; exact dg_numB_zero hs.head
  | x :: r, hs, i + 1, b, h => by rw [dg_numB_succ hs.head]; exact by8_numB hs.tail (by simpa using h)
theorem by8_over {bs : List Nat} (hs : Small bs) {i : Nat} (hi : bs.length ≤ i) : by8 (numB bs) i = 0 :=
  dg_zero_of_lt (Nat.lt_of_lt_of_le (numB_lt hs) (Nat.pow_le_pow_right (by decide) hi))
theorem bytesN_numB {bs : List Nat} (hs : Small bs) : bytesN (numB bs) bs.length = bs := by
  apply List.ext_getElem?
  intro i
  rcases Nat.lt_or_ge i bs.length with h | h
  · rw [bytesN_get _ _ _ h, List.getElem?_eq_getElem h, by8_numB hs (List.getElem?_eq_getElem h)]
  · rw [List.getElem?_eq_none (by rw [bytesN_length]; exact h), List.getElem?_eq_none h]
theorem numB_bytesN (n k : Nat) : numB (bytesN n k) = n % 256 ^ k := by
  induction k with
  | zero => simp [bytesN_zero, numB, Nat.mod_one]
  | succ k ih =>
    rw [bytesN_succ, numB_append, ih, bytesN_length, mod_succ]
    simp [numB, by8]
theorem r256_bytes : R256 = 256 ^ 32 := by decide +kernel
theorem numB_bytesN32 {n : Nat} (h : n < R256) : numB (bytesN n 32) = n := by rw [numB_bytesN, ← r256_bytes, Nat.mod_eq_of_lt h]
/-- Eight bytes of a number are those of a word. -/
theorem by8_wd (n i k : Nat) (hk : k < 8) : by8 (wd n i) k = by8 n (8 * i + k) := by
  unfold by8 wd dg
  have e : W64 = 256 ^ (k + 1) * 256 ^ (7 - k) := by rw [← Nat.pow_add, show k + 1 + (7 - k) = 8 by omega]; decide
  have e8 : W64 = 256 ^ 8 := by decide
  rw [Nat.pow_add, Nat.pow_mul, ← e8, ← Nat.div_div_eq_div_mul]
  generalize n / W64 ^ i = x
  rw [e, Nat.pow_succ, Nat.mul_assoc, Nat.mod_mul_right_div_self, Nat.mod_mul_right_mod]
/-- A word by its bytes. -/
theorem wd_bytes (n i : Nat) : wd n i = numB ((List.range 8).map fun k => by8 n (8 * i + k)) := by
  have h := numB_bytesN (wd n i) 8
  rw [Nat.mod_eq_of_lt (show wd n i < 256 ^ 8 from wd_lt n i)] at h
  rw [← h]
  congr 1
  apply List.map_congr_left
  intro k hk
  exact by8_wd n i k (List.mem_range.1 hk)
/-- One byte more. -/
theorem numB_take (l : List Nat) (k c : Nat) (h : l[k]? = some c) : numB (l.take (k + 1)) = numB (l.take k) + 256 ^ k * c := by
  have hk := (List.getElem?_eq_some_iff.1 h).1
  have hc := (List.getElem?_eq_some_iff.1 h).2
  rw [List.take_succ_eq_append_getElem hk, numB_append, List.length_take, Nat.min_eq_left (by omega), hc]
  simp [numB]
/-- Eight bytes are a word. -/
theorem wd_numB {all : List Nat} (hs : Small all) (i : Nat) (hl : 8 * i ≤ all.length) : numB ((all.drop (8 * i)).take 8) = wd (numB all) i := by
  have e : W64 ^ i = 256 ^ (8 * i) := by rw [Nat.pow_mul, show W64 = 256 ^ 8 by decide]
  have h1 := numB_split all (8 * i) hl
  have h2 := numB_lt (hs.take (8 * i))
  rw [List.length_take, Nat.min_eq_left hl] at h2
  unfold wd dg
  rw [e, h1, Nat.add_mul_div_left _ _ (Nat.pow_pos (by decide)), Nat.div_eq_of_lt h2, Nat.zero_add]
  generalize hd : all.drop (8 * i) = d
  have hsd : Small d := by rw [← hd]; exact hs.drop _
  rcases Nat.lt_or_ge d.length 8 with h | h
  · rw [List.take_of_length_le (by omega), Nat.mod_eq_of_lt]
    exact Nat.lt_of_lt_of_le (numB_lt hsd) (Nat.pow_le_pow_right (n := 256) (by decide) (by omega : d.length ≤ 8))
  · have h3 := numB_split d 8 h
    have h4 := numB_lt (hsd.take 8)
    rw [List.length_take, Nat.min_eq_left h] at h4
    rw [h3, show W64 = 256 ^ 8 by decide, Nat.add_mul_mod_self_left, Nat.mod_eq_of_lt h4]
/-- A byte is put above others. -/
theorem or_byte {u c k : Nat} (hu : u < 256 ^ k) (hc : c < 256) (hk : k < 8) : bits .or .u64 (u : Int) (IntKind.u64.wrap (IntKind.u64.wrap (c : Int) * 2 ^ (8 * k))) = ((u + 256 ^ k * c : Nat) : Int) := by
  have e : (2 : Nat) ^ (8 * k) = 256 ^ k := by rw [Nat.pow_mul]
  have hp : (256 : Nat) ^ (k + 1) ≤ 256 ^ 8 := Nat.pow_le_pow_right (by decide) hk
  have hb : 256 ^ k * c < 256 ^ (k + 1) := by rw [Nat.pow_succ]; exact Nat.mul_lt_mul_of_pos_left hc (Nat.pow_pos (by decide))
  have h8 : (256 : Nat) ^ 8 = 18446744073709551616 := by decide
  have hu2 : u < 18446744073709551616 := by rw [← h8]; exact Nat.lt_trans hu (Nat.pow_lt_pow_right (by decide) hk)
  have w1 : IntKind.u64.wrap (c : Int) = (c : Int) := by rw [IntKind.wrap_u64]; omega
  have w2 : (c : Int) * 2 ^ (8 * k) = ((256 ^ k * c : Nat) : Int) := by rw [← e]; push_cast; rw [Int.mul_comm]
  have w3 : IntKind.u64.wrap ((256 ^ k * c : Nat) : Int) = ((256 ^ k * c : Nat) : Int) := by
    rw [IntKind.wrap_u64]
    exact Int.emod_eq_of_lt (by omega) (by omega)
  rw [w1, w2, w3, u64_or _ _ (by omega) (by omega) (by omega) (by omega)]
  rw [Int.toNat_natCast, Int.toNat_natCast, Nat.or_comm, ← e, ← Nat.two_pow_add_eq_or_of_lt (by rw [e]; exact hu), e, Nat.add_comm]
/-- The 'or' of bytes. -/
def orB (l : List Nat) : Nat := l.foldl (fun x y => x ||| y) 0
theorem orB_lt {l : List Nat} (h : Small l) : orB l < 256 := by
  have H : ∀ (l : List Nat) (x : Nat), x < 256 → Small l → l.foldl (fun x y => x ||| y) x < 256 := by
    intro l
    induction l with
    | nil => intro x hx _; exact hx
    | cons y l ih => intro x hx hl; exact ih _ (Nat.or_lt_two_pow (n := 8) hx hl.head) hl.tail
  exact H l 0 (by decide) h
theorem orB_snoc (l : List Nat) (x : Nat) : orB (l ++ [x]) = orB l ||| x := by simp [orB]
theorem orB_zero (l : List Nat) : orB l = 0 ↔ ∀ x ∈ l, x = 0 := by
  have H : ∀ (l : List Nat) (x : Nat), (l.foldl (fun x y => x ||| y) x = 0) ↔ (x = 0 ∧ ∀ n ∈ l, n = 0) := by
    intro l
    induction l with
    | nil => intro x; simp
    | cons y l ih => intro x; rw [List.foldl_cons, ih, Nat.or_eq_zero_iff]; simp [and_assoc]
  unfold orB
  rw [H l 0]
  simp
/-- The words of the first k bytes of n. -/
def lowB (n k i : Nat) : Nat := wd (n % 256 ^ k) i
theorem lowB_zero (n i : Nat) : lowB n 0 i = 0 := by unfold lowB wd dg; simp [Nat.mod_one]
theorem lowB_lt (n k i : Nat) : lowB n k i < 18446744073709551616 := wd_lt _ _
theorem w64_bytes (i : Nat) : W64 ^ i = 256 ^ (8 * i) := by rw [Nat.pow_mul, show W64 = 256 ^ 8 by decide]
theorem lowB_succ (n k i : Nat) : lowB n (k + 1) i = lowB n k i + (if i = k / 8 then by8 n k * 256 ^ (k % 8) else 0) := by
  have hm := mod_succ 256 n k
  have hd := by8_lt n k
  have hl := Nat.mod_lt n (Nat.pow_pos (n := k) (show 0 < 256 by decide))
  unfold lowB
  rw [hm, show dg 256 n k = by8 n k from rfl]
  generalize n % 256 ^ k = x at *
  generalize by8 n k = d at *
  clear hm
  by_cases h1 : i = k / 8
  · rw [if_pos h1]
    obtain ⟨r, hr⟩ : ∃ r, r = k % 8 := ⟨_, rfl⟩
    have hk : k = 8 * i + r := by omega
    rw [← hr]
    have hrl : r < 8 := by omega
    clear h1 hr
    subst hk
    unfold wd dg
    rw [w64_bytes]
    rw [Nat.pow_add] at hl ⊢
    have hq : x / 256 ^ (8 * i) < 256 ^ r := Nat.div_lt_of_lt_mul hl
    rw [Nat.mul_assoc, Nat.add_mul_div_left _ _ (Nat.pow_pos (by decide))]
    generalize x / 256 ^ (8 * i) = q at *
    have h2 : (256 : Nat) ^ (r + 1) ≤ 256 ^ 8 := Nat.pow_le_pow_right (by decide) hrl
    have h3 : q + 256 ^ r * d < 256 ^ (r + 1) := by
      rw [Nat.pow_succ]
      have h4 : 256 ^ r * d + 256 ^ r ≤ 256 ^ r * 256 := by rw [← Nat.mul_succ]; exact Nat.mul_le_mul_left _ hd
      omega
    have h5 : (256 : Nat) ^ r ≤ 256 ^ 8 := Nat.pow_le_pow_right (by decide) (by omega)
    have h8 : W64 = 256 ^ 8 := by decide
    rw [h8, Nat.mod_eq_of_lt (Nat.lt_of_lt_of_le h3 h2), Nat.mod_eq_of_lt (Nat.lt_of_lt_of_le hq h5), Nat.mul_comm d]
  · rw [if_neg h1, Nat.add_zero]
    rcases Nat.lt_or_ge i (k / 8) with h2 | h2
    · have e : 256 ^ k * d = (256 ^ (k - 8 * (i + 1)) * d) * W64 ^ (i + 1) := by
        rw [w64_bytes, Nat.mul_comm _ (256 ^ (8 * (i + 1))), ← Nat.mul_assoc, ← Nat.pow_add, show 8 * (i + 1) + (k - 8 * (i + 1)) = k by omega]
      rw [e]
      exact dg_add_low w64_pos _ _ _ _ (by omega)
    · have h3 : (256 : Nat) ^ (k + 1) ≤ W64 ^ i := by rw [w64_bytes]; exact Nat.pow_le_pow_right (by decide) (by omega)
      have h4 : x + 256 ^ k * d < 256 ^ (k + 1) := by
        rw [Nat.pow_succ]
        have h4 : 256 ^ k * d + 256 ^ k ≤ 256 ^ k * 256 := by rw [← Nat.mul_succ]; exact Nat.mul_le_mul_left _ hd
        omega
      unfold wd
      rw [dg_zero_of_lt (Nat.lt_of_lt_of_le h4 h3), dg_zero_of_lt (by omega)]
theorem lowB_sum (n k : Nat) : lowB n k (k / 8) + by8 n k * 256 ^ (k % 8) < 18446744073709551616 := by
  have h := lowB_succ n k (k / 8)
  rw [if_pos rfl] at h
  rw [← h]; exact lowB_lt _ _ _
end
section
open Go.RowKit

/-- A byte as a value. -/
abbrev u8v (n : Nat) : Value := .int .u8 (n : Int)
/-- The block b holds the bytes xs. -/
def ByBlk (w : World) (b : Nat) (T : TypeId) (xs : List Nat) : Prop := w.heap[b]? = some (.cells (xs.map u8v).toArray T (0, 0))
theorem ByBlk.cell {w : World} {b : Nat} {T : TypeId} {xs : List Nat} (h : ByBlk w b T xs) {j x : Nat} (hj : xs[j]? = some x) : w.cell? ⟨b, j, none⟩ = some (u8v x) := by
  rw [cell_of_heap h, List.getElem?_toArray, List.getElem?_map, hj]; rfl
theorem ByBlk.of {w : World} {b : Nat} {T : TypeId} {xs : List Nat} {Z : Array Value} (h : w.heap[b]? = some (.cells Z T (0, 0))) (hz : Z = (xs.map u8v).toArray) : ByBlk w b T xs := by subst hz; exact h
theorem ByBlk.lt {w : World} {b : Nat} {T : TypeId} {xs : List Nat} (h : ByBlk w b T xs) : b < w.heap.size := heap_lt h
theorem ByBlk.off {w w' : World} {b : Nat} {T : TypeId} {xs : List Nat} {S : Nat → Prop} (h : ByBlk w b T xs) (ho : Off S w w') (hb : ¬ S b) : ByBlk w' b T xs := ho.heap h hb
theorem ByBlk.frozen {w : World} {b : Nat} {T : TypeId} {xs : List Nat} (h : ByBlk w b T xs) (j : Nat) : w.frozen? ⟨b, j, none⟩ = false := frozen_of_heap h j
/-- The cells of a block of eight. -/
theorem ByBlk.cells8 {w : World} {b : Nat} {T : TypeId} {ys : List Nat} (h : ByBlk w b T ys) {x0 x1 x2 x3 x4 x5 x6 x7 : Nat} (e : ys = [x0, x1, x2, x3, x4, x5, x6, x7]) :
    w.cell? ⟨b, 0, none⟩ = some (u8v x0) ∧ w.cell? ⟨b, 1, none⟩ = some (u8v x1) ∧ w.cell? ⟨b, 2, none⟩ = some (u8v x2) ∧ w.cell? ⟨b, 3, none⟩ = some (u8v x3) ∧ w.cell? ⟨b, 4, none⟩ = some (u8v x4) ∧ w.cell? ⟨b, 5, none⟩ = some (u8v x5) ∧ w.cell? ⟨b, 6, none⟩ = some (u8v x6) ∧ w.cell? ⟨b, 7, none⟩ = some (u8v x7) := by
  subst e
  exact ⟨h.cell rfl, h.cell rfl, h.cell rfl, h.cell rfl, h.cell rfl, h.cell rfl, h.cell rfl, h.cell rfl⟩
theorem ByBlk.store {w : World} {b : Nat} {T : TypeId} {xs : List Nat} (h : ByBlk w b T xs) (j v : Nat) : ByBlk (w.setCell ⟨b, j, none⟩ (u8v v)) b T (xs.set j v) := by
  have := heap_set h j (u8v v)
  unfold ByBlk
  rw [this]
  congr 2
  apply Array.ext'
  simp [List.map_set]
theorem ByBlk.copy {w : World} {b : Nat} {T : TypeId} {xs : List Nat} (h : ByBlk w b T xs) (o : Nat) (vs : List Nat) (ho : o + vs.length ≤ xs.length) : ByBlk (w.setCells b o (vs.map u8v)) b T (xs.take o ++ vs ++ xs.drop (o + vs.length)) := by
  unfold ByBlk at h ⊢
  have e : xs.map u8v = (xs.take o).map u8v ++ ((xs.drop o).take vs.length).map u8v ++ (xs.drop (o + vs.length)).map u8v := by
    rw [← List.map_append, ← List.map_append, List.append_assoc, ← List.drop_drop, List.take_append_drop, List.take_append_drop]
  rw [e] at h
  have := setCells_mid (vs.map u8v) ((xs.take o).map u8v) (((xs.drop o).take vs.length).map u8v) ((xs.drop (o + vs.length)).map u8v) w o (by simp; omega) (by simp; omega) h
  rw [this]
  simp
theorem ByBlk.make {w : World} {n : Nat} {T : TypeId} : ByBlk (w.alloc (.cells (Array.replicate n (.int .u8 0)) T)) w.heap.size T (List.replicate n 0) := by
  unfold ByBlk
  rw [heap_new' rfl _]
  congr 2
  apply Array.ext'
  simp

/-- The slice address a holds the bytes bs; they lie within S. -/
def BsAt (w : World) (a : Option Addr) (bs : List Nat) (S : Nat → Prop) : Prop :=
  0 < bs.length → ∃ b off, a = some ⟨b, off, none⟩ ∧ S b ∧ ∀ j x, bs[j]? = some x → w.cell? ⟨b, off + j, none⟩ = some (u8v x)
theorem BsAt.off {w w' : World} {a : Option Addr} {bs : List Nat} {S S' : Nat → Prop} (h : BsAt w a bs S) (ho : Off S' w w') (hd : ∀ k, k < w.heap.size → S k → ¬ S' k) : BsAt w' a bs S := fun hp => by
  obtain ⟨b, off, ha, hS, hc⟩ := h hp
  refine ⟨b, off, ha, hS, fun j x hj => ?_⟩
  have := hc j x hj
  exact ho.cell this (hd b (World.block_lt_of_cell? w _ this) hS)
theorem BsAt.mono {w : World} {a : Option Addr} {bs : List Nat} {S S' : Nat → Prop} (h : BsAt w a bs S) (hs : ∀ k, k < w.heap.size → S k → S' k) : BsAt w a bs S' := fun hp => by
  obtain ⟨b, off, ha, hS, hc⟩ := h hp
  refine ⟨b, off, ha, hs b ?_ hS, hc⟩
  exact World.block_lt_of_cell? w _ (hc 0 bs[0] (List.getElem?_eq_getElem hp))
theorem BsAt.old {w : World} {a : Option Addr} {bs : List Nat} {S : Nat → Prop} (h : BsAt w a bs S) : BsAt w a bs (fun k => k < w.heap.size) := h.mono fun _ hk _ => hk
theorem BsAt.later {w w' : World} {a : Option Addr} {bs : List Nat} {S : Nat → Prop} (h : BsAt w a bs S) (ho : Off (fun k => w.heap.size ≤ k) w w') : BsAt w' a bs (fun k => k < w.heap.size) := h.old.off ho (fun _ h1 _ h3 => absurd h1 (Nat.not_lt.2 h3))
theorem BsAt.of_blk {w : World} {b : Nat} {T : TypeId} {xs : List Nat} {S : Nat → Prop} (h : ByBlk w b T xs) (hS : S b) : BsAt w (some ⟨b, 0, none⟩) xs S := fun _ => ⟨b, 0, rfl, hS, fun j x hj => by rw [Nat.zero_add]; exact h.cell hj⟩
theorem BsAt.nil (w : World) (a : Option Addr) (S : Nat → Prop) : BsAt w a [] S := fun h => by simp at h
theorem BsAt.take {w : World} {a : Option Addr} {bs : List Nat} {S : Nat → Prop} (h : BsAt w a bs S) (k : Nat) : BsAt w a (bs.take k) S := fun hp => by
  obtain ⟨b, off, ha, hS, hc⟩ := h (by simp at hp; omega)
  refine ⟨b, off, ha, hS, fun j x hj => hc j x ?_⟩
  rw [List.getElem?_take] at hj
  split at hj
  · exact hj
  · simp at hj
theorem BsAt.drop {w : World} {b off : Nat} {bs : List Nat} {S : Nat → Prop} (h : BsAt w (some ⟨b, off, none⟩) bs S) (k : Nat) : BsAt w (some ⟨b, off + k, none⟩) (bs.drop k) S := fun hp => by
  obtain ⟨b', off', ha, hS, hc⟩ := h (by simp at hp; omega)
  simp at ha
  obtain ⟨rfl, rfl⟩ := ha
  refine ⟨_, _, rfl, hS, fun j x hj => ?_⟩
  rw [List.getElem?_drop] at hj
  have := hc _ x hj
  rwa [← Nat.add_assoc] at this
/-- The slice value v holds the bytes bs, wherever. -/
def SvAt (w : World) (v : Value) (bs : List Nat) : Prop := ∃ a n cap, v = .slice a n cap ∧ n = bs.length ∧ n ≤ cap ∧ BsAt w a bs (fun _ => True)
theorem SvAt.off {w w' : World} {v : Value} {bs : List Nat} (h : SvAt w v bs) (ho : Off (fun _ => False) w w') : SvAt w' v bs := by
  obtain ⟨a, n, cap, h1, h2, h4, h3⟩ := h
  exact ⟨a, n, cap, h1, h2, h4, h3.off ho (fun _ _ _ c => c)⟩
/-- The bytes as the shelf has them. -/
theorem BsAt.bytesIn {w : World} {a : Option Addr} {bs : List Nat} {S : Nat → Prop} (h : BsAt w a bs S) {n : Nat} (hn : n = bs.length) : Lib.BytesIn w a n (bs.map (fun x : Nat => (x : Int))) := fun hp => by
  subst hn
  obtain ⟨b, off, ha, _, hc⟩ := h hp
  refine ⟨b, off, ha, fun i hi => ?_⟩
  rw [hc i bs[i] (List.getElem?_eq_getElem hi)]
  simp [List.getElem?_eq_getElem hi]
/-- 'copy' of the bytes of a slice into a block. -/
theorem run_copy_bytes {T ty : TypeId} (hu : Tryd.prog.underlying T = some (.slice 5)) {w : World} {b o dLen dCap n c : Nat} {a : Option Addr} {bs xs : List Nat} {S : Nat → Prop} {TB : TypeId} (h : BsAt w a bs S) (hn : n = bs.length) (hb : ByBlk w b TB xs) (hd : n ≤ dLen) (ho : o + n ≤ xs.length) :
    (Builtin.copy_ #[T, T] ty #[.slice (some ⟨b, o, none⟩) dLen dCap, .slice a n c]).run Tryd.prog w = .ok (.int .i64 (n : Int)) (w.setCells b o (bs.map u8v)) := by
  subst hn
  have hs : (Tryd.prog.info? 5).map (·.size) = some 1 := by kernel_rfl
  rcases Nat.eq_zero_or_pos bs.length with h0 | hp
  · obtain rfl : bs = [] := List.eq_nil_of_length_eq_zero h0
    exact run_copy_none (P := Tryd.prog) w T T ty 5 _ a _ _ 0 c hu hs (by simp)
  · obtain ⟨b', off, rfl, _, hc⟩ := h hp
    have hr := run_copy_cells (P := Tryd.prog) w T T ty 5 b o dLen dCap ⟨b', off, none⟩ bs.length c (bs.map u8v) hu hs (by rw [List.length_map]; exact (Nat.min_eq_left hd).symm)
      (fun j u hj => by
        rw [List.getElem?_map] at hj
        obtain ⟨x, hx, rfl⟩ := Option.map_eq_some_iff.1 hj
        rw [Addr.add_lit]
        exact hc j x hx)
      (fun j hj => by
        rw [List.length_map] at hj
        rw [hb.cell (List.getElem?_eq_getElem (show o + j < xs.length by omega))]; rfl)
      (fun j _ => hb.frozen _)
      (fun u hu' => by obtain ⟨x, _, rfl⟩ := List.mem_map.1 hu'; rfl)
    rw [List.length_map] at hr
    exact hr
/-- The same, told by what it leaves. -/
theorem copy_bytes {T : TypeId} (hu : Tryd.prog.underlying T = some (.slice 5)) {w : World} {b off dLen dCap n c : Nat} {a : Option Addr} {bs xs : List Nat} {S : Nat → Prop} {TB : TypeId} (h : BsAt w a bs S) (hn : n = bs.length) (hb : ByBlk w b TB xs) (hl : n ≤ dLen) (hx : off + n ≤ xs.length) :
    ∃ w1, (Builtin.copy_ #[T, T] 3 #[.slice (some ⟨b, off, none⟩) dLen dCap, .slice a n c]).run Tryd.prog w = .ok (.int .i64 (n : Int)) w1 ∧ ByBlk w1 b TB (xs.take off ++ bs ++ xs.drop (off + n)) ∧ Off (fun j => j = b) w w1 := by
  refine ⟨_, run_copy_bytes hu h hn hb hl hx, ?_, setCells_off b _ off w⟩
  subst hn
  exact hb.copy off bs hx
theorem byte_info : (Tryd.prog.info? 5).map (fun i => (i.zero, i.size, i.bytes)) = some (some (.int .u8 0), 1, 1) := by kernel_rfl
theorem run_make_by (n : Nat) (hn : n ≤ 100000) (w : World) : (Instr.makeSlice 24 (.int .i64 (n : Int)) (.int .i64 (n : Int))).run Tryd.prog w = .ok (.slice (some ⟨w.heap.size, 0, none⟩) n n) (w.alloc (.cells ((List.replicate n 0).map u8v).toArray 5)) := by
  obtain ⟨i0, hi, hz0, hz1, hz2⟩ := info_parts byte_info
  have := run_make (P := Tryd.prog) w 24 5 i0 _ Tryd.underlying24 hi hz0 .i64 .i64 (n : Int) (n : Int) (by omega) (Int.le_refl _) (by rw [hz2]; omega) (by omega)
  rw [hz1, show (Value.int .u8 0).cells = #[.int .u8 0] from rfl] at this
  have e : madeCells #[.int .u8 0] (n * 1) = ((List.replicate n 0).map u8v).toArray := by
    apply Array.ext'
    apply List.ext_getElem?
    intro j
    by_cases hj : j < n
    · simp [madeCells, hj, Nat.mod_one]
    · rw [List.getElem?_eq_none (by simp [madeCells]; omega), List.getElem?_eq_none (by simp; omega)]
  rw [← e]
  simpa using this
/-- 's[k:]' and 's[:k]' of a slice of bytes. -/
theorem slice_lo (b o n cap k : Nat) (hk : k ≤ n) (hc : k ≠ cap) (W : World) : (Instr.slice 24 (.slice (some ⟨b, o, none⟩) n cap) (some (.int .i64 (k : Int))) none none).run Tryd.prog W = .ok (.slice (some ⟨b, o + k, none⟩) (n - k) (cap - k)) W := by
  have he : Tryd.prog.elem 24 = 5 := by simp [Program.elem, Tryd.underlying24]
  rw [run_slice_l W 24 _ _ _ (by rw [he]; exact Tryd.underlying24) .i64 _ (by omega) (by omega), he, Tryd.sizeOf5]
  simp [Result.andThen, sliced, Addr.add_lit, Ne.symm hc]
theorem slice_hi (b o n cap k : Nat) (hk : k ≤ cap) (W : World) : (Instr.slice 24 (.slice (some ⟨b, o, none⟩) n cap) none (some (.int .i64 (k : Int))) none).run Tryd.prog W = .ok (.slice (some ⟨b, o, none⟩) k cap) W := by
  have he : Tryd.prog.elem 24 = 5 := by simp [Program.elem, Tryd.underlying24]
  rw [run_slice_h W 24 _ _ _ (by rw [he]; exact Tryd.underlying24) .i64 _ (by omega) (by omega), he, Tryd.sizeOf5]
  simp [Result.andThen, sliced, Addr.add_lit]
theorem setCells_offB {S : Nat → Prop} {a u : World} {b : Nat} (h : Off S a u) (hb : b < a.heap.size → S b) (o : Nat) (vs : List Value) : Off S a (u.setCells b o vs) :=
  h.trans (setCells_off b vs o u) (fun _ hk e => by subst e; exact hb hk)
/- bytes.Equal and bytes.HasPrefix at this seat's numbers. -/
end
section
open Go.RowKit
set_option maxRecDepth 100000 in
theorem slice32 (g i : Nat) (hi : i < 4) (W : World) : (Instr.sliceAt 161 (.pointer (some ⟨g, 0, none⟩)) (some (.int .i64 ((i : Int) * 8))) (some (.int .i64 (((i : Int) + 1) * 8))) none).run Tryd.prog W = .ok (.slice (some ⟨g, 8 * i, none⟩) 8 (32 - 8 * i)) W := by
  have e : i = 0 ∨ i = 1 ∨ i = 2 ∨ i = 3 := by omega
  rcases e with rfl | rfl | rfl | rfl <;> rfl
set_option maxRecDepth 100000 in
set_option maxHeartbeats 4000000 in
theorem wordat_any (i g : Nat) (hi : i < 4) (all : List Nat) (hs : Small all) (hl : all.length = 32) (w : World) (hG : ByBlk w g 161 all) :
    Calls Tryd.prog 95 #[.int .i64 (i : Int), .pointer (some ⟨g, 0, none⟩)] w fun e w' => e = .returned (.int .u64 (wd (numB all) i : Int)) ∧ Off (fun _ => False) w w' := by
  have hc := fun (j : Nat) (h : j < 32) => hG.cell (j := j) (x := all[j]'(by omega)) (List.getElem?_eq_getElem _)
  have hsl := slice32 g i hi
  clear hG
  go_enter Tryd.func95, Tryd.ntmps95
  go_wp2
  go_loop [4, 14] (fun u i' => ∃ k : Nat, k ≤ 8 ∧ i' = .int .i64 k ∧ u = .int .u64 (numB ((all.drop (8 * i)).take k) : Int)) (fun _ i' => 8 - (intOf i').toNat)
  case atStart => exact ⟨0, by omega, rfl, by simp [numB]⟩
  case round =>
    obtain ⟨k, hk, rfl, rfl⟩ := hrel
    by_cases hlt : k < 8
    · have i1 : decide ((k : Int) < 8) = true := by simp; omega
      have i2 : (k : Int) < 8 := by omega
      have cb := hc (8 * i + k) (by omega)
      have hx : (all.drop (8 * i))[k]? = some (all[8 * i + k]'(by omega)) := by rw [List.getElem?_drop, List.getElem?_eq_getElem (by omega)]
      have hcl : all[8 * i + k]'(by omega) < 256 := hs _ (List.getElem_mem _)
      obtain ⟨c, hcx⟩ : ∃ c, c = all[8 * i + k]'(by omega) := ⟨_, rfl⟩
      rw [← hcx] at cb hx hcl
      have hu := numB_lt ((hs.drop (8 * i)).take k)
      rw [List.length_take, List.length_drop, hl, Nat.min_eq_left (by omega)] at hu
      have HT := Lib.hid ((or_byte hu hcl hlt).trans (congrArg Nat.cast (numB_take _ _ _ hx).symm))
      clear hc hx hcl hcx hu
      go_wp2
      go_round
      case rel => exact ⟨k + 1, by omega, by go_num, by rw [HT.out]⟩
      case measure => simp [intOf]; omega
    · obtain rfl : k = 8 := by omega
      have HW := Lib.hid (wd_numB hs i (by omega))
      rw [wd_numB hs i (by omega)]
      clear hc
      go_wp2
      go_ret
      exact ⟨rfl, Off.refl _ _⟩
end
end Go.Proofs.YtclehgconbdkpaaDoor
