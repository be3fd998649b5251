/-
  Chunks in plain lists: a secret's chunks, their numbers, the secret read back. Plain facts; the conditions are of lengths and sizes.
-/
import Derived.Test.YtllhfkcgocbblaaDoorBytAll
namespace Go.Proofs.YtllhfkcgocbblaaDoor
/-- The number of chunks of n bytes. -/
def cntN (n : Nat) : Nat := (n + 30) / 31
/-- The chunk with the index i. -/
def chk (bs : List Nat) (i : Nat) : List Nat := (bs.drop (31 * i)).take 31
/-- Its length. -/
def chkN (n i : Nat) : Nat := min 31 (n - 31 * i)
theorem chk_len (bs : List Nat) (i : Nat) : (chk bs i).length = chkN bs.length i := by unfold chk chkN; simp
theorem chkN_le (n i : Nat) : chkN n i ≤ 31 := Nat.min_le_left _ _
theorem chkN_pos {n i : Nat} (h : i < cntN n) : 0 < chkN n i := by unfold cntN at h; unfold chkN; omega
theorem cntN_step {n i : Nat} (h : 31 * i < n) : i < cntN n := by unfold cntN; omega
theorem cntN_end {n i : Nat} (h : n ≤ 31 * i) : cntN n ≤ i := by unfold cntN; omega
theorem chk_small {bs : List Nat} (h : Small bs) (i : Nat) : Small (chk bs i) := (h.drop _).take _
/-- The numbers of the first k chunks. -/
def splitK (bs : List Nat) (k : Nat) : List Nat := (List.range k).map fun i => numB (chk bs i)
def splitV (bs : List Nat) : List Nat := splitK bs (cntN bs.length)
theorem splitK_zero (bs : List Nat) : splitK bs 0 = [] := rfl
theorem splitK_succ (bs : List Nat) (k : Nat) : splitK bs (k + 1) = splitK bs k ++ [numB (chk bs k)] := by simp [splitK, List.range_succ]
theorem splitK_length (bs : List Nat) (k : Nat) : (splitK bs k).length = k := by simp [splitK]
theorem splitK_get (bs : List Nat) {k i : Nat} (h : i < k) : (splitK bs k)[i]? = some (numB (chk bs i)) := by simp [splitK, h]
theorem splitV_length (bs : List Nat) : (splitV bs).length = cntN bs.length := splitK_length _ _
theorem chk_num_lt {bs : List Nat} (h : Small bs) (i : Nat) : numB (chk bs i) < 256 ^ 31 :=
  Nat.lt_of_lt_of_le (numB_lt (chk_small h i)) (Nat.pow_le_pow_right (by decide) (by rw [chk_len]; exact chkN_le _ _))
/-- What has been read back of the elements l of a secret of n bytes: the bytes, and an error. -/
def joinG (n : Nat) (l : List Nat) : Nat → List Nat × Nat
  | 0 => ([], 0)
  | k + 1 => if (joinG n l k).2 = 0 then (if (unpV (l.getD k 0) (chkN n k : Int)).2 = 0 then ((joinG n l k).1 ++ (unpV (l.getD k 0) (chkN n k : Int)).1, 0) else ([], (unpV (l.getD k 0) (chkN n k : Int)).2)) else ([], (joinG n l k).2)
/-- Join: the secret and the error. -/
def joinV (l : List Nat) (m : Int) : List Nat × Nat := if 0 ≤ m ∧ m ≤ 65535 then (if l.length = cntN m.toNat then joinG m.toNat l l.length else ([], 8)) else ([], 6)
theorem joinG_bad {n : Nat} {l : List Nat} : ∀ {k : Nat}, (joinG n l k).2 ≠ 0 → (joinG n l k).1 = []
  | 0, h => rfl
  | k + 1, h => by
    unfold joinG at h ⊢
    split
    · rename_i h0
      rw [if_pos h0] at h
      split
      · rename_i h1
        rw [if_pos h1] at h
        exact absurd rfl h
      · rfl
    · rfl
/-- Once there is an error, it stays. -/
theorem joinG_stays {n : Nat} {l : List Nat} {k : Nat} (h : (joinG n l k).2 ≠ 0) : ∀ j, joinG n l (k + j) = ([], (joinG n l k).2)
  | 0 => Prod.ext (joinG_bad h) rfl
  | j + 1 => by
    show joinG n l (k + j + 1) = _
    rw [joinG, joinG_stays h j, if_neg h]
theorem unpV_ok (v : Nat) {k : Nat} (h : k ≤ 31) : unpV v (k : Int) = if orB ((bytesN v 32).drop k) = 0 then ((bytesN v 32).take k, 0) else ([], 10) := by unfold unpV; rw [if_pos ⟨by omega, by omega⟩, Int.toNat_natCast]
theorem unp_pack' {bs : List Nat} (hs : Small bs) (h : bs.length ≤ 31) : unpV (numB bs) (bs.length : Int) = (bs, 0) := by
  rw [unpV_ok _ h]
  have h1 : (bytesN (numB bs) 32).take bs.length = bs := by rw [bytesN_take _ _ _ (by omega), bytesN_numB hs]
  have h2 : orB ((bytesN (numB bs) 32).drop bs.length) = 0 := by
    rw [orB_zero]
    intro x hx
    obtain ⟨t, ht⟩ := List.getElem?_of_mem hx
    have hl := (List.getElem?_eq_some_iff.1 ht).1
    rw [List.length_drop, bytesN_length] at hl
    rw [List.getElem?_drop, bytesN_get _ _ _ (by omega), by8_over hs (by omega)] at ht
    exact (Option.some.inj ht).symm
  rw [if_pos h2, h1]
theorem joinG_len (n : Nat) (l : List Nat) : ∀ k, (joinG n l k).1.length ≤ 31 * k
  | 0 => Nat.le_refl _
  | k + 1 => by
    have ih := joinG_len n l k
    unfold joinG
    split
    · split
      · rw [List.length_append, unpV_ok _ (chkN_le _ _)]
        split
        · rw [List.length_take]; have := chkN_le n k; omega
        · simp only [List.length_nil]; omega
      · exact Nat.zero_le _
    · exact Nat.zero_le _
/-- Reading back what was divided. -/
theorem join_split {bs : List Nat} (hs : Small bs) : ∀ k, k ≤ cntN bs.length → joinG bs.length (splitV bs) k = (bs.take (31 * k), 0)
  | 0, _ => rfl
  | k + 1, h => by
    have ih := join_split hs k (by omega)
    have hg : (splitV bs).getD k 0 = numB (chk bs k) := by rw [List.getD_eq_getElem?_getD]; unfold splitV; rw [splitK_get bs (by omega)]; rfl
    have hu : unpV (numB (chk bs k)) (chkN bs.length k : Int) = (chk bs k, 0) := by
      rw [← chk_len]; exact unp_pack' (chk_small hs k) (by rw [chk_len]; exact chkN_le _ _)
    rw [joinG, ih, if_pos rfl, hg, hu, if_pos rfl]
    refine Prod.ext ?_ rfl
    show bs.take (31 * k) ++ (bs.drop (31 * k)).take 31 = _
    rw [← List.take_add]
    rfl
theorem join_split_all {bs : List Nat} (hs : Small bs) (h : bs.length ≤ 65535) : joinV (splitV bs) (bs.length : Int) = (bs, 0) := by
  unfold joinV
  rw [if_pos ⟨by omega, by omega⟩, Int.toNat_natCast, splitV_length, if_pos rfl, join_split hs _ (Nat.le_refl _), List.take_of_length_le (by unfold cntN; omega)]
/-- A number whose bytes from k on are zeros, out of its first k bytes. -/
theorem num_of_take {v k : Nat} (hv : v < R256) (hk : k ≤ 32) (h : orB ((bytesN v 32).drop k) = 0) : numB ((bytesN v 32).take k) = v := by
  have hz : (bytesN v 32).drop k = List.replicate (32 - k) 0 := by
    rw [List.eq_replicate_iff]
    exact ⟨by rw [List.length_drop, bytesN_length], fun x hx => (orB_zero _).1 h x hx⟩
  have hsp := numB_split (bytesN v 32) k (by rw [bytesN_length]; exact hk)
  rw [hz, numB_zeros, Nat.mul_zero, Nat.add_zero, numB_bytesN32 hv] at hsp
  exact hsp.symm
/-- What was read back, divided again. -/
theorem split_join {n : Nat} {l : List Nat} (hl : ∀ x ∈ l, x < R256) : ∀ k, k ≤ l.length → k ≤ cntN n → (joinG n l k).2 = 0 → (joinG n l k).1.length = min n (31 * k) ∧ Small (joinG n l k).1 ∧ ∀ i, i < k → numB (chk (joinG n l k).1 i) = l.getD i 0
  | 0, _, _, _ => ⟨by simp [joinG], fun x hx => (by simp [joinG] at hx), fun i hi => absurd hi (Nat.not_lt_zero i)⟩
  | k + 1, hk, hn, h => by
    unfold joinG at h ⊢
    split at h
    · rename_i h0
      rw [if_pos h0]
      obtain ⟨i1, i2, i3⟩ := split_join hl k (by omega) (by omega) h0
      split at h
      · rename_i h1
        rw [if_pos h1]
        have hc := chkN_le n k
        have hu := unpV_ok (l.getD k 0) hc
        rw [hu] at h1 ⊢
        split at h1
        · rename_i hz
          rw [if_pos hz]
          have hp : 31 * k < n := by have := chkN_pos (show k < cntN n by omega); unfold chkN at this; omega
          have hlen : (joinG n l k).1.length = 31 * k := by rw [i1]; omega
          have hv : l.getD k 0 < R256 := by
            rw [List.getD_eq_getElem?_getD, List.getElem?_eq_getElem (show k < l.length by omega)]
            exact hl _ (List.getElem_mem _)
          have ht : ((bytesN (l.getD k 0) 32).take (chkN n k)).length = chkN n k := by rw [List.length_take, bytesN_length]; omega
          refine ⟨?_, fun x hx => ?_, fun i hi => ?_⟩
          · rw [List.length_append, ht, hlen]; unfold chkN; omega
          · rcases List.mem_append.1 hx with h | h
            · exact i2 x h
            · exact (bytesN_small _ _).take _ x h
          · unfold chk
            rcases Nat.lt_or_eq_of_le (Nat.le_of_lt_succ hi) with hlt | rfl
            · rw [List.drop_append_of_le_length (by rw [hlen]; omega), List.take_append_of_le_length (by rw [List.length_drop, hlen]; omega)]
              exact i3 i hlt
            · rw [List.drop_append_of_le_length (by rw [hlen]; omega), List.drop_eq_nil_of_le (by rw [hlen]; omega), List.nil_append, List.take_of_length_le (by rw [ht]; exact hc)]
              exact num_of_take hv (by omega) hz
        · exact absurd h1 (by decide)
      · exact absurd h ‹_›
    · exact absurd h ‹_›
/-- A secret that was read back: its length, and its chunks' numbers. -/
theorem join_canon {l : List Nat} {m : Int} {bs : List Nat} (hl : ∀ x ∈ l, x < R256) (h : joinV l m = (bs, 0)) : 0 ≤ m ∧ m ≤ 65535 ∧ bs.length = m.toNat ∧ Small bs ∧ splitV bs = l := by
  unfold joinV at h
  split at h
  · rename_i hr
    split at h
    · rename_i hc
      have h1 : (joinG m.toNat l l.length).1 = bs := by rw [h]
      have h2 : (joinG m.toNat l l.length).2 = 0 := by rw [h]
      obtain ⟨a1, a2, a3⟩ := split_join hl l.length (Nat.le_refl _) (by omega) h2
      rw [h1] at a1 a2 a3
      have hlen : bs.length = m.toNat := by rw [a1]; unfold cntN at hc; omega
      refine ⟨hr.1, hr.2, hlen, a2, ?_⟩
      apply List.ext_getElem?
      intro i
      unfold splitV
      rw [hlen, ← hc]
      by_cases hi : i < l.length
      · rw [splitK_get _ hi, a3 i hi, List.getD_eq_getElem?_getD, List.getElem?_eq_getElem hi]; rfl
      · rw [List.getElem?_eq_none (by rw [splitK_length]; omega), List.getElem?_eq_none (by omega)]
    · exact absurd (congrArg Prod.snd h) (by simp)
  · exact absurd (congrArg Prod.snd h) (by simp)
/-- With an error there is no secret. -/
theorem join_bad {l : List Nat} {m : Int} {bs : List Nat} {er : Nat} (h : joinV l m = (bs, er)) (he : er ≠ 0) : bs = [] := by
  unfold joinV at h
  split at h
  · split at h
    · have h2 : (joinG m.toNat l l.length).2 ≠ 0 := by rw [h]; exact he
      have h3 := joinG_bad h2
      rw [h] at h3
      exact h3
    · exact (congrArg Prod.fst h).symm
  · exact (congrArg Prod.fst h).symm
end Go.Proofs.YtllhfkcgocbblaaDoor
