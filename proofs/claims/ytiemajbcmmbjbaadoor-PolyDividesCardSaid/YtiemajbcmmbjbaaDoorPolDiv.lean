/-
  Dividing by a linear polynomial and multiplying back: the same polynomial. Plain facts; conditions as written.
-/
import Derived.Test.YtiemajbcmmbjbaaDoorPolCore
namespace Go.Proofs.YtiemajbcmmbjbaaDoor
theorem div_row (p v m i : Nat) (L : List Nat) (h : i + 1 < L.length) (j : Nat) : (mulRow p v [m, 1] i L (List.range 2)).getD j 0 = if j = i + 1 then (L.getD (i + 1) 0 + v * 1 % p) % p else if j = i then (L.getD i 0 + v * m % p) % p else L.getD j 0 := by
  rw [show List.range 2 = ([] ++ [0]) ++ [1] from rfl, mulRow_snoc, mulRow_snoc]
  have e0 : mulRow p v [m, 1] i L [] = L := rfl
  rw [e0]
  simp only [List.length_cons, List.length_nil, Nat.reduceAdd, Nat.zero_mod, Nat.reduceMod, Nat.add_zero]
  rw [getD_set _ _ _ _ (by rw [List.length_set]; exact h), getD_set _ _ _ _ (by omega), getD_set _ _ _ _ (by omega)]
  rw [if_neg (show ¬ i + 1 = i by omega)]
  rfl
theorem divAll_get (p : Nat) (qs : List Nat) (m : Nat) (hq : 0 < qs.length) : ∀ i, i ≤ qs.length → ∀ j, (mulAll p qs [m, 1] (List.range i)).getD j 0 = if j < i then ((if j = 0 then 0 else qs.getD (j - 1) 0) + qs.getD j 0 * m % p) % p else if j = i ∧ 0 < i then qs.getD (i - 1) 0 % p else 0
  | 0, _, j => by
    rw [if_neg (by omega), if_neg (by omega)]
    show (List.replicate _ 0).getD j 0 = 0
    rw [List.getD_eq_getElem?_getD, List.getElem?_replicate]
    split <;> rfl
  | i + 1, h, j => by
    rw [List.range_succ, mulAll_snoc, Nat.mod_eq_of_lt (a := i) (b := qs.length) (by omega)]
    rw [show [m, 1].length = 2 from rfl, div_row _ _ _ _ _ (by rw [mulAll_length]; simp only [List.length_cons, List.length_nil]; omega)]
    have ih := divAll_get p qs m hq i (by omega)
    by_cases e : j = i + 1
    · have a1 : (mulAll p qs [m, 1] (List.range i)).getD (i + 1) 0 = 0 := by rw [ih, if_neg (by omega), if_neg (by omega)]
      rw [if_pos e, a1, if_neg (show ¬ j < i + 1 by omega), if_pos (show j = i + 1 ∧ 0 < i + 1 by omega), Nat.zero_add, Nat.mul_one, Nat.mod_mod]
      rfl
    · rw [if_neg e]
      by_cases e2 : j = i
      · rw [if_pos e2, if_pos (show j < i + 1 by omega), e2]
        by_cases e3 : i = 0
        · have a1 : (mulAll p qs [m, 1] (List.range i)).getD i 0 = 0 := by rw [ih, if_neg (by omega), if_neg (by omega)]
          rw [a1, if_pos e3]
        · have a1 : (mulAll p qs [m, 1] (List.range i)).getD i 0 = qs.getD (i - 1) 0 % p := by rw [ih, if_neg (by omega), if_pos (by omega)]
          rw [a1, if_neg e3]
          exact md_add (md_self _ _) rfl
      · rw [if_neg e2, ih]
        by_cases e3 : j < i
        · rw [if_pos e3, if_pos (show j < i + 1 by omega)]
        · rw [if_neg e3, if_neg (show ¬ (j = i ∧ 0 < i) by omega), if_neg (show ¬ j < i + 1 by omega), if_neg (show ¬ (j = i + 1 ∧ 0 < i + 1) by omega)]
theorem div_back {p : Nat} (h0 : 0 < p) (vs : List Nat) (hv : ∀ v ∈ vs, v < p) (c : Nat) (hc : c < p) : ∀ k, k < vs.length → (sumL p (mulL p (quoL p vs c) [(0 + (p - c)) % p, 1]) [pv vs c % p])[k]? = some (vs.getD k 0) := by
  intro k hk
  obtain ⟨m, hm⟩ : ∃ m, m = (0 + (p - c)) % p := ⟨_, rfl⟩
  rw [← hm]
  have hmc : (m + c) % p = 0 := by
    rw [hm, Nat.zero_add]
    by_cases e : c = 0
    · subst e; rw [Nat.sub_zero, Nat.mod_self]; exact Nat.zero_mod _
    · rw [Nat.mod_eq_of_lt (show p - c < p by omega), Nat.sub_add_cancel (by omega), Nat.mod_self]
  have hql : (quoL p vs c).length = vs.length - 1 := quoL_length p vs c
  have hqd : ∀ i, (quoL p vs c).getD i 0 % p = pv (vs.drop (i + 1)) c % p := fun i => by
    unfold quoL
    rw [getD_range]
    by_cases e : i < vs.length - 1
    · rw [if_pos e, md_self]
    · rw [if_neg e, List.drop_eq_nil_of_le (by omega)]; rfl
  have hmd : (mulL p (quoL p vs c) [m, 1]).getD k 0 % p = ((if k = 0 then 0 else (quoL p vs c).getD (k - 1) 0) + (quoL p vs c).getD k 0 * m) % p := by
    unfold mulL
    split
    · next h =>
      have h1 : vs.length = 1 := by
        rcases h with h | h
        · omega
        · simp at h
      have : k = 0 := by omega
      subst this
      rw [if_pos rfl, getD_over (L := quoL p vs c) (by omega)]; simp
    · next h =>
      have hq : 0 < (quoL p vs c).length := by omega
      rw [divAll_get p _ m hq _ (Nat.le_refl _)]
      by_cases e : k < (quoL p vs c).length
      · rw [if_pos e, md_self]; exact md_add rfl (md_self _ _)
      · rw [if_neg e, if_pos (by omega), if_neg (by omega), getD_over (L := quoL p vs c) (i := k) (by omega), md_self, Nat.zero_mul, Nat.add_zero, show (quoL p vs c).length - 1 = k - 1 by omega]
  have hvk : vs.getD k 0 < p := getD_lt h0 hv k
  have hlen : k < max (mulL p (quoL p vs c) [m, 1]).length [pv vs c % p].length := by
    by_cases h : (quoL p vs c).length = 0
    · simp only [List.length_cons, List.length_nil]; omega
    · unfold mulL
      rw [if_neg (by simp only [List.length_cons, List.length_nil]; omega), mulAll_length]
      simp only [List.length_cons, List.length_nil]; omega
  unfold sumL
  rw [List.getElem?_map, List.getElem?_range hlen]
  simp only [Option.map_some, Option.some.injEq]
  have hd := drop_cons vs hk
  have key : ((mulL p (quoL p vs c) [m, 1]).getD k 0 + [pv vs c % p].getD k 0) % p = vs.getD k 0 % p := by
    have h1 : ((if k = 0 then 0 else (quoL p vs c).getD (k - 1) 0) + [pv vs c % p].getD k 0) % p = pv (vs.drop k) c % p := by
      by_cases e : k = 0
      · subst e; rw [if_pos rfl, Nat.zero_add]; exact md_self _ _
      · rw [if_neg e, getD_over (L := [pv vs c % p]) (by simp; omega), Nat.add_zero, hqd, show k - 1 + 1 = k by omega]
    have h2 : ((mulL p (quoL p vs c) [m, 1]).getD k 0 + [pv vs c % p].getD k 0) % p = (pv (vs.drop k) c + pv (vs.drop (k + 1)) c * m) % p := by
      rw [md_add hmd (rfl : [pv vs c % p].getD k 0 % p = _), Nat.add_right_comm]
      exact md_add h1 (md_mul (hqd k) rfl)
    rw [h2, hd]
    simp only [pv]
    have h3 : vs.getD k 0 + c * pv (vs.drop (k + 1)) c + pv (vs.drop (k + 1)) c * m = vs.getD k 0 + pv (vs.drop (k + 1)) c * (m + c) := by
      rw [Nat.mul_add, Nat.mul_comm c]; omega
    rw [h3]
    have h4 : pv (vs.drop (k + 1)) c * (m + c) % p = 0 := by rw [Nat.mul_mod, hmc, Nat.mul_zero, Nat.zero_mod]
    rw [md_add rfl (h4.trans (Nat.zero_mod p).symm), Nat.add_zero]
  rw [key, Nat.mod_eq_of_lt hvk]
end Go.Proofs.YtiemajbcmmbjbaaDoor
