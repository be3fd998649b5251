/-
  Lists of shares in plain terms: the errors of CheckShares, columns. Plain facts.
-/
import Derived.Test.YtmokaikofcbboaaDoorParPlain
namespace Go.Proofs.YtmokaikofcbboaaDoor
/-- The error of the first share that has one. -/
def firstE : List Sh → Nat
  | [] => 0
  | s :: t => if shN s = 0 then firstE t else shN s
theorem firstE_append : ∀ (l t : List Sh), firstE l = 0 → firstE (l ++ t) = firstE t
  | [], _, _ => rfl
  | s :: l, t, h => by
    unfold firstE at h
    by_cases hs : shN s = 0
    · rw [if_pos hs] at h
      show (if shN s = 0 then firstE (l ++ t) else shN s) = firstE t
      rw [if_pos hs]
      exact firstE_append l t h
    · rw [if_neg hs] at h
      exact absurd h hs
theorem firstE_zero : ∀ {l : List Sh}, firstE l = 0 ↔ ∀ s ∈ l, shN s = 0
  | [] => by simp [firstE]
  | s :: t => by
    unfold firstE
    by_cases hs : shN s = 0
    · rw [if_pos hs, firstE_zero]; simp [hs]
    · rw [if_neg hs]; simp [hs]
theorem firstE_cut {l : List Sh} {m : Nat} {s : Sh} (h : firstE (l.take m) = 0) (hx : l[m]? = some s) : firstE (l.take (m + 1)) = shN s ∧ (shN s ≠ 0 → firstE l = shN s) := by
  have e : firstE [s] = shN s := by unfold firstE; split <;> simp_all [firstE]
  constructor
  · rw [List.take_add_one, hx, firstE_append _ _ h]; exact e
  · intro hs
    have h2 : l = l.take m ++ (s :: l.drop (m + 1)) := by
      rw [← List.take_append_drop m l] 
      have hlt := (List.getElem?_eq_some_iff.1 hx).1
      have hv := (List.getElem?_eq_some_iff.1 hx).2
      rw [List.take_append_drop, ← hv, ← List.drop_eq_getElem_cons hlt, List.take_append_drop]
    rw [h2, firstE_append _ _ h]
    show (if shN s = 0 then _ else shN s) = shN s
    rw [if_neg hs]
/-- Two shares have the same header. -/
def SameH (a b : Sh) : Prop := a.fd = b.fd ∧ a.th = b.th ∧ a.ln = b.ln
instance (a b : Sh) : Decidable (SameH a b) := inferInstanceAs (Decidable (_ ∧ _ ∧ _))
def OneH (l : List Sh) : Prop := ∀ s ∈ l, ∀ t ∈ l, SameH s t
instance (l : List Sh) : Decidable (OneH l) := inferInstanceAs (Decidable (∀ s ∈ l, ∀ t ∈ l, SameH s t))
def ixs (l : List Sh) : List Int := l.map Sh.ix
/-- CheckShares. -/
def shsN (l : List Sh) : Nat := if firstE l ≠ 0 then firstE l else if ¬ OneH l then 14 else if ¬ (ixs l).Nodup then 15 else if l = [] ∨ ∃ s ∈ l, (l.length : Int) < s.th then 16 else 0
theorem oneH_of {l : List Sh} {s0 : Sh} (h0 : l[0]? = some s0) : OneH l ↔ ∀ (j : Nat) (s : Sh), l[j]? = some s → SameH s s0 := by
  constructor
  · intro h j s hj
    exact h s (List.mem_of_getElem? hj) s0 (List.mem_of_getElem? h0)
  · intro h s hs t ht
    obtain ⟨j, hj⟩ := List.getElem?_of_mem hs
    obtain ⟨k, hk⟩ := List.getElem?_of_mem ht
    have h1 := h j s hj
    have h2 := h k t hk
    exact ⟨h1.1.trans h2.1.symm, h1.2.1.trans h2.2.1.symm, h1.2.2.trans h2.2.2.symm⟩
theorem nodup_ix {l : List Sh} : (ixs l).Nodup ↔ ∀ (j k : Nat) (s t : Sh), k < j → l[j]? = some s → l[k]? = some t → s.ix ≠ t.ix := by
  unfold ixs
  rw [List.nodup_iff_pairwise_ne, List.pairwise_iff_getElem]
  constructor
  · intro h j k s t hkj hj hk e
    obtain ⟨hj1, hj2⟩ := List.getElem?_eq_some_iff.1 hj
    obtain ⟨hk1, hk2⟩ := List.getElem?_eq_some_iff.1 hk
    refine h k j (by simpa using hk1) (by simpa using hj1) hkj ?_
    simp [hj2, hk2, e]
  · intro h i j hi hj hij e
    have hi' : i < l.length := by simpa using hi
    have hj' : j < l.length := by simpa using hj
    refine h j i l[j] l[i] hij (List.getElem?_eq_getElem hj') (List.getElem?_eq_getElem hi') ?_
    simpa using e.symm
theorem shsN_err {l : List Sh} {e : Nat} (h : firstE l = e) (h0 : e ≠ 0) : shsN l = e := by
  unfold shsN; rw [if_pos (by rw [h]; exact h0), h]
theorem shsN_mix {l : List Sh} (h : firstE l = 0) (h1 : ¬ OneH l) : shsN l = 14 := by
  unfold shsN; rw [if_neg (fun c => c h), if_pos h1]
theorem shsN_dup {l : List Sh} (h : firstE l = 0) (h1 : OneH l) (h2 : ¬ (ixs l).Nodup) : shsN l = 15 := by
  unfold shsN; rw [if_neg (fun c => c h), if_neg (fun c => c h1), if_pos h2]
theorem shsN_nil : shsN [] = 16 := by
  unfold shsN
  rw [if_neg (by simp [firstE]), if_neg (by simp [OneH]), if_neg (by simp [ixs]), if_pos (.inl rfl)]
theorem shsN_end {l : List Sh} {s0 : Sh} (h : firstE l = 0) (h1 : OneH l) (h2 : (ixs l).Nodup) (h0 : l[0]? = some s0) : shsN l = if (l.length : Int) < s0.th then 16 else 0 := by
  unfold shsN; rw [if_neg (fun c => c h), if_neg (fun c => c h1), if_neg (fun c => c h2)]
  have hm := List.mem_of_getElem? h0
  by_cases hl : (l.length : Int) < s0.th
  · rw [if_pos (.inr ⟨s0, hm, hl⟩), if_pos hl]
  · rw [if_neg, if_neg hl]
    rintro (hn | ⟨s, hs, hlt⟩)
    · subst hn; simp at hm
    · exact hl ((h1 s hs s0 hm).2.1 ▸ hlt)
/-- Column: the numbers of the elements. -/
def colN (l : List Sh) (c : Int) : List Nat := l.map fun s => if 0 ≤ c then s.pl.getD c.toNat 0 else 0
theorem colN_length (l : List Sh) (c : Int) : (colN l c).length = l.length := by simp [colN]
end Go.Proofs.YtmokaikofcbboaaDoor
