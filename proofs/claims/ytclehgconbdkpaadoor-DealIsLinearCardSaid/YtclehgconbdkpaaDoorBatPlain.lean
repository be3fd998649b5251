/-
  What Batch's two loops have computed when they have visited a list of indices, as plain numbers. No condition.
-/
import Derived.Test.YtclehgconbdkpaaDoorPowPlain
import Derived.Test.YtclehgconbdkpaaDoorElems
namespace Go.Proofs.YtclehgconbdkpaaDoor

theorem snoc_ind {α : Type} {P : List α → Prop} (h0 : P []) (h1 : ∀ l x, P l → P (l ++ [x])) (l : List α) : P l := by
  rw [← List.reverse_reverse l]
  induction l.reverse with
  | nil => exact h0
  | cons x r ih => rw [List.reverse_cons]; exact h1 _ _ ih
/-- The first loop: the product so far, and the list of the products before. -/
def bat1 (p : Nat) (vs : List Nat) (pre : List Nat) : Nat × List Nat :=
  pre.foldl (fun s x => (s.1 * facV (vs.getD (x % vs.length) 0) % p, s.2.set (x % vs.length) s.1)) (1, List.replicate vs.length 0)
theorem bat1_snoc (p : Nat) (vs pre : List Nat) (x : Nat) : bat1 p vs (pre ++ [x]) = ((bat1 p vs pre).1 * facV (vs.getD (x % vs.length) 0) % p, (bat1 p vs pre).2.set (x % vs.length) (bat1 p vs pre).1) := by
  unfold bat1; rw [List.foldl_append]; rfl
theorem bat1_length (p : Nat) (vs : List Nat) : ∀ pre : List Nat, (bat1 p vs pre).2.length = vs.length := by
  refine snoc_ind (by simp [bat1]) (fun pre x ih => ?_)
  rw [bat1_snoc]; simp [ih]
theorem bat1_lt {p : Nat} (h1 : 1 < p) (vs : List Nat) : ∀ pre : List Nat, (bat1 p vs pre).1 < p := by
  refine snoc_ind h1 (fun pre x ih => ?_)
  rw [bat1_snoc]; exact Nat.mod_lt _ (by omega)
theorem bat1_range (p : Nat) (vs : List Nat) : ∀ k, k ≤ vs.length → bat1 p vs (List.range k) = (prdV p vs k, (List.range vs.length).map (fun j => if j < k then prdV p vs j else 0))
  | 0, _ => by simp [bat1, prdV, List.map_const']
  | k + 1, hk => by
    have hm : k % vs.length = k := Nat.mod_eq_of_lt (by omega)
    rw [List.range_succ, bat1_snoc, bat1_range p vs k (by omega), hm]
    refine Prod.ext (by simp only [prdV]) ?_
    apply List.ext_getElem?
    intro j
    by_cases hj : j = k
    · subst hj
      rw [List.getElem?_set_self (by simp; omega), List.getElem?_map, List.getElem?_range (by omega)]
      simp
    · rw [List.getElem?_set_ne (fun e => hj e.symm), List.getElem?_map, List.getElem?_map]
      by_cases hj2 : j < vs.length
      · rw [List.getElem?_range hj2]
        simp only [Option.map_some, Option.some.injEq]
        by_cases h1 : j < k
        · rw [if_pos h1, if_pos (by omega)]
        · rw [if_neg h1, if_neg (by omega)]
      · rw [List.getElem?_eq_none (by simp; omega)]; rfl

/-- The second loop: the rest so far, and the list, whose last entries are the inverses. -/
def bat2 (p : Nat) (vs : List Nat) (pre : List Nat) : Nat × List Nat :=
  pre.foldl (fun s x => (s.1 * facV (vs.getD (vs.length - 1 - x) 0) % p, s.2.set (vs.length - 1 - x) (if vs.getD (vs.length - 1 - x) 0 = 0 then 0 else s.2.getD (vs.length - 1 - x) 0 * s.1 % p))) (rstV p vs 0, (List.range vs.length).map (prdV p vs))
theorem bat2_snoc (p : Nat) (vs pre : List Nat) (x : Nat) : bat2 p vs (pre ++ [x]) = ((bat2 p vs pre).1 * facV (vs.getD (vs.length - 1 - x) 0) % p, (bat2 p vs pre).2.set (vs.length - 1 - x) (if vs.getD (vs.length - 1 - x) 0 = 0 then 0 else (bat2 p vs pre).2.getD (vs.length - 1 - x) 0 * (bat2 p vs pre).1 % p)) := by
  unfold bat2; rw [List.foldl_append]; rfl
theorem bat2_length (p : Nat) (vs : List Nat) : ∀ pre : List Nat, (bat2 p vs pre).2.length = vs.length := by
  refine snoc_ind (by simp [bat2]) (fun pre x ih => ?_)
  rw [bat2_snoc]; simp [ih]
theorem bat2_range (p : Nat) (vs : List Nat) : ∀ k, k ≤ vs.length → bat2 p vs (List.range k) = (rstV p vs k, (List.range vs.length).map (fun j => if vs.length - 1 - j < k then batV p vs j else prdV p vs j))
  | 0, _ => by simp [bat2]
  | k + 1, hk => by
    rw [List.range_succ, bat2_snoc, bat2_range p vs k (by omega)]
    refine Prod.ext (by simp only [rstV]) ?_
    apply List.ext_getElem?
    intro j
    by_cases hj : j = vs.length - 1 - k
    · subst hj
      have e : vs.length - 1 - (vs.length - 1 - k) = k := by omega
      rw [List.getElem?_set_self (by simp; omega), List.getElem?_map, List.getElem?_range (by omega)]
      have e3 : ((List.range vs.length).map (fun j => if vs.length - 1 - j < k then batV p vs j else prdV p vs j)).getD (vs.length - 1 - k) 0 = prdV p vs (vs.length - 1 - k) := by
        rw [List.getD_eq_getElem?_getD, List.getElem?_map, List.getElem?_range (by omega)]
        simp only [Option.map_some, Option.getD_some, e]
        rw [if_neg (Nat.lt_irrefl k)]
      rw [e3]
      simp only [Option.map_some, Option.some.injEq, e]
      rw [if_pos (Nat.lt_succ_self k)]
      unfold batV
      rw [e]
    · rw [List.getElem?_set_ne (fun e => hj e.symm), List.getElem?_map, List.getElem?_map]
      by_cases hj2 : j < vs.length
      · rw [List.getElem?_range hj2]
        simp only [Option.map_some, Option.some.injEq]
        by_cases h1 : vs.length - 1 - j < k
        · rw [if_pos h1, if_pos (by omega)]
        · rw [if_neg h1, if_neg (by omega)]
      · rw [List.getElem?_eq_none (by simp; omega)]; rfl
/-- The list of the inverses. -/
def batL (p : Nat) (vs : List Nat) : List Nat := (List.range vs.length).map (batV p vs)
theorem batL_length (p : Nat) (vs : List Nat) : (batL p vs).length = vs.length := by simp [batL]
theorem batL_get {p : Nat} {vs : List Nat} {j : Nat} (hj : j < vs.length) : (batL p vs)[j]? = some (batV p vs j) := by
  unfold batL; rw [List.getElem?_map, List.getElem?_range hj]; rfl
theorem bat1_done (p : Nat) (vs : List Nat) : bat1 p vs (List.range vs.length) = (prdV p vs vs.length, (List.range vs.length).map (prdV p vs)) := by
  rw [bat1_range p vs _ (Nat.le_refl _)]
  refine Prod.ext rfl ?_
  apply List.map_congr_left
  intro j hj
  rw [if_pos (List.mem_range.1 hj)]
theorem bat2_done (p : Nat) (vs : List Nat) : bat2 p vs (List.range vs.length) = (rstV p vs vs.length, batL p vs) := by
  rw [bat2_range p vs _ (Nat.le_refl _)]
  refine Prod.ext rfl ?_
  apply List.map_congr_left
  intro j hj
  have := List.mem_range.1 hj
  rw [if_pos (by omega)]
/-- The events of the two loops. -/
def coefU (n : Nat) (pre : List Nat) : List Ev := pre.map (fun x : Nat => ((2 : Int), ((x % n : Nat) : Int), (0 : Int)))
def coefD (n : Nat) (pre : List Nat) : List Ev := pre.map (fun x : Nat => ((2 : Int), ((n - 1 - x : Nat) : Int), (0 : Int)))
theorem coefU_snoc (n : Nat) (pre : List Nat) (x : Nat) : coefU n (pre ++ [x]) = coefU n pre ++ [((2 : Int), ((x % n : Nat) : Int), (0 : Int))] := by simp [coefU]
theorem coefD_snoc (n : Nat) (pre : List Nat) (x : Nat) : coefD n (pre ++ [x]) = coefD n pre ++ [((2 : Int), ((n - 1 - x : Nat) : Int), (0 : Int))] := by simp [coefD]
theorem coefU_length (n : Nat) (pre : List Nat) : (coefU n pre).length = pre.length := by simp [coefU]
theorem coefD_length (n : Nat) (pre : List Nat) : (coefD n pre).length = pre.length := by simp [coefD]
end Go.Proofs.YtclehgconbdkpaaDoor
