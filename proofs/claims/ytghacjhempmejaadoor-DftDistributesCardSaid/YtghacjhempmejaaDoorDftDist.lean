/-
  Three rows of ints of the call's own that grow together; the products of a list with two lists and with their sum. Condition: the rows are short.
-/
import Derived.Test.YtghacjhempmejaaDoorDftApp
import Derived.Test.YtghacjhempmejaaDoorDftAlg
import Derived.Test.YtghacjhempmejaaDoorDftAlive
import Derived.Test.YtghacjhempmejaaDoorI16Pair
namespace Go.Proofs.YtghacjhempmejaaDoor
open Go.RowKit
set_option linter.unusedVariables false
theorem app_one_int {w W : World} {v u t : Value} {xs ys zs : List Int} (hO : Off (fun _ => False) w W) (h1 : RowI w.heap.size W v xs) (h2 : RowI w.heap.size W u ys) (h3 : RowI w.heap.size W t zs) (ha2 : ∀ b, v.ownBlock = some b → u.ownBlock ≠ some b) (ha3 : ∀ b, v.ownBlock = some b → t.ownBlock ≠ some b) (hk : xs.length ≤ 900) (a : Addr) (z : Int) (hz : W.cell? a = some (.int .i64 z)) :
    ∃ v' w', (Builtin.append_ #[22, 22] 22 #[v, .slice (some a) 1 1]).run Tryd.prog W = .ok v' w' ∧ RowI w.heap.size w' v' (xs ++ [z]) ∧ RowI w.heap.size w' u ys ∧ RowI w.heap.size w' t zs ∧ (∀ b, v'.ownBlock = some b → u.ownBlock ≠ some b) ∧ (∀ b, v'.ownBlock = some b → t.ownBlock ≠ some b) ∧ Off (fun _ => False) w w' := by
  obtain ⟨i0, hi, hz0, hz1, hz2⟩ := info_parts int_info'
  obtain ⟨v', w', hr, ho, hg, _, hb⟩ := run_append_own_at (P := Tryd.prog) W w.heap.size 22 22 3 i0 _ 1 8 Tryd.underlying22 hi hz0 hz1 hz2 rfl (by decide) v xs.length _ h1 a 1 1 [.int .i64 z] rfl (fun j y hj => by
    cases j with
    | zero => simp at hj; subst hj; simpa [Addr.add] using hz
    | succ j => simp at hj) (by simp [Value.oneCell']) (by unfold maxLen; omega) (by omega) hO.size
  have apart : ∀ (s : Value), (∀ b, v.ownBlock = some b → s.ownBlock ≠ some b) → s.ownBlock = none ∨ s.ownBlock ≠ v.ownBlock := fun s hs => by
    cases hv : v.ownBlock with
    | none =>
      cases hu : s.ownBlock with
      | none => exact .inl rfl
      | some c => exact .inr (fun e => by cases e)
    | some b => exact .inr (hs b hv)
  have still : ∀ (s : Value) (l : List Int), RowI w.heap.size W s l → (∀ b, v.ownBlock = some b → s.ownBlock ≠ some b) → ∀ b, v'.ownBlock = some b → s.ownBlock ≠ some b := fun s l hl hs b hb1 hb2 => by
    rcases hb with e | e
    · exact hs b (e ▸ hb1) hb2
    · have e3 := e.symm.trans hb1
      have := (World.ownsRow.lt hl b hb2).2
      simp at e3
      omega
  refine ⟨v', w', hr, ?_, World.ownsRow.kept h2 hg (apart u ha2), World.ownsRow.kept h3 hg (apart t ha3), still u ys h2 ha2, still t zs h3 ha3, app_int_off hO h1 hg⟩
  unfold RowI
  rw [List.map_append, List.length_append]
  exact ho
theorem RowI.alloc {B : Nat} {W : World} {v : Value} {xs : List Int} (h : RowI B W v xs) (o : Obj) : RowI B (W.alloc o) v xs := World.ownsRow.alloc h o
theorem RowI.drew {B : Nat} {W : World} {v : Value} {xs : List Int} (h : RowI B W v xs) : RowI B W.drew v xs := h
/-- The statement's lists: remainders by 500, and their sums. -/
def d500 (ps : List Int) (j : Nat) : Int := (ps.getD j 0).tmod 500
def dL (ps : List Int) (k : Nat) : List Int := (List.range k).map (d500 ps)
def dS (ps qs : List Int) (k : Nat) : List Int := (List.range k).map (fun j => d500 ps j + d500 qs j)
theorem dL_next (ps : List Int) (k : Nat) : dL ps k ++ [d500 ps k] = dL ps (k + 1) := by unfold dL; rw [List.range_succ, List.map_append]; rfl
theorem dS_next (ps qs : List Int) (k : Nat) : dS ps qs k ++ [d500 ps k + d500 qs k] = dS ps qs (k + 1) := by unfold dS; rw [List.range_succ, List.map_append]; rfl
theorem dL_len (ps : List Int) (k : Nat) : (dL ps k).length = k := by unfold dL; simp
theorem dS_len (ps qs : List Int) (k : Nat) : (dS ps qs k).length = k := by unfold dS; simp
theorem d500_abs (ps : List Int) (j : Nat) : (d500 ps j).natAbs ≤ 499 := by
  unfold d500
  rw [Int.natAbs_tmod]
  have := Nat.mod_lt (ps.getD j 0).natAbs (show 0 < (500 : Int).natAbs by decide)
  have h7 : (500 : Int).natAbs = 500 := rfl
  omega
theorem dL_small (ps : List Int) (k : Nat) : ∀ x ∈ dL ps k, -1000 ≤ x ∧ x ≤ 1000 := fun x hx => by
  unfold dL at hx
  obtain ⟨j, _, rfl⟩ := List.mem_map.1 hx
  have := d500_abs ps j
  omega
theorem dS_small (ps qs : List Int) (k : Nat) : ∀ x ∈ dS ps qs k, -1000 ≤ x ∧ x ≤ 1000 := fun x hx => by
  unfold dS at hx
  obtain ⟨j, _, rfl⟩ := List.mem_map.1 hx
  have := d500_abs ps j
  have := d500_abs qs j
  omega
theorem small_wf {l : List Int} (h : ∀ x ∈ l, -1000 ≤ x ∧ x ≤ 1000) : ∀ x ∈ l, (Lit.int .i64 x).wf = true := fun x hx => by
  have := h x hx
  exact wf_i64 (by omega) (by omega)
def errA (a : List Int) : Int := if 64 < a.length then 8 else if oobC a = true then 19 else 0
theorem mulE_is (a b : List Int) (h1 : b.length ≤ 64) (h2 : ∀ x ∈ b, -1000 ≤ x ∧ x ≤ 1000) : mulE a b = errA a := by
  unfold mulE errA
  by_cases c : 64 < a.length
  · rw [if_pos (.inl c), if_pos c]
  · rw [if_neg (show ¬ (64 < a.length ∨ 64 < b.length) by omega), if_neg c]
    by_cases d : oobC a = true
    · rw [if_pos (.inl d), if_pos d]
    · rw [if_neg (fun h => h.elim d (fun h => by rw [oob_no h2] at h; cases h)), if_neg d]
def lenA (a : List Int) : Nat := if errA a ≠ 0 ∨ a.length = 0 then 0 else a.length + 7
theorem mulP_len (a b : List Int) (h1 : b.length = 8) (h2 : ∀ x ∈ b, -1000 ≤ x ∧ x ≤ 1000) : (mulP a b).length = lenA a := by
  unfold mulP lenA
  rw [mulE_is a b (by omega) h2, h1]
  by_cases c : errA a ≠ 0 ∨ a.length = 0
  · rw [if_pos (c.elim .inl (fun h => .inr (.inl h))), if_pos c]; rfl
  · rw [if_neg (fun h => c (h.elim .inl (fun h => h.elim .inr (fun h => by omega)))), if_neg c]
    unfold cvL
    simp
    omega
theorem lenA_le (a : List Int) : lenA a ≤ 71 := by
  unfold lenA
  by_cases d : errA a ≠ 0 ∨ a.length = 0
  · rw [if_pos d]; omega
  · rw [if_neg d]
    by_cases c : 64 < a.length
    · exact absurd (.inl (by unfold errA; rw [if_pos c]; decide)) d
    · omega
/-- The elements of the products, and their bounds. -/
theorem mulP_add (a ps qs : List Int) (j : Nat) (hj : j < lenA a) : ∃ x y, (mulP a (dL ps 8))[j]? = some x ∧ (mulP a (dL qs 8))[j]? = some y ∧ (mulP a (dS ps qs 8))[j]? = some (x + y) ∧ x.natAbs ≤ 1000000000 ∧ y.natAbs ≤ 1000000000 := by
  have hc : ¬ (errA a ≠ 0 ∨ a.length = 0) := fun c => by unfold lenA at hj; rw [if_pos c] at hj; omega
  have hlen : lenA a = a.length + 7 := by unfold lenA; rw [if_neg hc]
  have e0 : errA a = 0 := Classical.byContradiction (fun h => hc (.inl h))
  have hl64 : a.length ≤ 64 := by
    unfold errA at e0
    by_cases c : 64 < a.length
    · rw [if_pos c] at e0; cases e0
    · omega
  have hoob : oobC a = false := by
    unfold errA at e0
    rw [if_neg (by omega)] at e0
    cases h : oobC a with
    | false => rfl
    | true => rw [h, if_pos rfl] at e0; cases e0
  have hP : ∀ b : List Int, b.length = 8 → (∀ x ∈ b, -1000 ≤ x ∧ x ≤ 1000) → (mulP a b)[j]? = some (cvS a b j a.length) := fun b h1 h2 => by
    unfold mulP
    rw [mulE_is a b (by omega) h2, h1, if_neg (fun h => hc (h.elim .inl (fun h => h.elim .inr (fun h => by omega))))]
    unfold cvL
    rw [List.getElem?_map, List.getElem?_range (by omega)]; rfl
  have ha := oob_all hoob
  have b1 := cvS_small ha (dL_small ps 8) j a.length
  have b2 := cvS_small ha (dL_small qs 8) j a.length
  refine ⟨_, _, hP _ (dL_len _ _) (dL_small ps 8), hP _ (dL_len _ _) (dL_small qs 8), ?_, by omega, by omega⟩
  rw [hP _ (dS_len _ _ _) (dS_small ps qs 8), cvS_add a (dL ps 8) (dL qs 8) (dS ps qs 8) (by rw [dL_len, dS_len]) (by rw [dL_len, dS_len]) (fun i => ?_)]
  by_cases hi : i < 8
  · unfold dS dL
    rw [List.getD_eq_getElem?_getD, List.getD_eq_getElem?_getD, List.getD_eq_getElem?_getD, List.getElem?_map, List.getElem?_map, List.getElem?_map, List.getElem?_range hi]; rfl
  · rw [getD_out (l := dS ps qs 8) (by rw [dS_len]; omega), getD_out (l := dL ps 8) (by rw [dL_len]; omega), getD_out (l := dL qs 8) (by rw [dL_len]; omega)]; rfl
end Go.Proofs.YtghacjhempmejaaDoor
