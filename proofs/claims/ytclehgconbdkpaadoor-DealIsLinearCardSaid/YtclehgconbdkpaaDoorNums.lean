/-
  Blocks that hold numbers of four words, one behind the other. Plain facts on worlds; no condition.
-/
import Derived.Test.YtclehgconbdkpaaDoorLimbOps
import Derived.Test.YtclehgconbdkpaaDoorInvAll
namespace Go.Proofs.YtclehgconbdkpaaDoor

/-- The words of a list of numbers. -/
def flat4 : List Nat → List Value
  | [] => []
  | x :: r => .int .u64 (wd x 0 : Int) :: .int .u64 (wd x 1 : Int) :: .int .u64 (wd x 2 : Int) :: .int .u64 (wd x 3 : Int) :: flat4 r
/-- The words of one. -/
abbrev words4 (x : Nat) : List Value := [.int .u64 (wd x 0 : Int), .int .u64 (wd x 1 : Int), .int .u64 (wd x 2 : Int), .int .u64 (wd x 3 : Int)]
theorem flat4_cons (x : Nat) (r : List Nat) : flat4 (x :: r) = words4 x ++ flat4 r := rfl
theorem flat4_length : ∀ l : List Nat, (flat4 l).length = l.length * 4
  | [] => rfl
  | _ :: r => by simp only [flat4, List.length_cons, flat4_length r]; omega
theorem flat4_append : ∀ l m : List Nat, flat4 (l ++ m) = flat4 l ++ flat4 m
  | [], _ => rfl
  | x :: r, m => by simp only [List.cons_append, flat4, flat4_append r m]
theorem flat4_get : ∀ (l : List Nat) (j x : Nat), l[j]? = some x → (flat4 l)[j * 4]? = some (.int .u64 (wd x 0 : Int)) ∧ (flat4 l)[j * 4 + 1]? = some (.int .u64 (wd x 1 : Int)) ∧ (flat4 l)[j * 4 + 2]? = some (.int .u64 (wd x 2 : Int)) ∧ (flat4 l)[j * 4 + 3]? = some (.int .u64 (wd x 3 : Int))
  | [], j, x, h => by simp at h
  | y :: r, 0, x, h => by simp at h; subst h; exact ⟨rfl, rfl, rfl, rfl⟩
  | y :: r, j + 1, x, h => by
    have h' := flat4_get r j x (by simpa using h)
    have e : (j + 1) * 4 = j * 4 + 1 + 1 + 1 + 1 := by omega
    simp only [e, flat4, List.getElem?_cons_succ, Nat.add_assoc, Nat.reduceAdd] at h' ⊢
    exact h'
theorem flat4_zero (n : Nat) : flat4 (List.replicate n 0) = List.replicate (n * 4) (.int .u64 0) := by
  induction n with
  | zero => rfl
  | succ n ih =>
    rw [List.replicate_succ, flat4, ih, show (n + 1) * 4 = n * 4 + 1 + 1 + 1 + 1 by omega]
    simp only [List.replicate_succ]
    have z : ∀ i, wd 0 i = 0 := fun i => by unfold wd dg; simp
    simp only [z]
    rfl
theorem flat4_set (l : List Nat) (j v : Nat) (hj : j < l.length) : ∃ pre mid post : List Value, flat4 l = pre ++ mid ++ post ∧ pre.length = j * 4 ∧ mid.length = 4 ∧ flat4 (l.set j v) = pre ++ words4 v ++ post := by
  induction l generalizing j with
  | nil => simp at hj
  | cons y r ih =>
    cases j with
    | zero => exact ⟨[], words4 y, flat4 r, rfl, rfl, rfl, rfl⟩
    | succ j =>
      obtain ⟨pre, mid, post, h1, h2, h3, h4⟩ := ih j (by simpa using hj)
      refine ⟨words4 y ++ pre, mid, post, ?_, ?_, h3, ?_⟩
      · rw [flat4_cons, h1]; simp
      · simp [h2]; omega
      · rw [List.set_cons_succ, flat4_cons, h4]; simp

/-- The block b holds the numbers xs. -/
def NumsAt (w : World) (b : Nat) (T : TypeId) (xs : List Nat) : Prop := w.heap[b]? = some (.cells (flat4 xs).toArray T (0, 0))
theorem NumsAt.cell {w : World} {b : Nat} {T : TypeId} {xs : List Nat} (h : NumsAt w b T xs) {j x : Nat} (hj : xs[j]? = some x) :
    w.cell? ⟨b, j * 4, none⟩ = some (.int .u64 (wd x 0 : Int)) ∧ w.cell? ⟨b, j * 4 + 1, none⟩ = some (.int .u64 (wd x 1 : Int)) ∧ w.cell? ⟨b, j * 4 + 2, none⟩ = some (.int .u64 (wd x 2 : Int)) ∧ w.cell? ⟨b, j * 4 + 3, none⟩ = some (.int .u64 (wd x 3 : Int)) := by
  obtain ⟨h0, h1, h2, h3⟩ := flat4_get xs j x hj
  refine ⟨?_, ?_, ?_, ?_⟩ <;> rw [cell_of_heap h, List.getElem?_toArray] <;> assumption
theorem NumsAt.lt {w : World} {b : Nat} {T : TypeId} {xs : List Nat} (h : NumsAt w b T xs) : b < w.heap.size := heap_lt h
theorem NumsAt.off {w w' : World} {b : Nat} {T : TypeId} {xs : List Nat} {S : Nat → Prop} (h : NumsAt w b T xs) (ho : Off S w w') (hb : ¬ S b) : NumsAt w' b T xs := ho.heap h hb
theorem NumsAt.frozen {w : World} {b : Nat} {T : TypeId} {xs : List Nat} (h : NumsAt w b T xs) (j : Nat) : w.frozen? ⟨b, j, none⟩ = false := frozen_of_heap h j
/-- A row of stores in the midst of a block. -/
theorem setCells_mid {b : Nat} {T : TypeId} : ∀ (vs pre mid post : List Value) (w : World) (o : Nat), pre.length = o → mid.length = vs.length → w.heap[b]? = some (.cells (pre ++ mid ++ post).toArray T (0, 0)) →
    (w.setCells b o vs).heap[b]? = some (.cells (pre ++ vs ++ post).toArray T (0, 0))
  | [], pre, mid, post, w, o, _, hm, h => by
    have : mid = [] := List.eq_nil_of_length_eq_zero hm
    subst this; exact h
  | v :: vs, pre, [], post, w, o, _, hm, _ => by simp at hm
  | v :: vs, pre, x :: mid, post, w, o, ho, hm, h => by
    have h1 := heap_set h o v
    have e : (pre ++ x :: mid ++ post).toArray.setIfInBounds o v = ((pre ++ [v]) ++ mid ++ post).toArray := by
      subst ho
      apply Array.ext'
      simp
    rw [e] at h1
    have := setCells_mid vs (pre ++ [v]) mid post _ (o + 1) (by simp [ho]) (by simpa using hm) h1
    have e2 : (pre ++ [v]) ++ vs ++ post = pre ++ v :: vs ++ post := by simp
    rw [e2] at this
    exact this
theorem NumsAt.store {w : World} {b : Nat} {T : TypeId} {xs : List Nat} (h : NumsAt w b T xs) {j : Nat} (hj : j < xs.length) (v : Nat) : NumsAt (w.setCells b (j * 4) (words4 v)) b T (xs.set j v) := by
  obtain ⟨pre, mid, post, h1, h2, h3, h4⟩ := flat4_set xs j v hj
  unfold NumsAt at h ⊢
  rw [h1] at h
  rw [h4]
  exact setCells_mid (words4 v) pre mid post w (j * 4) h2 (by rw [h3]; rfl) h
theorem setCells_far_at {b c o : Nat} {w : World} {vs : List Value} {x : Obj} (hne : c ≠ b) (h : w.heap[c]? = some x) : (w.setCells b o vs).heap[c]? = some x := (setCells_off b vs o w).heap h hne
theorem setCells_in_at {S : Nat → Prop} {a u : World} {b o : Nat} (h : Off S a u) (hb : b < a.heap.size → S b) (vs : List Value) : Off S a (u.setCells b o vs) :=
  h.trans (setCells_off b vs o u) (fun _ hk e => by subst e; exact hb hk)
end Go.Proofs.YtclehgconbdkpaaDoor
