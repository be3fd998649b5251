/-
  A rule for a region that draws its order: what holds of the frame and the world whichever operations have been carried out, shown anew once an operation, holds at the end. Plain facts on the model's regions; no condition.
-/
import Derived.RegionTactic
import Derived.Deep.RegionHeld3
import Derived.WalkKit
namespace Go.Proofs.YtmokaikofcbboaaDoor

/-- The operations that have been carried out, and number i. -/
def upd (l : Nat → Bool) (i : Nat) : Nat → Bool := fun j => if j = i then true else l j
theorem upd_same (l : Nat → Bool) (i : Nat) : upd l i i = true := by simp [upd]
theorem upd_ne (l : Nat → Bool) {i j : Nat} (h : j ≠ i) : upd l i j = l j := by simp [upd, h]
def cnt (L : Array Bool) : Nat := L.toList.countP (fun b => !b)
theorem countP_set : ∀ (l : List Bool) (i : Nat), l[i]? = some false → (l.set i true).countP (fun b => !b) + 1 = l.countP (fun b => !b)
  | [], i, h => by simp at h
  | b :: l, 0, h => by
    simp at h; subst h
    simp
  | b :: l, i + 1, h => by
    have h' : l[i]? = some false := by simpa using h
    have := countP_set l i h'
    simp only [List.set_cons_succ, List.countP_cons]
    omega
theorem cnt_set {L : Array Bool} {i : Nat} (h : L.getD i true = false) : cnt (L.setIfInBounds i true) + 1 = cnt L := by
  have hi : L.toList[i]? = some false := by
    rw [Array.getD_eq_getD_getElem?] at h
    cases hL : L[i]? with
    | none => simp [hL] at h
    | some b => simp [hL] at h; subst h; simpa using hL
  unfold cnt
  rw [Array.toList_setIfInBounds]
  exact countP_set _ _ hi

section
variable {P : Program} {ops : Array Oper} {Q : Exit → Act → World → Prop} {md : Region.Mode}

theorem wpAny_inv (I : (Nat → Bool) → Act → World → Prop)
    (step : ∀ (i : Nat) (o : Oper), ops[i]? = some o → ∀ l a w, I l a w → l i = false → (∀ e ∈ o.after, Region.binds md e = true → l e.on = true) → wpOp P ops Q i (fun a' w' => I (upd l i) a' w') a w)
    (hback : ∀ (i : Nat) (o : Oper), ops[i]? = some o → ∀ e ∈ o.after, Region.binds md e = true → e.on < i)
    (done : ∀ l a w, I l a w → (∀ i, i < ops.size → l i = true) → Q .normal a w) :
    ∀ (fuel : Nat) (L : Array Bool) (a : Act) (w : World), L.size = ops.size → cnt L ≤ fuel → I (fun j => L.getD j false) a w → wpAny P md ops Q fuel L a w := by
  have fin : ∀ (L : Array Bool) (a : Act) (w : World), L.size = ops.size → Region.ready md ops L = [] → I (fun j => L.getD j false) a w → Q .normal a w := by
    intro L a w hL hr hI
    refine done _ a w hI fun i => ?_
    induction i using Nat.strongRecOn with
    | _ i ih =>
      intro hi
      cases hb : L.getD i false with
      | true => rfl
      | false =>
        exfalso
        have hb2 : L.getD i true = false := by
          rw [Array.getD_eq_getD_getElem?] at hb ⊢
          cases hLi : L[i]? with
          | none => rw [Array.getElem?_eq_none_iff] at hLi; omega
          | some b => simpa [hLi] using hb
        have : i ∈ Region.ready md ops L := mem_ready.2 ⟨hb2, ops[i], by simp [hi], fun e he hb' => by
          have h1 := hback i ops[i] (by simp [hi]) e he hb'
          exact ih e.on h1 (by omega)⟩
        rw [hr] at this
        cases this
  intro fuel
  induction fuel with
  | zero =>
    intro L a w hL hc hI
    have hr : Region.ready md ops L = [] := by
      cases hq : Region.ready md ops L with
      | nil => rfl
      | cons i r =>
        have hi : i ∈ Region.ready md ops L := by rw [hq]; simp
        have := cnt_set (mem_ready.1 hi).1
        omega
    exact ⟨hr, fin L a w hL hr hI⟩
  | succ fuel ih =>
    intro L a w hL hc hI
    refine ⟨fun hr => fin L a w hL hr hI, fun i hi => ?_⟩
    obtain ⟨h1, o, ho, hdep⟩ := mem_ready.1 hi
    have hlt : i < L.size := by
      rcases Nat.lt_or_ge i L.size with h | h
      · exact h
      · rw [Array.getD_eq_getD_getElem?, Array.getElem?_eq_none h] at h1; cases h1
    have h2 : L.getD i false = false := by
      rw [Array.getD_eq_getD_getElem?] at h1 ⊢
      cases hLi : L[i]? with
      | none => rfl
      | some b => simpa [hLi] using h1
    refine wpOp_mono (fun a' w' h' => ih _ a' w' (by simpa using hL) (by have := cnt_set h1; omega) ?_) (step i o ho _ a w hI h2 hdep)
    have e : (fun j => (L.setIfInBounds i true).getD j false) = upd (fun j => L.getD j false) i := by
      funext j
      by_cases hj : j = i
      · subst hj
        rw [upd_same]
        rw [Array.getD_eq_getD_getElem?]
        simp [hlt]
      · rw [upd_ne _ hj]
        exact getD_set_ne false (fun e => hj e.symm)
    rw [e]; exact h'

/-- The operations that an operation waits for. -/
def depsOf (o : Oper) : List Nat := (o.after.toList.filter fun e => Region.binds .any e).map (·.on)
/-- What one operation owes. -/
def StepAt (P : Program) (ops : Array Oper) (Q : Exit → Act → World → Prop) (I : (Nat → Bool) → Act → World → Prop) (i : Nat) (o : Oper) : Prop :=
  ∀ l a w, I l a w → l i = false → (∀ d ∈ depsOf o, l d = true) → ∀ K' : Act → World → Prop, Shut (∀ a' w', I (upd l i) a' w' → K' a' w') → if Region.wanted o (yielded ops a.tmps) = true then Oper.wp P o a w K' Q else K' (a.put o.dst undef) w
/-- What the operations of a list owe, numbered from s on. -/
def StepsAt (P : Program) (ops : Array Oper) (Q : Exit → Act → World → Prop) (I : (Nat → Bool) → Act → World → Prop) : Nat → List Oper → Prop
  | _, [] => True
  | s, o :: r => StepAt P ops Q I s o ∧ StepsAt P ops Q I (s + 1) r
theorem StepsAt.get {I : (Nat → Bool) → Act → World → Prop} : ∀ {s : Nat} {r : List Oper} (_ : StepsAt P ops Q I s r) (k : Nat) (o : Oper), r[k]? = some o → StepAt P ops Q I (s + k) o
  | _, [], _, k, o, h => by simp at h
  | s, o' :: r, hs, 0, o, h => by simp at h; subst h; exact hs.1
  | s, o' :: r, hs, k + 1, o, h => by
    have := StepsAt.get hs.2 k o (by simpa using h)
    rw [show s + (k + 1) = s + 1 + k by omega]; exact this
def backB (ops : Array Oper) : Bool := (List.range ops.size).all fun i => ((ops[i]?).map fun o => o.after.all fun e => !Region.binds .any e || decide (e.on < i)).getD true
theorem back_of (h : backB ops = true) (i : Nat) (o : Oper) (ho : ops[i]? = some o) : ∀ e ∈ o.after, Region.binds .any e = true → e.on < i := by
  have hi : i < ops.size := (Array.getElem?_eq_some_iff.1 ho).1
  have := List.all_eq_true.1 h i (List.mem_range.2 hi)
  rw [ho] at this
  simp only [Option.map_some, Option.getD_some] at this
  intro e he hb
  have h2 := (Array.all_eq_true.1 this)
  obtain ⟨k, hk, rfl⟩ := Array.getElem_of_mem he
  have h3 := h2 k hk
  rw [hb] at h3
  simpa using h3
/-- A region that draws its order, by what holds whichever operations have been carried out. -/
theorem wp_region_inv {id : Nat} {a : Act} {w : World} (I : Act → (Nat → Bool) → Act → World → Prop) (hm : P.follows .mixedOrders = true) (hb : backB ops = true)
    (h0 : I a (fun _ => false) a w.drew) (hs : StepsAt P ops Q (I a) 0 ops.toList)
    (done : ∀ l a' w', I a l a' w' → (∀ i, i < ops.size → l i = true) → Q .normal a' w') : (Code.region id ops true).wp P Q a w := by
  refine wp_region_any hm (wpAny_inv (md := .any) (I a) ?_ (back_of hb) done ops.size _ a _ (by simp) (by simp [cnt, List.countP_replicate]) ?_)
  · intro i o ho l a w hI hl hd
    have h1 := StepsAt.get hs i o (by simpa using ho)
    rw [Nat.zero_add] at h1
    refine wpOp_step ho fun K' hK => ?_
    exact h1 l a w hI hl (fun d hd' => by
      obtain ⟨e, he, rfl⟩ := List.mem_map.1 hd'
      rw [List.mem_filter] at he
      exact hd e (by simpa using he.1) he.2) K' (fun a' w' h => hK a' w' h)
  · have e : (fun j => (Array.replicate ops.size false).getD j false) = (fun _ => false) := by
      funext j
      rw [Array.getD_eq_getD_getElem?, Array.getElem?_replicate]
      split <;> rfl
    rw [e]; exact h0
end
end Go.Proofs.YtmokaikofcbboaaDoor
