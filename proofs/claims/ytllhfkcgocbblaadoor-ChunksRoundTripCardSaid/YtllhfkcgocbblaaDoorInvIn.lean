/-
  The rule of a region that draws its order (by what holds whichever operations have been carried out), for the body of a range over a function. Plain facts on the model's regions; no condition.
-/
import Derived.Test.YtllhfkcgocbblaaDoorInv
import Derived.OrdersIn
import Derived.TacticsIn
import Derived.RangeFuncCalls
namespace Go.Proofs.YtllhfkcgocbblaaDoor

theorem rows_inRound {l n : Nat} {P : Program} {row : String} {args : Array Value} {w : World} {R : Value → World → Prop} (h : Rows P row args w R) : RowsIn (Fence.wide.inRound l) n P row args w R :=
  fun c cs _ => let ⟨v, w', r, s⟩ := h c cs; ⟨v, w', r, (stepsIn_wide).2 s⟩
/-- What an operation does in a round it does anywhere, a defer statement apart. -/
theorem oper_inRound {l n : Nat} {P : Program} {o : Oper} {a : Act} {w : World} {K : Act → World → Prop} {Q : Exit → Act → World → Prop} (hnd : ∀ c, o.op ≠ .defer c) (h : o.wp P a w K Q) :
    o.wpIn (Fence.wide.inRound l) n P a w K Q := by
  refine ⟨fun _ _ => trivial, ?_⟩
  rw [show o.semAt (Fence.wide.inRound l).round a.eval = execOp a.eval o from Oper.semAt_some l _ o hnd]
  unfold Oper.wp at h
  generalize (execOp a.eval o).run P w = r at *
  have hd : (Fence.wide.inRound l).depth.isSome = true → 1 ≤ n := fun c => by cases c
  cases r with
  | ok x w' =>
    cases x <;> simp only [Oper.upon, Oper.uponIn] at h ⊢ <;>
      first
        | exact h
        | exact ⟨hd, CallsIn.inRound l (callsIn_wide.2 h)⟩
        | exact ⟨hd, rows_inRound h⟩
        | exact h.elim
  | halt x w' => cases x <;> simp only [Oper.upon, Oper.uponIn] at h ⊢ <;> exact h
def noDefer (ops : Array Oper) : Bool := ops.toList.all fun o => match o.op with | .defer _ => false | _ => true
theorem noDefer_of {ops : Array Oper} (h : noDefer ops = true) {i : Nat} {o : Oper} (ho : ops[i]? = some o) : ∀ c, o.op ≠ .defer c := by
  intro c hc
  have h1 : o ∈ ops.toList := by
    obtain ⟨hi, rfl⟩ := Array.getElem?_eq_some_iff.1 ho
    simp
  have := List.all_eq_true.1 h o h1
  rw [hc] at this
  cases this

section
variable {P : Program} {ops : Array Oper} {Q : Exit → Act → World → Prop} {md : Region.Mode} {F : Fence} {n : Nat}
theorem wpAnyIn_inv (I : (Nat → Bool) → Act → World → Prop)
    (step : ∀ (i : Nat) (o : Oper), ops[i]? = some o → ∀ l a w, I l a w → l i = false → (∀ e ∈ o.after, Region.binds md e = true → l e.on = true) → wpOpIn F n P ops Q i (fun a' w' => I (upd l i) a' w') a w)
    (hback : ∀ (i : Nat) (o : Oper), ops[i]? = some o → ∀ e ∈ o.after, Region.binds md e = true → e.on < i)
    (done : ∀ l a w, I l a w → (∀ i, i < ops.size → l i = true) → Q .normal a w) :
    ∀ (fuel : Nat) (L : Array Bool) (a : Act) (w : World), L.size = ops.size → cnt L ≤ fuel → I (fun j => L.getD j false) a w → wpAnyIn F n P md ops Q fuel L a w := by
  have fin : ∀ (L : Array Bool) (a : Act) (w : World), L.size = ops.size → Region.ready md ops L = [] → I (fun j => L.getD j false) a w → Q .normal a w := by
    intro L a w hL hr hI
    refine done _ a w hI fun i => ?_
    induction i using Nat.strongRecOn with
    | _ i ih =>
      intro hi
      cases hb : L.getD i false with
      | true => rfl
      | false =>
        exfalso
        have hb2 : L.getD i true = false := by
          rw [Array.getD_eq_getD_getElem?] at hb ⊢
          cases hLi : L[i]? with
          | none => rw [Array.getElem?_eq_none_iff] at hLi; omega
          | some b => simpa [hLi] using hb
        have : i ∈ Region.ready md ops L := mem_ready.2 ⟨hb2, ops[i], by simp [hi], fun e he hb' => by
          have h1 := hback i ops[i] (by simp [hi]) e he hb'
          exact ih e.on h1 (by omega)⟩
        rw [hr] at this
        cases this
  intro fuel
  induction fuel with
  | zero =>
    intro L a w hL hc hI
    have hr : Region.ready md ops L = [] := by
      cases hq : Region.ready md ops L with
      | nil => rfl
      | cons i r =>
        have hi : i ∈ Region.ready md ops L := by rw [hq]; simp
        have := cnt_set (mem_ready.1 hi).1
        omega
    exact ⟨hr, fin L a w hL hr hI⟩
  | succ fuel ih =>
    intro L a w hL hc hI
    refine ⟨fun hr => fin L a w hL hr hI, fun i hi => ?_⟩
    obtain ⟨h1, o, ho, hdep⟩ := mem_ready.1 hi
    have hlt : i < L.size := by
      rcases Nat.lt_or_ge i L.size with h | h
      · exact h
      · rw [Array.getD_eq_getD_getElem?, Array.getElem?_eq_none h] at h1; cases h1
    have h2 : L.getD i false = false := by
      rw [Array.getD_eq_getD_getElem?] at h1 ⊢
      cases hLi : L[i]? with
      | none => rfl
      | some b => simpa [hLi] using h1
    refine wpOpIn_mono (fun a' w' h' => ih _ a' w' (by simpa using hL) (by have := cnt_set h1; omega) ?_) (step i o ho _ a w hI h2 hdep)
    have e : (fun j => (L.setIfInBounds i true).getD j false) = upd (fun j => L.getD j false) i := by
      funext j
      by_cases hj : j = i
      · subst hj
        rw [upd_same]
        rw [Array.getD_eq_getD_getElem?]
        simp [hlt]
      · rw [upd_ne _ hj]
        exact getD_set_ne false (fun e => hj e.symm)
    rw [e]; exact h'
end
section
variable {P : Program} {ops : Array Oper} {Q : Exit → Act → World → Prop}
theorem wpIn_region_inv {id l n : Nat} {a : Act} {w : World} (I : Act → (Nat → Bool) → Act → World → Prop) (hm : P.follows .mixedOrders = true) (hb : backB ops = true) (hnd : noDefer ops = true)
    (h0 : I a (fun _ => false) a w.drew) (hs : StepsAt P ops Q (I a) 0 ops.toList)
    (done : ∀ l a' w', I a l a' w' → (∀ i, i < ops.size → l i = true) → Q .normal a' w') : (Code.region id ops true).wpIn (Fence.wide.inRound l) n P Q a w := by
  refine wpIn_region_any hm (wpAnyIn_inv (md := .any) (I a) ?_ (back_of hb) done ops.size _ a _ (by simp) (by simp [cnt, List.countP_replicate]) ?_)
  · intro i o ho l a1 w1 hI hl hd
    have h1 := StepsAt.get hs i o (by simpa using ho)
    rw [Nat.zero_add] at h1
    have h2 := h1 l a1 w1 hI hl (fun d hd' => by
      obtain ⟨e, he, rfl⟩ := List.mem_map.1 hd'
      rw [List.mem_filter] at he
      exact hd e (by simpa using he.1) he.2) (fun a' w' => I a (upd l i) a' w') (fun _ _ h => h)
    unfold wpOpIn
    rw [ho]
    show if Region.wanted o (yielded ops a1.tmps) = true then _ else _
    split
    · rename_i hw; rw [if_pos hw] at h2; exact oper_inRound (noDefer_of hnd ho) h2
    · rename_i hw; rw [if_neg hw] at h2; exact ⟨fun _ _ => trivial, h2⟩
  · have e : (fun j => (Array.replicate ops.size false).getD j false) = (fun _ => false) := by
      funext j
      rw [Array.getD_eq_getD_getElem?, Array.getElem?_replicate]
      split <;> rfl
    rw [e]; exact h0
theorem rows_wide {n : Nat} {P : Program} {row : String} {args : Array Value} {w : World} {R : Value → World → Prop} (h : Rows P row args w R) : RowsIn Fence.wide n P row args w R :=
  fun c cs _ => let ⟨v, w', r, s⟩ := h c cs; ⟨v, w', r, (stepsIn_wide).2 s⟩
theorem oper_wide {n : Nat} {P : Program} {o : Oper} {a : Act} {w : World} {K : Act → World → Prop} {Q : Exit → Act → World → Prop} (h : o.wp P a w K Q) :
    o.wpIn Fence.wide n P a w K Q := by
  refine ⟨fun _ _ => trivial, ?_⟩
  rw [show o.semAt Fence.wide.round a.eval = execOp a.eval o from rfl]
  unfold Oper.wp at h
  generalize (execOp a.eval o).run P w = r at *
  have hd : Fence.wide.depth.isSome = true → 1 ≤ n := fun c => by cases c
  cases r with
  | ok x w' =>
    cases x <;> simp only [Oper.upon, Oper.uponIn] at h ⊢ <;>
      first
        | exact h
        | exact ⟨hd, callsIn_wide.2 h⟩
        | exact ⟨hd, rows_wide h⟩
        | exact h.elim
  | halt x w' => cases x <;> simp only [Oper.upon, Oper.uponIn] at h ⊢ <;> exact h
/-- The same outside a round. -/
theorem wpWide_region_inv {id n : Nat} {a : Act} {w : World} (I : Act → (Nat → Bool) → Act → World → Prop) (hm : P.follows .mixedOrders = true) (hb : backB ops = true) (_hnd : noDefer ops = true)
    (h0 : I a (fun _ => false) a w.drew) (hs : StepsAt P ops Q (I a) 0 ops.toList)
    (done : ∀ l a' w', I a l a' w' → (∀ i, i < ops.size → l i = true) → Q .normal a' w') : (Code.region id ops true).wpIn Fence.wide n P Q a w := by
  refine wpIn_region_any hm (wpAnyIn_inv (md := .any) (I a) ?_ (back_of hb) done ops.size _ a _ (by simp) (by simp [cnt, List.countP_replicate]) ?_)
  · intro i o ho l a1 w1 hI hl hd
    have h1 := StepsAt.get hs i o (by simpa using ho)
    rw [Nat.zero_add] at h1
    have h2 := h1 l a1 w1 hI hl (fun d hd' => by
      obtain ⟨e, he, rfl⟩ := List.mem_map.1 hd'
      rw [List.mem_filter] at he
      exact hd e (by simpa using he.1) he.2) (fun a' w' => I a (upd l i) a' w') (fun _ _ h => h)
    unfold wpOpIn
    rw [ho]
    show if Region.wanted o (yielded ops a1.tmps) = true then _ else _
    split
    · rename_i hw; rw [if_pos hw] at h2; exact oper_wide h2
    · rename_i hw; rw [if_neg hw] at h2; exact ⟨fun _ _ => trivial, h2⟩
  · have e : (fun j => (Array.replicate ops.size false).getD j false) = (fun _ => false) := by
      funext j
      rw [Array.getD_eq_getD_getElem?, Array.getElem?_replicate]
      split <;> rfl
    rw [e]; exact h0
end
end Go.Proofs.YtllhfkcgocbblaaDoor
