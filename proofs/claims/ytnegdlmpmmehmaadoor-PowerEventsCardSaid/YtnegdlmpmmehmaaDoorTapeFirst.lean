/-
  The contracts of tape.First and tape.Equal over this seat's translation: -1 if the tapes have the same events, otherwise the number of events in the longest common beginning. Conditions: the tapes lie in memory as TapeV says and have at most 90000 events each.
-/
import Derived.Test.YtnegdlmpmmehmaaDoorTapeIter
namespace Go.Proofs.YtnegdlmpmmehmaaDoor
open Go.RowKit Go.Shelf
attribute [local go_sem] Oper.semAt_some wide_fn

/-- The number of events in the longest common beginning. -/
def lcp : List Ev → List Ev → Nat
  | x :: l, y :: m => if x = y then lcp l m + 1 else 0
  | _, _ => 0
def firstV (l m : List Ev) : Int := if l = m then -1 else (lcp l m : Int)

theorem lcp_at : ∀ (l m : List Ev) (k : Nat), (∀ j, j < k → l[j]? = m[j]?) → k ≤ l.length → k ≤ m.length → (l[k]? = none ∨ m[k]? = none ∨ l[k]? ≠ m[k]?) → lcp l m = k := by
  intro l
  induction l with
  | nil => intro m k _ h1 _ _; simp at h1; subst h1; cases m <;> rfl
  | cons x l ih =>
    intro m k h h1 h2 h3
    cases m with
    | nil => simp at h2; subst h2; rfl
    | cons y m =>
      cases k with
      | zero =>
        have hne : x ≠ y := by rintro rfl; simp at h3
        simp [lcp, hne]
      | succ k =>
        have h0 := h 0 (by omega)
        simp at h0
        subst h0
        have := ih m k (fun j hj => by have := h (j + 1) (by omega); simpa using this) (by simp at h1; omega) (by simp at h2; omega) (by simpa using h3)
        simp [lcp, this]

theorem prefix_get {pre us : List Ev} (h : pre <+: us) {j : Nat} (hj : j < pre.length) : pre[j]? = us[j]? := by
  obtain ⟨t, rfl⟩ := h
  rw [List.getElem?_append_left hj]
theorem firstV_self (l : List Ev) : firstV l l = -1 := by simp [firstV]
/-- Where the first list goes on with x behind a common beginning, and the second one does not. -/
theorem firstV_stop {ts us pre : List Ev} {x : Ev} (ht : pre ++ [x] <+: ts) (hu : pre <+: us) (hx : us[pre.length]? ≠ some x) : firstV ts us = pre.length := by
  have htx : ts[pre.length]? = some x := by
    rw [← prefix_get ht (by simp)]; simp
  have hne : ts ≠ us := by rintro rfl; exact hx htx
  have hl : lcp ts us = pre.length := by
    refine lcp_at ts us _ (fun j hj => ?_) ?_ hu.length_le (.inr (.inr ?_))
    · rw [← prefix_get hu hj, ← prefix_get ht (by simp; omega), List.getElem?_append_left hj]
    · have := ht.length_le; simp at this; omega
    · rw [htx]; exact fun e => hx e.symm
  simp [firstV, hne, hl]
theorem firstV_end {ts us : List Ev} (hu : ts <+: us) : firstV ts us = if ts.length = us.length then -1 else (ts.length : Int) := by
  by_cases h : ts.length = us.length
  · obtain rfl := hu.eq_of_length h
    simp [firstV]
  · have hne : ts ≠ us := by rintro rfl; exact h rfl
    have hl : lcp ts us = ts.length := lcp_at ts us _ (fun j hj => prefix_get hu hj) (Nat.le_refl _) hu.length_le (.inl (List.getElem?_eq_none (Nat.le_refl _)))
    simp [firstV, hne, hl, h]

/-- Between two rounds of First's loop. -/
def FirstI (w : World) (N : Nat) (ts us : List Ev) (p q : Option Addr) (pre : List Ev) (W : World) : Prop :=
  Src (N + 1 + 1 + 1 + 1) (N + 1 + 1 + 1) 0 p ts (fun k => k < N) W ∧ TapeV W (.pointer q) us (fun k => k < N) ∧ Boxed W N 41 (.pointer q) ∧ Boxed W (N + 1) 3 (.int .i64 0) ∧ Boxed W (N + 1 + 1) 3 (.int .i64 (pre.length : Int)) ∧
  Off (fun _ => False) w W ∧ pre <+: us
theorem FirstI.off {w W W' : World} {N : Nat} {ts us pre : List Ev} {p q : Option Addr} (h : FirstI w N ts us p q pre W) (ho : Off (fun _ => False) W W') : FirstI w N ts us p q pre W' :=
  ⟨h.1.off ho (fun _ _ _ c => c) (fun c => c) (fun c => c), h.2.1.off ho (fun _ _ _ c => c), ho.heap h.2.2.1 (fun c => c), ho.heap h.2.2.2.1 (fun c => c), ho.heap h.2.2.2.2.1 (fun c => c), h.2.2.2.2.2.1.trans ho (fun _ _ c => c), h.2.2.2.2.2.2⟩
def FirstX (w : World) (N : Nat) (us : List Ev) (c : Code) (xs : List Ev) (W : World) : Prop :=
  c = .ret ∧ ∃ pre x, xs = pre ++ [x] ∧ Boxed W (N + 1) 3 (.int .i64 (pre.length : Int)) ∧ Off (fun _ => False) w W ∧ pre <+: us ∧ us[pre.length]? ≠ some x

/-- .. and where a round has stored the result. -/
theorem first_stop {w W : World} {N m : Nat} {ts us pre : List Ev} {p q : Option Addr} {x : Ev} (h : FirstI w N ts us p q pre W) (hN : N = w.heap.size) (hm : m = pre.length) (hx : us[m]? ≠ some x) (B : Nat) :
    KeepsFrom B W (W.setCell ⟨N + 1, 0, none⟩ (.int .i64 (m : Int))) ∧ FirstX w N us .ret (pre ++ [x]) (W.setCell ⟨N + 1, 0, none⟩ (.int .i64 (m : Int))) := by
  subst hm
  obtain ⟨h1, h2, h3, h4, h5, h6, h7⟩ := h
  refine ⟨(KeepsOthers.setCell _ _ _).from _, rfl, pre, x, rfl, h4.set _, h6.setCell (fun h => by simp at h; omega) _, h7, hx⟩
/-- .. and where it goes on. -/
theorem first_next {w W : World} {N m : Nat} {ts us pre : List Ev} {p q : Option Addr} {x : Ev} (h : FirstI w N ts us p q pre W) (hN : N = w.heap.size) (hl : ts.length ≤ 100000) (hm : m = pre.length) (hx : us[m]? = some x) (B : Nat) :
    KeepsFrom B W (W.setCell ⟨N + 1 + 1, 0, none⟩ (.int .i64 ((m : Int) + 1))) ∧
    (Rd (N + 1 + 1 + 1 + 1) (N + 1 + 1 + 1) 0 (.pointer p) ts W → Rd (N + 1 + 1 + 1 + 1) (N + 1 + 1 + 1) 0 (.pointer p) ts (W.setCell ⟨N + 1 + 1, 0, none⟩ (.int .i64 ((m : Int) + 1)))) ∧
    FirstI w N ts us p q (pre ++ [x]) (W.setCell ⟨N + 1 + 1, 0, none⟩ (.int .i64 ((m : Int) + 1))) := by
  subst hm
  obtain ⟨h1, h2, h3, h4, h5, h6, h7⟩ := h
  have ho : Off (fun k => k = N + 1 + 1) W (W.setCell ⟨N + 1 + 1, 0, none⟩ (.int .i64 ((pre.length : Int) + 1))) := (Off.refl (fun k => k = N + 1 + 1) W).setCell (p := ⟨N + 1 + 1, 0, none⟩) (fun _ => rfl) _
  have h1' := h1.off ho (fun k _ hk e => by omega) (by omega) (by omega)
  refine ⟨ho.keeps.from _, fun _ => h1'.rd hl, h1', h2.off ho (fun k _ hk e => by omega), ho.heap h3 (by omega), ho.heap h4 (by omega), ?_, h6.setCell (fun h => by simp at h; omega) _, ?_⟩
  · have : (((pre ++ [x]).length : Nat) : Int) = (pre.length : Int) + 1 := by simp
    rw [this]; exact h5.set _
  · obtain ⟨t, rfl⟩ := h7
    rw [List.getElem?_append_right (Nat.le_refl _), Nat.sub_self] at hx
    cases t with
    | nil => simp at hx
    | cons y t => simp at hx; subst hx; exact ⟨t, by simp⟩

theorem first_stop_drew {w W : World} {N m : Nat} {ts us pre : List Ev} {p q : Option Addr} {x : Ev} (h : FirstI w N ts us p q pre W) (hN : N = w.heap.size) (hm : m = pre.length) (hx : us[m]? ≠ some x) (B : Nat) :
    KeepsFrom B W (W.setCell ⟨N + 1, 0, none⟩ (.int .i64 (m : Int))).drew ∧ FirstX w N us .ret (pre ++ [x]) (W.setCell ⟨N + 1, 0, none⟩ (.int .i64 (m : Int))).drew := by
  obtain ⟨h1, h2, pre', x', h3, h4, h5, h6⟩ := first_stop h hN hm hx B
  exact ⟨⟨h1.size, h1.same⟩, h2, pre', x', h3, h4, h5.drew, h6⟩
theorem first_stop_later {w W W1 : World} {N m : Nat} {ts us pre : List Ev} {p q : Option Addr} {x : Ev} (h : FirstI w N ts us p q pre W) (hN : N = w.heap.size) (ho : Off (fun _ => False) W W1) (hm : m = pre.length) (hx : us[m]? ≠ some x) (B : Nat) :
    KeepsFrom B W (W1.setCell ⟨N + 1, 0, none⟩ (.int .i64 (m : Int))) ∧ FirstX w N us .ret (pre ++ [x]) (W1.setCell ⟨N + 1, 0, none⟩ (.int .i64 (m : Int))) := by
  obtain ⟨h1, h2⟩ := first_stop (h.off ho) hN hm hx B
  exact ⟨(ho.keeps.from B).trans h1, h2⟩
theorem first_next_later {w W W1 : World} {N m : Nat} {ts us pre : List Ev} {p q : Option Addr} {x : Ev} (h : FirstI w N ts us p q pre W) (hN : N = w.heap.size) (hl : ts.length ≤ 100000) (ho : Off (fun _ => False) W W1) (hm : m = pre.length) (hx : us[m]? = some x) (B : Nat) :
    KeepsFrom B W (W1.setCell ⟨N + 1 + 1, 0, none⟩ (.int .i64 ((m : Int) + 1))) ∧
    (Rd (N + 1 + 1 + 1 + 1) (N + 1 + 1 + 1) 0 (.pointer p) ts W → Rd (N + 1 + 1 + 1 + 1) (N + 1 + 1 + 1) 0 (.pointer p) ts (W1.setCell ⟨N + 1 + 1, 0, none⟩ (.int .i64 ((m : Int) + 1)))) ∧
    FirstI w N ts us p q (pre ++ [x]) (W1.setCell ⟨N + 1 + 1, 0, none⟩ (.int .i64 ((m : Int) + 1))) := by
  obtain ⟨h1, h2, h3⟩ := first_next (h.off ho) hN hl hm hx B
  exact ⟨(ho.keeps.from B).trans h1, fun _ => h2 ((h.off ho).1.rd hl), h3⟩

theorem first_ret {w W : World} {N D : Nat} {v : Value} (hb : Boxed W (N + 1) 3 v) (ho : Off (fun _ => False) w W) (hK : W.heap[D]? = some (.deferred (some []))) (hD : w.heap.size ≤ D) :
    (W.putObj D (.deferred none)).cell? ⟨N + 1, 0, none⟩ = some v ∧ Off (fun _ => False) w (W.putObj D (.deferred none)) :=
  ⟨(Boxed.kept_own hb (grownBy_putObj' W D _) (fun r e => by cases e; exact ⟨_, hK, rfl⟩)).cell, ho.later (grownBy_putObj' W D _) (fun r e => by cases e; exact hD)⟩
theorem first_fin {w W : World} {N D nq : Nat} {u v : Value} (hb : Boxed W (N + 1) 3 u) (ho : Off (fun _ => False) w W) (hK : W.heap[D]? = some (.deferred (some []))) (hN : N = w.heap.size) (hD : w.heap.size ≤ D) :
    ((W.drewN nq).setCell ⟨N + 1, 0, none⟩ v).heap[D]? = some (.deferred (some [])) ∧
    (((W.drewN nq).setCell ⟨N + 1, 0, none⟩ v).putObj D (.deferred none)).cell? ⟨N + 1, 0, none⟩ = some v ∧ Off (fun _ => False) w (((W.drewN nq).setCell ⟨N + 1, 0, none⟩ v).putObj D (.deferred none)) := by
  have e : W.grownBy (W.drewN nq) none := ⟨rfl, rfl, rfl, Nat.le_refl _, fun _ _ _ => rfl⟩
  have hb' := Boxed.kept_own hb e (fun r h => by cases h)
  have h1 := hb'.set v
  have h2 : Off (fun _ => False) w ((W.drewN nq).setCell ⟨N + 1, 0, none⟩ v) := (ho.later e (fun r h => by cases h)).setCell (fun h => by simp at h; omega) _
  have h3 := (KeepsOthers.setCell (W.drewN nq) ⟨N + 1, 0, none⟩ v).same D _ hK rfl
  have := first_ret h1 h2 h3 hD
  exact ⟨h3, this.1, this.2⟩

end Go.Proofs.YtnegdlmpmmehmaaDoor
