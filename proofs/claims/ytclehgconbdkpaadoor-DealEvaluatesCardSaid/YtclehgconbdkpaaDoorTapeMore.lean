/-
  The contracts of tape.First and tape.Equal over this seat's translation: -1 if the tapes have the same events, otherwise the number of events in the longest common beginning. Conditions: the tapes lie in memory as TapeV says and have at most 90000 events each.
  Contracts of the reference's First, Same, Of and After over this seat's translation: the number of events in the longest common beginning, or -1; whether two lists are the same; the events with a kind; the events after the first n ones. Conditions: the lists lie in memory as their slices say and have at most 100000 events.
  Contracts of slices.AppendSeq over the tape's iterator, and of (*Tape).Since and Events, over this seat's translation: the events after the first n ones, in memory of their own. Conditions: the tape lies in memory as TapeV says and has at most 90000 events.
-/
import Derived.Test.YtclehgconbdkpaaDoorTapeCore
import Derived.Deep.LoopGhost
import Derived.Lib.Walk
import Derived.Lib.SliceRun
import Derived.Laws.MakeOwn
import Derived.Deep.RegionWith
namespace Go.Proofs.YtclehgconbdkpaaDoor
section
open Go.RowKit Go.Shelf
attribute [local go_sem] Oper.semAt_some wide_fn

/-- The number of events in the longest common beginning. -/
def lcp : List Ev → List Ev → Nat
  | x :: l, y :: m => if x = y then lcp l m + 1 else 0
  | _, _ => 0
def firstV (l m : List Ev) : Int := if l = m then -1 else (lcp l m : Int)

theorem lcp_at : ∀ (l m : List Ev) (k : Nat), (∀ j, j < k → l[j]? = m[j]?) → k ≤ l.length → k ≤ m.length → (l[k]? = none ∨ m[k]? = none ∨ l[k]? ≠ m[k]?) → lcp l m = k := by
  intro l
  induction l with
  | nil => intro m k _ h1 _ _; simp at h1; subst h1; cases m <;> rfl
  | cons x l ih =>
    intro m k h h1 h2 h3
    cases m with
    | nil => simp at h2; subst h2; rfl
    | cons y m =>
      cases k with
      | zero =>
        have hne : x ≠ y := by rintro rfl; simp at h3
        simp [lcp, hne]
      | succ k =>
        have h0 := h 0 (by omega)
        simp at h0
        subst h0
        have := ih m k (fun j hj => by have := h (j + 1) (by omega); simpa using this) (by simp at h1; omega) (by simp at h2; omega) (by simpa using h3)
        simp [lcp, this]

theorem prefix_get {pre us : List Ev} (h : pre <+: us) {j : Nat} (hj : j < pre.length) : pre[j]? = us[j]? := by
  obtain ⟨t, rfl⟩ := h
  rw [List.getElem?_append_left hj]
theorem firstV_self (l : List Ev) : firstV l l = -1 := by simp [firstV]
/-- Where the first list goes on with x behind a common beginning, and the second one does not. -/
theorem firstV_stop {ts us pre : List Ev} {x : Ev} (ht : pre ++ [x] <+: ts) (hu : pre <+: us) (hx : us[pre.length]? ≠ some x) : firstV ts us = pre.length := by
  have htx : ts[pre.length]? = some x := by
    rw [← prefix_get ht (by simp)]; simp
  have hne : ts ≠ us := by rintro rfl; exact hx htx
  have hl : lcp ts us = pre.length := by
    refine lcp_at ts us _ (fun j hj => ?_) ?_ hu.length_le (.inr (.inr ?_))
    · rw [← prefix_get hu hj, ← prefix_get ht (by simp; omega), List.getElem?_append_left hj]
    · have := ht.length_le; simp at this; omega
    · rw [htx]; exact fun e => hx e.symm
  simp [firstV, hne, hl]
theorem firstV_end {ts us : List Ev} (hu : ts <+: us) : firstV ts us = if ts.length = us.length then -1 else (ts.length : Int) := by
  by_cases h : ts.length = us.length
  · obtain rfl := hu.eq_of_length h
    simp [firstV]
  · have hne : ts ≠ us := by rintro rfl; exact h rfl
    have hl : lcp ts us = ts.length := lcp_at ts us _ (fun j hj => prefix_get hu hj) (Nat.le_refl _) hu.length_le (.inl (List.getElem?_eq_none (Nat.le_refl _)))
    simp [firstV, hne, hl, h]

/-- Between two rounds of First's loop. -/
def FirstI (w : World) (N : Nat) (ts us : List Ev) (p q : Option Addr) (pre : List Ev) (W : World) : Prop :=
  Src (N + 1 + 1 + 1 + 1) (N + 1 + 1 + 1) 0 p ts (fun k => k < N) W ∧ TapeV W (.pointer q) us (fun k => k < N) ∧ Boxed W N 56 (.pointer q) ∧ Boxed W (N + 1) 3 (.int .i64 0) ∧ Boxed W (N + 1 + 1) 3 (.int .i64 (pre.length : Int)) ∧
  Off (fun _ => False) w W ∧ pre <+: us
theorem FirstI.off {w W W' : World} {N : Nat} {ts us pre : List Ev} {p q : Option Addr} (h : FirstI w N ts us p q pre W) (ho : Off (fun _ => False) W W') : FirstI w N ts us p q pre W' :=
  ⟨h.1.off ho (fun _ _ _ c => c) (fun c => c) (fun c => c), h.2.1.off ho (fun _ _ _ c => c), ho.heap h.2.2.1 (fun c => c), ho.heap h.2.2.2.1 (fun c => c), ho.heap h.2.2.2.2.1 (fun c => c), h.2.2.2.2.2.1.trans ho (fun _ _ c => c), h.2.2.2.2.2.2⟩
def FirstX (w : World) (N : Nat) (us : List Ev) (c : Code) (xs : List Ev) (W : World) : Prop :=
  c = .ret ∧ ∃ pre x, xs = pre ++ [x] ∧ Boxed W (N + 1) 3 (.int .i64 (pre.length : Int)) ∧ Off (fun _ => False) w W ∧ pre <+: us ∧ us[pre.length]? ≠ some x

/-- .. and where a round has stored the result. -/
theorem first_stop {w W : World} {N m : Nat} {ts us pre : List Ev} {p q : Option Addr} {x : Ev} (h : FirstI w N ts us p q pre W) (hN : N = w.heap.size) (hm : m = pre.length) (hx : us[m]? ≠ some x) (B : Nat) :
    KeepsFrom B W (W.setCell ⟨N + 1, 0, none⟩ (.int .i64 (m : Int))) ∧ FirstX w N us .ret (pre ++ [x]) (W.setCell ⟨N + 1, 0, none⟩ (.int .i64 (m : Int))) := by
  subst hm
  obtain ⟨h1, h2, h3, h4, h5, h6, h7⟩ := h
  refine ⟨(KeepsOthers.setCell _ _ _).from _, rfl, pre, x, rfl, h4.set _, h6.setCell (fun h => by simp at h; omega) _, h7, hx⟩
/-- .. and where it goes on. -/
theorem first_next {w W : World} {N m : Nat} {ts us pre : List Ev} {p q : Option Addr} {x : Ev} (h : FirstI w N ts us p q pre W) (hN : N = w.heap.size) (hl : ts.length ≤ 100000) (hm : m = pre.length) (hx : us[m]? = some x) (B : Nat) :
    KeepsFrom B W (W.setCell ⟨N + 1 + 1, 0, none⟩ (.int .i64 ((m : Int) + 1))) ∧
    (Rd (N + 1 + 1 + 1 + 1) (N + 1 + 1 + 1) 0 (.pointer p) ts W → Rd (N + 1 + 1 + 1 + 1) (N + 1 + 1 + 1) 0 (.pointer p) ts (W.setCell ⟨N + 1 + 1, 0, none⟩ (.int .i64 ((m : Int) + 1)))) ∧
    FirstI w N ts us p q (pre ++ [x]) (W.setCell ⟨N + 1 + 1, 0, none⟩ (.int .i64 ((m : Int) + 1))) := by
  subst hm
  obtain ⟨h1, h2, h3, h4, h5, h6, h7⟩ := h
  have ho : Off (fun k => k = N + 1 + 1) W (W.setCell ⟨N + 1 + 1, 0, none⟩ (.int .i64 ((pre.length : Int) + 1))) := (Off.refl (fun k => k = N + 1 + 1) W).setCell (p := ⟨N + 1 + 1, 0, none⟩) (fun _ => rfl) _
  have h1' := h1.off ho (fun k _ hk e => by omega) (by omega) (by omega)
  refine ⟨ho.keeps.from _, fun _ => h1'.rd hl, h1', h2.off ho (fun k _ hk e => by omega), ho.heap h3 (by omega), ho.heap h4 (by omega), ?_, h6.setCell (fun h => by simp at h; omega) _, ?_⟩
  · have : (((pre ++ [x]).length : Nat) : Int) = (pre.length : Int) + 1 := by simp
    rw [this]; exact h5.set _
  · obtain ⟨t, rfl⟩ := h7
    rw [List.getElem?_append_right (Nat.le_refl _), Nat.sub_self] at hx
    cases t with
    | nil => simp at hx
    | cons y t => simp at hx; subst hx; exact ⟨t, by simp⟩

theorem first_stop_drew {w W : World} {N m : Nat} {ts us pre : List Ev} {p q : Option Addr} {x : Ev} (h : FirstI w N ts us p q pre W) (hN : N = w.heap.size) (hm : m = pre.length) (hx : us[m]? ≠ some x) (B : Nat) :
    KeepsFrom B W (W.setCell ⟨N + 1, 0, none⟩ (.int .i64 (m : Int))).drew ∧ FirstX w N us .ret (pre ++ [x]) (W.setCell ⟨N + 1, 0, none⟩ (.int .i64 (m : Int))).drew := by
  obtain ⟨h1, h2, pre', x', h3, h4, h5, h6⟩ := first_stop h hN hm hx B
  exact ⟨⟨h1.size, h1.same⟩, h2, pre', x', h3, h4, h5.drew, h6⟩
theorem first_stop_later {w W W1 : World} {N m : Nat} {ts us pre : List Ev} {p q : Option Addr} {x : Ev} (h : FirstI w N ts us p q pre W) (hN : N = w.heap.size) (ho : Off (fun _ => False) W W1) (hm : m = pre.length) (hx : us[m]? ≠ some x) (B : Nat) :
    KeepsFrom B W (W1.setCell ⟨N + 1, 0, none⟩ (.int .i64 (m : Int))) ∧ FirstX w N us .ret (pre ++ [x]) (W1.setCell ⟨N + 1, 0, none⟩ (.int .i64 (m : Int))) := by
  obtain ⟨h1, h2⟩ := first_stop (h.off ho) hN hm hx B
  exact ⟨(ho.keeps.from B).trans h1, h2⟩
theorem first_next_later {w W W1 : World} {N m : Nat} {ts us pre : List Ev} {p q : Option Addr} {x : Ev} (h : FirstI w N ts us p q pre W) (hN : N = w.heap.size) (hl : ts.length ≤ 100000) (ho : Off (fun _ => False) W W1) (hm : m = pre.length) (hx : us[m]? = some x) (B : Nat) :
    KeepsFrom B W (W1.setCell ⟨N + 1 + 1, 0, none⟩ (.int .i64 ((m : Int) + 1))) ∧
    (Rd (N + 1 + 1 + 1 + 1) (N + 1 + 1 + 1) 0 (.pointer p) ts W → Rd (N + 1 + 1 + 1 + 1) (N + 1 + 1 + 1) 0 (.pointer p) ts (W1.setCell ⟨N + 1 + 1, 0, none⟩ (.int .i64 ((m : Int) + 1)))) ∧
    FirstI w N ts us p q (pre ++ [x]) (W1.setCell ⟨N + 1 + 1, 0, none⟩ (.int .i64 ((m : Int) + 1))) := by
  obtain ⟨h1, h2, h3⟩ := first_next (h.off ho) hN hl hm hx B
  exact ⟨(ho.keeps.from B).trans h1, fun _ => h2 ((h.off ho).1.rd hl), h3⟩

theorem first_ret {w W : World} {N D : Nat} {v : Value} (hb : Boxed W (N + 1) 3 v) (ho : Off (fun _ => False) w W) (hK : W.heap[D]? = some (.deferred (some []))) (hD : w.heap.size ≤ D) :
    (W.putObj D (.deferred none)).cell? ⟨N + 1, 0, none⟩ = some v ∧ Off (fun _ => False) w (W.putObj D (.deferred none)) :=
  ⟨(Boxed.kept_own hb (grownBy_putObj' W D _) (fun r e => by cases e; exact ⟨_, hK, rfl⟩)).cell, ho.later (grownBy_putObj' W D _) (fun r e => by cases e; exact hD)⟩
theorem first_fin {w W : World} {N D nq : Nat} {u v : Value} (hb : Boxed W (N + 1) 3 u) (ho : Off (fun _ => False) w W) (hK : W.heap[D]? = some (.deferred (some []))) (hN : N = w.heap.size) (hD : w.heap.size ≤ D) :
    ((W.drewN nq).setCell ⟨N + 1, 0, none⟩ v).heap[D]? = some (.deferred (some [])) ∧
    (((W.drewN nq).setCell ⟨N + 1, 0, none⟩ v).putObj D (.deferred none)).cell? ⟨N + 1, 0, none⟩ = some v ∧ Off (fun _ => False) w (((W.drewN nq).setCell ⟨N + 1, 0, none⟩ v).putObj D (.deferred none)) := by
  have e : W.grownBy (W.drewN nq) none := ⟨rfl, rfl, rfl, Nat.le_refl _, fun _ _ _ => rfl⟩
  have hb' := Boxed.kept_own hb e (fun r h => by cases h)
  have h1 := hb'.set v
  have h2 : Off (fun _ => False) w ((W.drewN nq).setCell ⟨N + 1, 0, none⟩ v) := (ho.later e (fun r h => by cases h)).setCell (fun h => by simp at h; omega) _
  have h3 := (KeepsOthers.setCell (W.drewN nq) ⟨N + 1, 0, none⟩ v).same D _ hK rfl
  have := first_ret h1 h2 h3 hD
  exact ⟨h3, this.1, this.2⟩
end
section
open Go.RowKit

theorem evs_len {w : World} {a : Option Addr} {n cap : Nat} {es : List Ev} {S : Nat → Prop} (h : EvsAt w (.slice a n cap) es S) : n = es.length := by
  obtain ⟨a', cap', e, _⟩ := h
  simp at e; omega

theorem firstV_at {ls ms : List Ev} {k : Nat} (hA : ∀ j, j < k → ls[j]? = ms[j]?) (h1 : k ≤ ls.length) (h2 : k ≤ ms.length) (hne : ls[k]? ≠ ms[k]?) : firstV ls ms = k := by
  have h : ls ≠ ms := by rintro rfl; exact hne rfl
  simp [firstV, h, lcp_at ls ms k hA h1 h2 (.inr (.inr hne))]
theorem firstV_same {ls ms : List Ev} (hA : ∀ j, j < ls.length → ls[j]? = ms[j]?) (hl : ls.length = ms.length) : firstV ls ms = -1 := by
  have : ls = ms := List.ext_getElem? fun j => by
    by_cases h : j < ls.length
    · exact hA j h
    · rw [List.getElem?_eq_none (by omega), List.getElem?_eq_none (by omega)]
  simp [firstV, this]

set_option maxHeartbeats 4000000 in
set_option maxRecDepth 100000 in
theorem reffirst_any (sx sy : Value) (ls ms : List Ev) (Sx Sy : Nat → Prop) (w : World) (hx : EvsAt w sx ls Sx) (hy : EvsAt w sy ms Sy) (hl : ls.length ≤ 100000) (hm : ms.length ≤ 100000) :
    Calls Tryd.prog 48 #[sx, sy] w fun e w' => e = .returned (.int .i64 (firstV ls ms)) ∧ ∃ q, w' = w.drewN q := by
  obtain ⟨a, cap, rfl, _, _, _, hc⟩ := hx
  obtain ⟨b, cap2, rfl, _, _, _, hc2⟩ := hy
  obtain ⟨m, hm'⟩ : ∃ m, m = ls.length := ⟨_, rfl⟩
  obtain ⟨n, hn'⟩ : ∃ n, n = ms.length := ⟨_, rfl⟩
  rw [← hm'] at hc hl ⊢
  rw [← hn'] at hc2 hm ⊢
  have HM := Lib.hid hm'
  have HN := Lib.hid hn'
  clear hm' hn'
  go_enter Tryd.func48, Tryd.ntmps48
  go_wp2
  go_loopg [5] m (fun g s5 wr => ∃ k q : Nat, k ≤ m ∧ k ≤ n ∧ m - k ≤ g ∧ s5 = .int .i64 k ∧ wr = w.drewN q ∧ Aside (∀ j, j < k → ls[j]? = ms[j]?))
  case atStart => exact ⟨0, 0, Nat.zero_le _, Nat.zero_le _, by omega, rfl, rfl, fun j hj => absurd hj (Nat.not_lt_zero _)⟩
  case round =>
    obtain ⟨k, q, hk, hk2, hg, rfl, rfl, A⟩ := hrel
    by_cases h1 : k < m
    · by_cases h2 : k < n
      · obtain ⟨b1, o1, rfl, _, hd1⟩ := hc (by omega)
        obtain ⟨b2, o2, rfl, _, hd2⟩ := hc2 (by omega)
        obtain ⟨x, hx⟩ : ∃ x, ls[k]? = some x := ⟨ls[k]'(by have := HM.out; omega), List.getElem?_eq_getElem _⟩
        obtain ⟨y, hy⟩ : ∃ y, ms[k]? = some y := ⟨ms[k]'(by have := HN.out; omega), List.getElem?_eq_getElem _⟩
        obtain ⟨c0, c1, c2⟩ := hd1 k x hx
        obtain ⟨d0, d1, d2⟩ := hd2 k y hy
        have HX := Lib.hid hx
        have HY := Lib.hid hy
        clear hc hc2 hd1 hd2 hx hy
        by_cases hxy : x = y
        · have hne : ∀ X : World, (binOp .neq 102 (.agg #[.int .i64 x.1, .int .i64 x.2.1, .int .i64 x.2.2]) (.agg #[.int .i64 y.1, .int .i64 y.2.1, .int .i64 y.2.2])).run Tryd.prog X = .ok (.bool false) X := fun X => by
            have := neq_ev x y X
            rw [decide_eq_true hxy] at this; exact this
          have HXY := Lib.hid hxy
          clear hxy
          go_wp2_with fail
          go_region
          go_wp2
          go_roundg (m - (k + 1))
          case measure => omega
          case rel =>
            refine ⟨k + 1, q + 1, by omega, by omega, by omega, by go_num, rfl, (show Aside _ from fun j hj => ?_)⟩
            by_cases e : j = k
            · subst e
              rw [HX.out, HY.out, HXY.out]
            · exact A.out j (by omega)
        · have hne : ∀ X : World, (binOp .neq 102 (.agg #[.int .i64 x.1, .int .i64 x.2.1, .int .i64 x.2.2]) (.agg #[.int .i64 y.1, .int .i64 y.2.1, .int .i64 y.2.2])).run Tryd.prog X = .ok (.bool true) X := fun X => by
            have := neq_ev x y X
            rw [decide_eq_false hxy] at this; exact this
          have HXY := Lib.hid hxy
          clear hxy
          go_wp2_with fail
          go_region
          go_wp2
          go_ret
          refine ⟨?_, q + 1, rfl⟩
          rw [firstV_at A.out (by have := HM.out; omega) (by have := HN.out; omega) (by rw [HX.out, HY.out]; intro e; exact HXY.out (Option.some.inj e))]
          rfl
      · obtain rfl : k = n := by omega
        have hmn : ((k : Int) == m) = false := by simp; omega
        have hv : firstV ls ms = k := firstV_at A.out (by have := HM.out; omega) (by have := HN.out; omega) (by
          rw [List.getElem?_eq_none (l := ms) (by have := HN.out; omega), List.getElem?_eq_getElem (by have := HM.out; omega)]; simp)
        have HV := Lib.hid hv
        clear hc hc2 hv
        go_wp2
        go_ret
        refine ⟨?_, q, rfl⟩
        rw [HV.out]
        rfl
    · obtain rfl : k = m := by omega
      by_cases hkn : k = n
      · have hmn : ((k : Int) == n) = true := by simp [hkn]
        have hv : firstV ls ms = -1 := firstV_same (fun j hj => A.out j (by have := HM.out; omega)) (by have := HM.out; have := HN.out; omega)
        have HV := Lib.hid hv
        clear hc hc2 hv hkn
        go_wp2
        go_ret
        refine ⟨?_, q, rfl⟩
        rw [HV.out]
        rfl
      · have hmn : ((k : Int) == n) = false := by simp; omega
        have hv : firstV ls ms = k := firstV_at A.out (by have := HM.out; omega) (by have := HN.out; omega) (by
          rw [List.getElem?_eq_none (l := ls) (by have := HM.out; omega), List.getElem?_eq_getElem (by have := HN.out; omega)]; simp)
        have HV := Lib.hid hv
        clear hc hc2 hv hkn
        go_wp2
        go_ret
        refine ⟨?_, q, rfl⟩
        rw [HV.out]
        rfl

theorem off_drewN (S : Nat → Prop) (w : World) (q : Nat) : Off S w (w.drewN q) := ⟨rfl, rfl, rfl, Nat.le_refl _, fun _ _ _ => rfl, fun _ _ h _ => h⟩

set_option maxHeartbeats 400000 in
theorem same_any (sx sy : Value) (ls ms : List Ev) (Sx Sy : Nat → Prop) (w : World) (hx : EvsAt w sx ls Sx) (hy : EvsAt w sy ms Sy) (hl : ls.length ≤ 100000) (hm : ms.length ≤ 100000) :
    Calls Tryd.prog 25 #[sx, sy] w fun e w' => e = .returned (.bool (decide (ls = ms))) ∧ Off (fun _ => False) w w' := by
  have HF := reffirst_any sx sy ls ms Sx Sy w hx hy hl hm
  obtain ⟨a, cap, rfl, _⟩ := hx
  obtain ⟨b, cap2, rfl, _⟩ := hy
  by_cases h : ls = ms
  · have hv : firstV ls ms = -1 := by simp [firstV, h]
    rw [hv] at HF
    rw [decide_eq_true h]
    clear h hv
    go_enter Tryd.func25, Tryd.ntmps25
    go_wp2_with fail
    refine HF.mono ?_
    rintro e w1 ⟨rfl, q, rfl⟩
    go_wp2
    go_ret
    exact ⟨rfl, off_drewN _ _ _⟩
  · obtain ⟨n, hv⟩ : ∃ n : Nat, firstV ls ms = n := ⟨lcp ls ms, by simp [firstV, h]⟩
    rw [hv] at HF
    rw [decide_eq_false h]
    have hn : ((n : Int) == -1) = false := by simp
    clear h hv
    go_enter Tryd.func25, Tryd.ntmps25
    go_wp2_with fail
    refine HF.mono ?_
    rintro e w1 ⟨rfl, q, rfl⟩
    go_wp2
    go_ret
    exact ⟨rfl, off_drewN _ _ _⟩

/-- The events after the first n ones. -/
def afterV (es : List Ev) (n : Int) : List Ev := es.drop n.toNat
end
section
open Go.RowKit Go.Shelf
attribute [local go_sem] Oper.semAt_some wide_fn

/-- A list of events, cell by cell. -/
def flat : List Ev → List Value
  | [] => []
  | e :: l => .int .i64 e.1 :: .int .i64 e.2.1 :: .int .i64 e.2.2 :: flat l
theorem flat_length : ∀ l : List Ev, (flat l).length = l.length * 3
  | [] => rfl
  | e :: l => by simp [flat, flat_length l]; omega
theorem flat_append : ∀ l m : List Ev, flat (l ++ m) = flat l ++ flat m
  | [], m => rfl
  | e :: l, m => by simp [flat, flat_append l m]
theorem flat_one (l : List Ev) : ∀ u ∈ flat l, u.oneCell' = true := by
  induction l with
  | nil => intro u hu; simp [flat] at hu
  | cons e l ih =>
    intro u hu
    simp only [flat, List.mem_cons] at hu
    rcases hu with rfl | rfl | rfl | hu
    · rfl
    · rfl
    · rfl
    · exact ih u hu
theorem flat_get : ∀ (l : List Ev) (j : Nat) (e : Ev), l[j]? = some e → (flat l)[j * 3]? = some (.int .i64 e.1) ∧ (flat l)[j * 3 + 1]? = some (.int .i64 e.2.1) ∧ (flat l)[j * 3 + 2]? = some (.int .i64 e.2.2)
  | [], j, e, h => by simp at h
  | x :: l, 0, e, h => by simp at h; subst h; simp [flat]
  | x :: l, j + 1, e, h => by
    have := flat_get l j e (by simpa using h)
    rw [show (j + 1) * 3 = j * 3 + 3 by omega]
    simpa [flat] using this
/-- Cells that hold a list of events. -/
theorem flat_cells {w : World} {b off : Nat} {l : List Ev} (h : ∀ j e, l[j]? = some e → evAt w b (off + j * 3) e) : ∀ j u, (flat l)[j]? = some u → w.cell? ⟨b, off + j, none⟩ = some u := by
  intro j u hj
  have hlt := (List.getElem?_eq_some_iff.1 hj).1
  rw [flat_length] at hlt
  obtain ⟨e, he⟩ : ∃ e, l[j / 3]? = some e := ⟨l[j / 3]'(by omega), List.getElem?_eq_getElem _⟩
  obtain ⟨f0, f1, f2⟩ := flat_get l (j / 3) e he
  obtain ⟨c0, c1, c2⟩ := h (j / 3) e he
  have hr : j % 3 = 0 ∨ j % 3 = 1 ∨ j % 3 = 2 := by omega
  rcases hr with hr | hr | hr
  · have hj' : j = j / 3 * 3 := by omega
    rw [hj', f0] at hj; cases hj
    rw [hj']; exact c0
  · have hj' : j = j / 3 * 3 + 1 := by omega
    rw [hj', f1] at hj; cases hj
    rw [hj', ← Nat.add_assoc]; exact c1
  · have hj' : j = j / 3 * 3 + 2 := by omega
    rw [hj', f2] at hj; cases hj
    rw [hj', ← Nat.add_assoc]; exact c2
/-- A row of the call's own that holds a list of events. -/
theorem evs_of_own {w : World} {base n : Nat} {v : Value} {l : List Ev} (h : w.ownsRow base 102 3 v n (flat l)) : EvsAt w v l (fun k => base ≤ k) := by
  have hl := h.1
  rw [flat_length] at hl
  obtain rfl : l.length = n := by omega
  rcases h.2 with ⟨rfl, h0⟩ | ⟨g, cap, cur, rfl, hb, hg, hn, hm, hs, ht⟩
  · have : l = [] := List.eq_nil_of_length_eq_zero h0
    subst this
    exact ⟨none, 0, rfl, Nat.le_refl _, by unfold maxLen; omega, fun _ => rfl, fun h => by simp at h⟩
  · refine ⟨_, _, rfl, hn, hm, by simp, fun _ => ⟨g, 0, rfl, hb, fun j e he => ?_⟩⟩
    have c := fun k u (hu : (flat l)[k]? = some u) => h.cells (g := g) rfl k u hu
    obtain ⟨f0, f1, f2⟩ := flat_get l j e he
    have a0 := c _ _ f0
    have a1 := c _ _ f1
    have a2 := c _ _ f2
    rw [Addr.add_lit, Nat.zero_add] at a0 a1 a2
    exact ⟨by rw [Nat.zero_add]; exact a0, by rw [Nat.zero_add]; exact a1, by rw [Nat.zero_add]; exact a2⟩
theorem off_of_below {n₀ : Nat} {W W' : World} (hb : Below n₀ W W') (hk : KeepsOthers W W') : Off (fun k => n₀ ≤ k) W W' :=
  ⟨hb.os, hb.tape, hb.output, hb.size, fun k _ hn => hb.block k (by omega), hk.same⟩

/-- Between two rounds of AppendSeq's loop. -/
def SeqI (w : World) (n₀ N Bi Bt s : Nat) (p : Option Addr) (es : List Ev) (pre : List Ev) (W : World) : Prop :=
  Src Bi Bt s p es (fun k => k < n₀) W ∧ (∃ v, Boxed W N 60 v ∧ W.ownsRow n₀ 102 3 v pre.length (flat pre)) ∧ Off (fun k => n₀ ≤ k) w W ∧ pre.length ≤ es.length

/-- What a round leaves behind the append and the store. -/
theorem seq_next {w W w1 : World} {n₀ N Bi Bt s : Nat} {p : Option Addr} {es pre : List Ev} {x : Ev} {v v' : Value} {tmp : Obj} (hw : n₀ ≤ w.heap.size) (hN : n₀ ≤ N) (hNi : N ≠ Bi) (hNt : N ≠ Bt)
    (hs : Src Bi Bt s p es (fun k => k < n₀) W) (hv : Boxed W N 60 v) (hr : W.ownsRow n₀ 102 3 v pre.length (flat pre)) (hO : Off (fun k => n₀ ≤ k) w W) (hlen : pre.length < es.length) (hl : es.length ≤ 100000)
    (hown : w1.ownsRow n₀ 102 3 v' (pre.length + 1) (flat pre ++ flat [x])) (hg : (W.alloc tmp).grownBy w1 v.ownBlock) (B : Nat) :
    Boxed w1 N 60 v ∧ KeepsFrom B W (w1.setCell ⟨N, 0, none⟩ v') ∧ (Rd Bi Bt s (.pointer p) es W → Rd Bi Bt s (.pointer p) es (w1.setCell ⟨N, 0, none⟩ v')) ∧ SeqI w n₀ N Bi Bt s p es (pre ++ [x]) (w1.setCell ⟨N, 0, none⟩ v') := by
  obtain ⟨h1, h2, h3, h4, h5⟩ := Boxed.appended hv (by decide) hr (Nat.le_trans hw hO.size) hN hown hg
  have hW := off_of_below h5 h4
  have hbi : Boxed (w1.setCell ⟨N, 0, none⟩ v') Bi 3 (.int .i64 (s : Int)) :=
    ((hs.2.1.alloc tmp).kept hg (hs.2.1.not_row (by decide) hr)).other (Ne.symm hNi) v'
  have hbt : Boxed (w1.setCell ⟨N, 0, none⟩ v') Bt 56 (.pointer p) :=
    ((hs.2.2.alloc tmp).kept hg (hs.2.2.not_row (by decide) hr)).other (Ne.symm hNt) v'
  have hs' : Src Bi Bt s p es (fun k => k < n₀) (w1.setCell ⟨N, 0, none⟩ v') := ⟨hs.1.off hW (fun k _ h1 h2 => by omega), hbi, hbt⟩
  refine ⟨h1, h4.from B, fun _ => hs'.rd hl, hs', ⟨v', h2, ?_⟩, hO.trans hW (fun _ _ h => h), by simp; omega⟩
  rw [flat_append]
  simpa using h3

set_option maxRecDepth 100000 in
set_option maxHeartbeats 4000000 in
theorem appendseq_any (n₀ Bi Bt s : Nat) (p : Option Addr) (es : List Ev) (hs : s ≤ es.length) (hl : es.length ≤ 90000) (g cap : Nat) (w : World) (hn : n₀ ≤ w.heap.size)
    (hsrc : Src Bi Bt s p es (fun k => k < n₀) w) (hown : w.ownsRow n₀ 102 3 (.slice (some ⟨g, 0, none⟩) 0 cap) 0 []) :
    Calls Tryd.prog 77 #[.slice (some ⟨g, 0, none⟩) 0 cap, .func (.func 92) #[] #[.pointer (some ⟨Bi, 0, none⟩), .pointer (some ⟨Bt, 0, none⟩)]] w fun e W' =>
      ∃ v, e = .returned v ∧ W'.ownsRow n₀ 102 3 v (es.drop s).length (flat (es.drop s)) ∧ Off (fun k => n₀ ≤ k) w W' := by
  obtain ⟨i0, hi, hz0, hz1, hz2⟩ := info_parts ev_info
  refine (callsIn_wide (n := 3)).1 ?_
  refine callsIn_of_wp_marks Tryd.func77 rfl trivial ?_ rfl
  simp only [Tryd.ntmps77, List.size_toArray, List.length_cons, List.length_nil, Nat.reduceAdd, Nat.reduceSub, Array.replicate_succ, Array.replicate_zero, List.push_toArray, List.append_toArray, List.nil_append, List.cons_append]
  gi_wp2
  have hb := Boxed.new w 60 (.slice (some ⟨g, 0, none⟩) 0 cap)
  obtain ⟨W1, hW1⟩ : ∃ W1, W1 = w.alloc (.cells #[.slice (some ⟨g, 0, none⟩) 0 cap] 60) := ⟨_, rfl⟩
  have ho : Off (fun _ => False) w W1 := by rw [hW1]; exact (Off.refl _ w).alloc _
  have hs1 := hsrc.off ho (fun _ _ _ c => c) (fun c => c) (fun c => c)
  have hown1 : W1.ownsRow n₀ 102 3 (.slice (some ⟨g, 0, none⟩) 0 cap) 0 [] := by rw [hW1]; exact hown.alloc _
  have hsz : W1.heap.size = w.heap.size + 1 := by rw [hW1]; simp
  rw [← hW1] at hb ⊢
  have hli := hsrc.2.1.lt
  have hlt := hsrc.2.2.lt
  clear hW1
  obtain ⟨N, hN⟩ : ∃ N, N = w.heap.size := ⟨_, rfl⟩
  rw [← hN] at hb hsz hn hli hlt ⊢
  have HN := Lib.hid hN
  clear hN
  have hI0 : SeqI w n₀ N Bi Bt s p es [] W1 := ⟨hs1, ⟨_, hb, hown1⟩, ho.mono (fun _ _ c => c.elim), Nat.zero_le _⟩
  refine wpIn_rangeFunc_ownH (F := Fence.wide) (n := 3) rfl (by omega) (gf := 92) (lb := #[.pointer (some ⟨Bi, 0, none⟩), .pointer (some ⟨Bt, 0, none⟩)]) rfl trivial (enters_of Tryd.func92 (by kernel_rfl) rfl)
    (after_stops (3 - 1) (by omega) Bi Bt s p es hs (by omega) _ W1 hs1.2.1.cell hs1.2.2.cell hs1.1) (fun h k x => k (h x)) (fun W l o o' hl h hc hw => rdK_b W l o o' hl h hc hw) (Below.refl _ _) (fun _ => by rfl)
    (SeqI w n₀ N Bi Bt s p es)
    (fun _ _ _ => False)
    (fun pre A B row hs hg hr => by
      obtain ⟨h1, ⟨v, h2, h3⟩, h4, h5⟩ := hs
      have hr' : ∀ r, row = some r → ∃ o : Obj, A.heap[r]? = some o ∧ o.isCells = false := fun r e => (hr r e).2
      refine ⟨h1.kept hg hr', ⟨v, Boxed.kept_own h2 hg hr', h3.kept hg ?_⟩, h4.later hg (fun r e => by have := (hr r e).1; have := HN.out; omega), h5⟩
      rcases h3.2 with ⟨rfl, _⟩ | ⟨g, cap, cur, rfl, _, hgb, _⟩
      · exact .inl rfl
      · refine .inr fun e' => ?_
        obtain ⟨o, ho, hc⟩ := hr' g (by simpa [Value.ownBlock] using e'.symm)
        rw [hgb] at ho; cases ho; cases hc)
    (fun _ _ _ _ _ hs _ _ => hs)
    hI0
    (fun x a' W => ∃ B, W.heap[B]? = some (.cells #[.int .i64 x.1, .int .i64 x.2.1, .int .i64 x.2.2] 102 (0, 0)) ∧ a' = { tmps := #[.slice (some ⟨g, 0, none⟩) 0 cap, .func (.func 92) #[] #[.pointer (some ⟨Bi, 0, none⟩), .pointer (some ⟨Bt, 0, none⟩)], .pointer (some ⟨N, 0, none⟩), undef, .slice none 0 0, .pointer (some ⟨B, 0, none⟩), .func (.func 92) #[] #[.pointer (some ⟨Bi, 0, none⟩), .pointer (some ⟨Bt, 0, none⟩)], x.v, undef, undef, undef, undef, undef], defers := [] })
    (fun x a' _ A C row hs hg hr => by
      obtain ⟨B, h2, h3⟩ := hs
      exact ⟨B, (grownBy_keeps_cells hg (fun r e => (hr r e).2) h2 rfl).trans h2, h3⟩)
    ?assign ?body ?done ?stop
  case assign =>
    rintro l pre ⟨ek, ea, eo⟩ W K ⟨h1, ⟨v, h2, h3⟩, h4, h5⟩ hK
    simp only [Ev.v]
    gi_wp2
    have ho := (Off.refl (fun _ => False) W).alloc (.cells #[.int .i64 ek, .int .i64 ea, .int .i64 eo] 102)
    have h1' := h1.off ho (fun _ _ _ c => c) (fun c => c) (fun c => c)
    exact hK _ _ (ho.keeps.from _) (fun _ => h1'.rd (by omega)) ⟨h1', ⟨v, h2.alloc _, h3.alloc _⟩, h4.alloc _, h5⟩ ⟨W.heap.size, World.alloc_heap_new W _, rfl⟩
  case body =>
    rintro l pre ⟨ek, ea, eo⟩ a' W _ _ ⟨h1, ⟨v, h2, h3⟩, h4, h5⟩ ⟨B, hc, rfl⟩ hlen
    rw [List.length_drop] at hlen
    have c0 : W.cell? ⟨B, 0, none⟩ = some (.int .i64 ek) := by simpa using cell_of_heap hc 0
    have c1 : W.cell? ⟨B, 1, none⟩ = some (.int .i64 ea) := by simpa using cell_of_heap hc 1
    have c2 : W.cell? ⟨B, 2, none⟩ = some (.int .i64 eo) := by simpa using cell_of_heap hc 2
    have k0 := h2.cell
    obtain ⟨va, vn, vc, rfl⟩ : ∃ va vn vc, v = .slice va vn vc := by
      rcases h3.2 with ⟨rfl, _⟩ | ⟨g, cap, cur, rfl, _⟩ <;> exact ⟨_, _, _, rfl⟩
    have H1 := Lib.hid h1
    have H2 := Lib.hid h2
    have H3 := Lib.hid h3
    have H4 := Lib.hid h4
    have hlen' : pre.length < es.length := by omega
    have hn' : n₀ ≤ W.heap.size := by have := h4.size; have := HN.out; omega
    clear h1 h2 h3 h4 h5 hc hb hs1 hown1 ho hI0 hsz hsrc hown
    gi_wp2_with (gi_at_builtin; refine wpListIn_append_own _ rfl _ _ 60 rfl n₀ 102 i0 _ 3 24 Tryd.underlying60 hi hz0 hz1 hz2 rfl (by decide) _ pre.length (flat pre) rfl (H3.out.alloc _) ⟨W.heap.size, 0, none⟩ 1 1 (flat [(ek, ea, eo)]) rfl rfl ?q1 (flat_one _) ?q2 ?q3 ?q4 ?_)
    case q1 =>
      intro j u hj
      have : j = 0 ∨ j = 1 ∨ j = 2 := by
        have := (List.getElem?_eq_some_iff.1 hj).1
        simp [flat] at this; omega
      rcases this with rfl | rfl | rfl <;> simp [flat] at hj <;> subst hj <;> simp [go_sem]
    case q2 => unfold maxLen; omega
    case q3 => omega
    case q4 => simp; omega
    intro v' w1 hown' hgrow hnil
    obtain ⟨g', cap', rfl⟩ := ownsRow_succ hown'
    have hnx := seq_next (x := (ek, ea, eo)) (by have := HN.out; omega) (by omega) (by omega) (by omega) H1.out H2.out H3.out H4.out hlen' (by omega) hown' hgrow W1.heap.size
    have d0 := hnx.1.cell
    have d1 := hnx.1.frozen
    have HX := Lib.hid hnx
    clear hnx hown' hgrow hnil H1 H2 H3 H4
    gi_wp2
    exact HX.out.2
  case done =>
    rintro D ys W hD rfl ⟨h1, ⟨v, h2, h3⟩, h4, h5⟩ hK
    have k0 := h2.cell
    obtain ⟨va, vn, vc, rfl⟩ : ∃ va vn vc, v = .slice va vn vc := by
      rcases h3.2 with ⟨rfl, _⟩ | ⟨g, cap, cur, rfl, _⟩ <;> exact ⟨_, _, _, rfl⟩
    have hNw := HN.out
    have hD' : w.heap.size ≤ D := by omega
    have hfin := ownsRow_putObj h3 (.deferred none) hK rfl
    have hoff := h4.later (grownBy_putObj' W D (.deferred none)) (fun r e => by cases e; exact hD')
    clear HN hNw
    gi_wp2
    refine ⟨by simp, .inl ⟨_, _, rfl, run_takeDeferred hK, ?_⟩⟩
    refine ⟨_, results_tmp rfl _ _ _, ?_⟩
    exact ⟨.slice va vn vc, rfl, hfin, hoff⟩
  case stop =>
    rintro D c pre W _ _ h _
    exact h.elim

theorem run_make_ev (c : Nat) (hc : c ≤ 100000) : ∃ Z : Array Value, Z.size = c * 3 ∧ ∀ w : World, (Instr.makeSlice 60 (.int .i64 0) (.int .i64 (c : Int))).run Tryd.prog w = .ok (.slice (some ⟨w.heap.size, 0, none⟩) 0 c) (w.alloc (.cells Z 102)) := by
  obtain ⟨i0, hi, hz0, hz1, hz2⟩ := info_parts ev_info
  refine ⟨madeCells (Value.cells (.agg #[.int .i64 0, .int .i64 0, .int .i64 0])) (c * 3), size_madeCells _ _, fun w => ?_⟩
  have := run_make (P := Tryd.prog) w 60 102 i0 _ Tryd.underlying60 hi hz0 .i64 .i64 0 (c : Int) (Int.le_refl _) (by omega) (by rw [hz2]; omega) (by omega)
  rw [hz1] at this
  simpa using this

theorem row_new (w : World) (c n₀ : Nat) (Z : Array Value) (hZ : Z.size = c * 3) (hc : c ≤ 100000) (hn : n₀ ≤ w.heap.size) : (w.alloc (.cells Z 102)).ownsRow n₀ 102 3 (.slice (some ⟨w.heap.size, 0, none⟩) 0 c) 0 [] :=
  World.ownsRow_made w Z c hn (by unfold maxLen; omega) hZ

set_option maxRecDepth 100000 in
set_option maxHeartbeats 4000000 in
theorem since_at (p : Option Addr) (es : List Ev) (S : Nat → Prop) (n : Int) (s : Nat) (hs : s ≤ es.length) (hsn : min (max n 0) (es.length : Int) = s) (w : World) (hT : TapeV w (.pointer p) es S) (hl : es.length ≤ 90000) :
    Calls Tryd.prog 49 #[.pointer p, .int .i64 n] w fun e W' => ∃ v, e = .returned v ∧ W'.ownsRow w.heap.size 102 3 v (es.drop s).length (flat (es.drop s)) ∧ Off (fun _ => False) w W' := by
  obtain ⟨m, hm⟩ : ∃ m, m = es.length := ⟨_, rfl⟩
  obtain ⟨c, hc⟩ : ∃ c, c = m - s := ⟨_, rfl⟩
  obtain ⟨Z, hZ, hmk⟩ := run_make_ev c (by omega)
  have HL := fun X (hX : TapeV X (.pointer p) es S) => len_any _ _ _ X hX
  simp only [← hm] at HL
  have HA := fun X => after_any p (s : Int) X
  have HT := Lib.hid hT
  have HM := Lib.hid hm
  have hsub : (m : Int) - (s : Int) = (c : Int) := by omega
  have hwrap : IntKind.i64.wrap (c : Int) = (c : Int) := by rw [IntKind.wrap_i64]; omega
  have hcl : c ≤ 100000 := by omega
  rw [← hm] at hsn hs hl
  have HC := Lib.hid hc
  clear hT hm hc
  -- AppendSeq, where the new list was made first
  have hA := appendseq_any w.heap.size (w.heap.size + 1 + 1) (w.heap.size + 1) s p es (by have := HM.out; omega) (by have := HM.out; omega) w.heap.size c (((w.alloc (.cells Z 102)).alloc (.cells #[.pointer p] 56)).alloc (.cells #[.int .i64 (s : Int)] 3)).drew (by simp [World.drew]; omega)
    (by
      have h0 : TapeV w (.pointer p) es (fun k => k < w.heap.size) := HT.out.mono (fun k hk _ => hk)
      have h1 := ((h0.grown (World.grownBy_alloc _ (.cells Z 102) none)).grown (World.grownBy_alloc _ (.cells #[.pointer p] 56) none)).grown (World.grownBy_alloc _ (.cells #[.int .i64 (s : Int)] 3) none)
      have h2 := Boxed.new ((w.alloc (.cells Z 102)).alloc (.cells #[.pointer p] 56)) 3 (.int .i64 (s : Int))
      rw [World.size_alloc, World.size_alloc] at h2
      have h3 := Boxed.new (w.alloc (.cells Z 102)) 56 (.pointer p)
      rw [World.size_alloc] at h3
      have h4 := h3.alloc (.cells #[.int .i64 (s : Int)] 3)
      exact ⟨h1, h2, h4⟩)
    (((row_new w c w.heap.size Z hZ hcl (Nat.le_refl _)).alloc (.cells #[.pointer p] 56)).alloc (.cells #[.int .i64 (s : Int)] 3))
  -- .. and where the iterator was
  have hB := appendseq_any w.heap.size (w.heap.size + 1) w.heap.size s p es (by have := HM.out; omega) (by have := HM.out; omega) (w.heap.size + 1 + 1) c (((w.alloc (.cells #[.pointer p] 56)).alloc (.cells #[.int .i64 (s : Int)] 3)).alloc (.cells Z 102)).drew (by simp [World.drew]; omega)
    (by
      have h0 : TapeV w (.pointer p) es (fun k => k < w.heap.size) := HT.out.mono (fun k hk _ => hk)
      have h1 := ((h0.grown (World.grownBy_alloc _ (.cells #[.pointer p] 56) none)).grown (World.grownBy_alloc _ (.cells #[.int .i64 (s : Int)] 3) none)).grown (World.grownBy_alloc _ (.cells Z 102) none)
      have h2 := Boxed.new (w.alloc (.cells #[.pointer p] 56)) 3 (.int .i64 (s : Int))
      rw [World.size_alloc] at h2
      have h3 := h2.alloc (.cells Z 102)
      have h4 := ((Boxed.new w 56 (.pointer p)).alloc (.cells #[.int .i64 (s : Int)] 3)).alloc (.cells Z 102)
      exact ⟨h1, h3, h4⟩)
    (by have := row_new ((w.alloc (.cells #[.pointer p] 56)).alloc (.cells #[.int .i64 (s : Int)] 3)) c w.heap.size Z hZ hcl (by simp; omega); rw [World.size_alloc, World.size_alloc] at this; exact this)
  have HcA := Lib.hid hA
  have HcB := Lib.hid hB
  clear hA hB
  go_enter Tryd.func49, Tryd.ntmps49
  go_wp2_with fail
  refine (HL _ HT.out).mono ?_
  rintro e w' ⟨rfl, rfl⟩
  go_wp2_with fail
  have HTd : Hid (TapeV w.drew (.pointer p) es S) := HT.out
  go_region_with (first
    | (go_at_call 24; refine (HL _ ?_).mono ?_; (first | exact HTd.out | exact (HTd.out.grown (World.grownBy_alloc _ _ none)) | exact ((HTd.out.grown (World.grownBy_alloc _ _ none)).grown (World.grownBy_alloc _ _ none))); rintro e w' ⟨rfl, rfl⟩)
    | (go_at_call 78; refine (HA _).mono ?_; rintro e w' ⟨rfl, rfl⟩)
    | (go_at_call_of 77 (Value.slice (some ⟨w.heap.size, 0, none⟩) 0 c); refine HcA.out.mono ?_; rintro e w2 ⟨v2, rfl, hown2, hO2⟩)
    | (go_at_call 77; refine HcB.out.mono ?_; rintro e w2 ⟨v2, rfl, hown2, hO2⟩))
  all_goals
    have hR := Lib.hid hown2
    have hF : Off (fun _ => False) w w2 := (((((Off.refl (fun _ => False) w).alloc _).alloc _).alloc _).drew).trans hO2 (fun k hk h => by omega)
    clear hO2 hown2 HcA HcB HA HL hmk HT HTd
    go_wp2
    go_ret
    exact ⟨v2, rfl, hR.out, hF⟩

theorem since_own (p : Option Addr) (es : List Ev) (S : Nat → Prop) (n : Int) (w : World) (hT : TapeV w (.pointer p) es S) (hl : es.length ≤ 90000) :
    Calls Tryd.prog 49 #[.pointer p, .int .i64 n] w fun e W' => ∃ v, e = .returned v ∧ W'.ownsRow w.heap.size 102 3 v (afterV es n).length (flat (afterV es n)) ∧ Off (fun _ => False) w W' := by
  have h := since_at p es S n (min n.toNat es.length) (by omega) (by omega) w hT hl
  have e : es.drop (min n.toNat es.length) = afterV es n := by
    unfold afterV
    by_cases hh : n.toNat ≤ es.length
    · rw [Nat.min_eq_left hh]
    · rw [Nat.min_eq_right (by omega), List.drop_length, List.drop_eq_nil_of_le (by omega)]
  rw [e] at h
  exact h
theorem since_any (p : Option Addr) (es : List Ev) (S : Nat → Prop) (n : Int) (w : World) (hT : TapeV w (.pointer p) es S) (hl : es.length ≤ 90000) :
    Calls Tryd.prog 49 #[.pointer p, .int .i64 n] w fun e W' => ∃ v, e = .returned v ∧ EvsAt W' v (afterV es n) (fun k => w.heap.size ≤ k) ∧ Off (fun _ => False) w W' :=
  (since_own p es S n w hT hl).mono fun _ _ ⟨v, h1, h2, h3⟩ => ⟨v, h1, evs_of_own h2, h3⟩

set_option maxHeartbeats 400000 in
theorem events_own (p : Option Addr) (es : List Ev) (S : Nat → Prop) (w : World) (hT : TapeV w (.pointer p) es S) (hl : es.length ≤ 90000) :
    Calls Tryd.prog 26 #[.pointer p] w fun e W' => ∃ v, e = .returned v ∧ W'.ownsRow w.heap.size 102 3 v es.length (flat es) ∧ Off (fun _ => False) w W' := by
  have HS : Calls Tryd.prog 49 #[.pointer p, .int .i64 0] w fun e W' => ∃ v, e = .returned v ∧ W'.ownsRow w.heap.size 102 3 v es.length (flat es) ∧ Off (fun _ => False) w W' := since_own p es S 0 w hT hl
  clear hT
  go_enter Tryd.func26, Tryd.ntmps26
  go_wp2_with fail
  refine HS.mono ?_
  rintro e w1 ⟨v, rfl, hv, hO⟩
  have HV := Lib.hid hv
  clear hv
  go_wp2
  go_ret
  exact ⟨v, rfl, HV.out, hO⟩
theorem events_any (p : Option Addr) (es : List Ev) (S : Nat → Prop) (w : World) (hT : TapeV w (.pointer p) es S) (hl : es.length ≤ 90000) :
    Calls Tryd.prog 26 #[.pointer p] w fun e W' => ∃ v, e = .returned v ∧ EvsAt W' v es (fun k => w.heap.size ≤ k) ∧ Off (fun _ => False) w W' :=
  (events_own p es S w hT hl).mono fun _ _ ⟨v, h1, h2, h3⟩ => ⟨v, h1, evs_of_own h2, h3⟩
end
end Go.Proofs.YtclehgconbdkpaaDoor
