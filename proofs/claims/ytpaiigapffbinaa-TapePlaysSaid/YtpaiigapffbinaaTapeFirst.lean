/-
  The contracts of tape.First and tape.Equal over this seat's translation: -1 if the tapes have the same events, otherwise the number of events in the longest common beginning. Conditions: the tapes lie in memory as TapeV says and have at most 90000 events each.
-/
import Derived.Test.YtpaiigapffbinaaTapeIter
namespace Go.Proofs.Ytpaiigapffbinaa
open Go.RowKit Go.Shelf
attribute [local go_sem] Oper.semAt_some wide_fn

/-- The number of events in the longest common beginning. -/
def lcp : List Ev → List Ev → Nat
  | x :: l, y :: m => if x = y then lcp l m + 1 else 0
  | _, _ => 0
def firstV (l m : List Ev) : Int := if l = m then -1 else (lcp l m : Int)

theorem lcp_at : ∀ (l m : List Ev) (k : Nat), (∀ j, j < k → l[j]? = m[j]?) → k ≤ l.length → k ≤ m.length → (l[k]? = none ∨ m[k]? = none ∨ l[k]? ≠ m[k]?) → lcp l m = k := by
  intro l
  induction l with
  | nil => intro m k _ h1 _ _; simp at h1; subst h1; cases m <;> rfl
  | cons x l ih =>
    intro m k h h1 h2 h3
    cases m with
    | nil => simp at h2; subst h2; rfl
    | cons y m =>
      cases k with
      | zero =>
        have hne : x ≠ y := by rintro rfl; simp at h3
        simp [lcp, hne]
      | succ k =>
        have h0 := h 0 (by omega)
        simp at h0
        subst h0
        have := ih m k (fun j hj => by have := h (j + 1) (by omega); simpa using this) (by simp at h1; omega) (by simp at h2; omega) (by simpa using h3)
        simp [lcp, this]

theorem prefix_get {pre us : List Ev} (h : pre <+: us) {j : Nat} (hj : j < pre.length) : pre[j]? = us[j]? := by
  obtain ⟨t, rfl⟩ := h
  rw [List.getElem?_append_left hj]
theorem firstV_self (l : List Ev) : firstV l l = -1 := by simp [firstV]
/-- Where the first list goes on with x behind a common beginning, and the second one does not. -/
theorem firstV_stop {ts us pre : List Ev} {x : Ev} (ht : pre ++ [x] <+: ts) (hu : pre <+: us) (hx : us[pre.length]? ≠ some x) : firstV ts us = pre.length := by
  have htx : ts[pre.length]? = some x := by
    rw [← prefix_get ht (by simp)]; simp
  have hne : ts ≠ us := by rintro rfl; exact hx htx
  have hl : lcp ts us = pre.length := by
    refine lcp_at ts us _ (fun j hj => ?_) ?_ hu.length_le (.inr (.inr ?_))
    · rw [← prefix_get hu hj, ← prefix_get ht (by simp; omega), List.getElem?_append_left hj]
    · have := ht.length_le; simp at this; omega
    · rw [htx]; exact fun e => hx e.symm
  simp [firstV, hne, hl]
theorem firstV_end {ts us : List Ev} (hu : ts <+: us) : firstV ts us = if ts.length = us.length then -1 else (ts.length : Int) := by
  by_cases h : ts.length = us.length
  · obtain rfl := hu.eq_of_length h
    simp [firstV]
  · have hne : ts ≠ us := by rintro rfl; exact h rfl
    have hl : lcp ts us = ts.length := lcp_at ts us _ (fun j hj => prefix_get hu hj) (Nat.le_refl _) hu.length_le (.inl (List.getElem?_eq_none (Nat.le_refl _)))
    simp [firstV, hne, hl, h]

/-- Between two rounds of First's loop. -/
def FirstI (w : World) (N : Nat) (ts us : List Ev) (p q : Option Addr) (pre : List Ev) (W : World) : Prop :=
  Src (N + 1 + 1 + 1 + 1) (N + 1 + 1 + 1) 0 p ts (fun k => k < N) W ∧ TapeV W (.pointer q) us (fun k => k < N) ∧ Boxed W N 25 (.pointer q) ∧ Boxed W (N + 1) 3 (.int .i64 0) ∧ Boxed W (N + 1 + 1) 3 (.int .i64 (pre.length : Int)) ∧
  Off (fun _ => False) w W ∧ pre <+: us
theorem FirstI.off {w W W' : World} {N : Nat} {ts us pre : List Ev} {p q : Option Addr} (h : FirstI w N ts us p q pre W) (ho : Off (fun _ => False) W W') : FirstI w N ts us p q pre W' :=
  ⟨h.1.off ho (fun _ _ _ c => c) (fun c => c) (fun c => c), h.2.1.off ho (fun _ _ _ c => c), ho.heap h.2.2.1 (fun c => c), ho.heap h.2.2.2.1 (fun c => c), ho.heap h.2.2.2.2.1 (fun c => c), h.2.2.2.2.2.1.trans ho (fun _ _ c => c), h.2.2.2.2.2.2⟩
def FirstX (w : World) (N : Nat) (us : List Ev) (c : Code) (xs : List Ev) (W : World) : Prop :=
  c = .ret ∧ ∃ pre x, xs = pre ++ [x] ∧ Boxed W (N + 1) 3 (.int .i64 (pre.length : Int)) ∧ Off (fun _ => False) w W ∧ pre <+: us ∧ us[pre.length]? ≠ some x

/-- .. and where a round has stored the result. -/
theorem first_stop {w W : World} {N m : Nat} {ts us pre : List Ev} {p q : Option Addr} {x : Ev} (h : FirstI w N ts us p q pre W) (hN : N = w.heap.size) (hm : m = pre.length) (hx : us[m]? ≠ some x) (B : Nat) :
    KeepsFrom B W (W.setCell ⟨N + 1, 0, none⟩ (.int .i64 (m : Int))) ∧ FirstX w N us .ret (pre ++ [x]) (W.setCell ⟨N + 1, 0, none⟩ (.int .i64 (m : Int))) := by
  subst hm
  obtain ⟨h1, h2, h3, h4, h5, h6, h7⟩ := h
  refine ⟨(KeepsOthers.setCell _ _ _).from _, rfl, pre, x, rfl, h4.set _, h6.setCell (fun h => by simp at h; omega) _, h7, hx⟩
/-- .. and where it goes on. -/
theorem first_next {w W : World} {N m : Nat} {ts us pre : List Ev} {p q : Option Addr} {x : Ev} (h : FirstI w N ts us p q pre W) (hN : N = w.heap.size) (hl : ts.length ≤ 100000) (hm : m = pre.length) (hx : us[m]? = some x) (B : Nat) :
    KeepsFrom B W (W.setCell ⟨N + 1 + 1, 0, none⟩ (.int .i64 ((m : Int) + 1))) ∧
    (Rd (N + 1 + 1 + 1 + 1) (N + 1 + 1 + 1) 0 (.pointer p) ts W → Rd (N + 1 + 1 + 1 + 1) (N + 1 + 1 + 1) 0 (.pointer p) ts (W.setCell ⟨N + 1 + 1, 0, none⟩ (.int .i64 ((m : Int) + 1)))) ∧
    FirstI w N ts us p q (pre ++ [x]) (W.setCell ⟨N + 1 + 1, 0, none⟩ (.int .i64 ((m : Int) + 1))) := by
  subst hm
  obtain ⟨h1, h2, h3, h4, h5, h6, h7⟩ := h
  have ho : Off (fun k => k = N + 1 + 1) W (W.setCell ⟨N + 1 + 1, 0, none⟩ (.int .i64 ((pre.length : Int) + 1))) := (Off.refl (fun k => k = N + 1 + 1) W).setCell (p := ⟨N + 1 + 1, 0, none⟩) (fun _ => rfl) _
  have h1' := h1.off ho (fun k _ hk e => by omega) (by omega) (by omega)
  refine ⟨ho.keeps.from _, fun _ => h1'.rd hl, h1', h2.off ho (fun k _ hk e => by omega), ho.heap h3 (by omega), ho.heap h4 (by omega), ?_, h6.setCell (fun h => by simp at h; omega) _, ?_⟩
  · have : (((pre ++ [x]).length : Nat) : Int) = (pre.length : Int) + 1 := by simp
    rw [this]; exact h5.set _
  · obtain ⟨t, rfl⟩ := h7
    rw [List.getElem?_append_right (Nat.le_refl _), Nat.sub_self] at hx
    cases t with
    | nil => simp at hx
    | cons y t => simp at hx; subst hx; exact ⟨t, by simp⟩

theorem first_stop_drew {w W : World} {N m : Nat} {ts us pre : List Ev} {p q : Option Addr} {x : Ev} (h : FirstI w N ts us p q pre W) (hN : N = w.heap.size) (hm : m = pre.length) (hx : us[m]? ≠ some x) (B : Nat) :
    KeepsFrom B W (W.setCell ⟨N + 1, 0, none⟩ (.int .i64 (m : Int))).drew ∧ FirstX w N us .ret (pre ++ [x]) (W.setCell ⟨N + 1, 0, none⟩ (.int .i64 (m : Int))).drew := by
  obtain ⟨h1, h2, pre', x', h3, h4, h5, h6⟩ := first_stop h hN hm hx B
  exact ⟨⟨h1.size, h1.same⟩, h2, pre', x', h3, h4, h5.drew, h6⟩
theorem first_stop_later {w W W1 : World} {N m : Nat} {ts us pre : List Ev} {p q : Option Addr} {x : Ev} (h : FirstI w N ts us p q pre W) (hN : N = w.heap.size) (ho : Off (fun _ => False) W W1) (hm : m = pre.length) (hx : us[m]? ≠ some x) (B : Nat) :
    KeepsFrom B W (W1.setCell ⟨N + 1, 0, none⟩ (.int .i64 (m : Int))) ∧ FirstX w N us .ret (pre ++ [x]) (W1.setCell ⟨N + 1, 0, none⟩ (.int .i64 (m : Int))) := by
  obtain ⟨h1, h2⟩ := first_stop (h.off ho) hN hm hx B
  exact ⟨(ho.keeps.from B).trans h1, h2⟩
theorem first_next_later {w W W1 : World} {N m : Nat} {ts us pre : List Ev} {p q : Option Addr} {x : Ev} (h : FirstI w N ts us p q pre W) (hN : N = w.heap.size) (hl : ts.length ≤ 100000) (ho : Off (fun _ => False) W W1) (hm : m = pre.length) (hx : us[m]? = some x) (B : Nat) :
    KeepsFrom B W (W1.setCell ⟨N + 1 + 1, 0, none⟩ (.int .i64 ((m : Int) + 1))) ∧
    (Rd (N + 1 + 1 + 1 + 1) (N + 1 + 1 + 1) 0 (.pointer p) ts W → Rd (N + 1 + 1 + 1 + 1) (N + 1 + 1 + 1) 0 (.pointer p) ts (W1.setCell ⟨N + 1 + 1, 0, none⟩ (.int .i64 ((m : Int) + 1)))) ∧
    FirstI w N ts us p q (pre ++ [x]) (W1.setCell ⟨N + 1 + 1, 0, none⟩ (.int .i64 ((m : Int) + 1))) := by
  obtain ⟨h1, h2, h3⟩ := first_next (h.off ho) hN hl hm hx B
  exact ⟨(ho.keeps.from B).trans h1, fun _ => h2 ((h.off ho).1.rd hl), h3⟩

theorem first_ret {w W : World} {N D : Nat} {v : Value} (hb : Boxed W (N + 1) 3 v) (ho : Off (fun _ => False) w W) (hK : W.heap[D]? = some (.deferred (some []))) (hD : w.heap.size ≤ D) :
    (W.putObj D (.deferred none)).cell? ⟨N + 1, 0, none⟩ = some v ∧ Off (fun _ => False) w (W.putObj D (.deferred none)) :=
  ⟨(Boxed.kept_own hb (grownBy_putObj' W D _) (fun r e => by cases e; exact ⟨_, hK, rfl⟩)).cell, ho.later (grownBy_putObj' W D _) (fun r e => by cases e; exact hD)⟩
theorem first_fin {w W : World} {N D nq : Nat} {u v : Value} (hb : Boxed W (N + 1) 3 u) (ho : Off (fun _ => False) w W) (hK : W.heap[D]? = some (.deferred (some []))) (hN : N = w.heap.size) (hD : w.heap.size ≤ D) :
    ((W.drewN nq).setCell ⟨N + 1, 0, none⟩ v).heap[D]? = some (.deferred (some [])) ∧
    (((W.drewN nq).setCell ⟨N + 1, 0, none⟩ v).putObj D (.deferred none)).cell? ⟨N + 1, 0, none⟩ = some v ∧ Off (fun _ => False) w (((W.drewN nq).setCell ⟨N + 1, 0, none⟩ v).putObj D (.deferred none)) := by
  have e : W.grownBy (W.drewN nq) none := ⟨rfl, rfl, rfl, Nat.le_refl _, fun _ _ _ => rfl⟩
  have hb' := Boxed.kept_own hb e (fun r h => by cases h)
  have h1 := hb'.set v
  have h2 : Off (fun _ => False) w ((W.drewN nq).setCell ⟨N + 1, 0, none⟩ v) := (ho.later e (fun r h => by cases h)).setCell (fun h => by simp at h; omega) _
  have h3 := (KeepsOthers.setCell (W.drewN nq) ⟨N + 1, 0, none⟩ v).same D _ hK rfl
  have := first_ret h1 h2 h3 hD
  exact ⟨h3, this.1, this.2⟩

set_option maxRecDepth 100000 in
set_option maxHeartbeats 4000000 in
theorem first_any (p q : Option Addr) (ts us : List Ev) (St Su : Nat → Prop) (w : World) (ht : TapeV w (.pointer p) ts St) (hu : TapeV w (.pointer q) us Su) (hl : ts.length ≤ 90000) (hl2 : us.length ≤ 90000) :
    Calls Try.prog 22 #[.pointer p, .pointer q] w fun e W' => e = .returned (.int .i64 (firstV ts us)) ∧ Off (fun _ => False) w W' := by
  refine (callsIn_wide (n := 4)).1 ?_
  refine callsIn_of_wp_marks Try.func22 rfl trivial ?_ rfl
  simp only [Try.ntmps22, List.size_toArray, List.length_cons, List.length_nil, Nat.reduceAdd, Nat.reduceSub, Array.replicate_succ, Array.replicate_zero, List.push_toArray, List.append_toArray, List.nil_append, List.cons_append]
  have HA := fun w => callsIn_wide (n := 4 - 1).2 (after_any p 0 w)
  gi_wp2_with (gi_at_call 27; refine (HA _).mono ?_; rintro e w' ⟨rfl, rfl⟩)
  obtain ⟨W4, hW4⟩ : ∃ W4, W4 = ((((w.alloc (.cells #[.pointer q] 25)).alloc (.cells #[.int .i64 0] 3)).alloc (.cells #[.int .i64 0] 3)).alloc (.cells #[.pointer p] 25)).alloc (.cells #[.int .i64 0] 3) := ⟨_, rfl⟩
  have hO : Off (fun _ => False) w W4 := by rw [hW4]; exact (((((Off.refl _ w).alloc _).alloc _).alloc _).alloc _).alloc _
  have b0 : Boxed W4 w.heap.size 25 (.pointer q) := by rw [hW4]; exact ((((Boxed.new w _ _).alloc _).alloc _).alloc _).alloc _
  have b1 : Boxed W4 (w.heap.size + 1) 3 (.int .i64 0) := by rw [hW4]; have := Boxed.new (w.alloc (.cells #[.pointer q] 25)) 3 (.int .i64 0); rw [World.size_alloc] at this; exact ((this.alloc _).alloc _).alloc _
  have b2 : Boxed W4 (w.heap.size + 1 + 1) 3 (.int .i64 0) := by rw [hW4]; have := Boxed.new ((w.alloc (.cells #[.pointer q] 25)).alloc (.cells #[.int .i64 0] 3)) 3 (.int .i64 0); rw [World.size_alloc, World.size_alloc] at this; exact (this.alloc _).alloc _
  have b3 : Boxed W4 (w.heap.size + 1 + 1 + 1) 25 (.pointer p) := by rw [hW4]; have := Boxed.new (((w.alloc (.cells #[.pointer q] 25)).alloc (.cells #[.int .i64 0] 3)).alloc (.cells #[.int .i64 0] 3)) 25 (.pointer p); rw [World.size_alloc, World.size_alloc, World.size_alloc] at this; exact this.alloc _
  have b4 : Boxed W4 (w.heap.size + 1 + 1 + 1 + 1) 3 (.int .i64 0) := by rw [hW4]; have := Boxed.new ((((w.alloc (.cells #[.pointer q] 25)).alloc (.cells #[.int .i64 0] 3)).alloc (.cells #[.int .i64 0] 3)).alloc (.cells #[.pointer p] 25)) 3 (.int .i64 0); rw [World.size_alloc, World.size_alloc, World.size_alloc, World.size_alloc] at this; exact this
  have hsz : W4.heap.size = w.heap.size + 1 + 1 + 1 + 1 + 1 := by rw [hW4]; simp
  have ht4 : TapeV W4 (.pointer p) ts (fun k => k < w.heap.size) := (ht.mono (fun k hk _ => hk)).off hO (fun _ _ _ c => c)
  have hu4 : TapeV W4 (.pointer q) us (fun k => k < w.heap.size) := (hu.mono (fun k hk _ => hk)).off hO (fun _ _ _ c => c)
  rw [← hW4]
  clear hW4 HA ht hu
  obtain ⟨N, hN⟩ : ∃ N, N = w.heap.size := ⟨_, rfl⟩
  rw [← hN] at b0 b1 b2 b3 b4 hsz hu4 ht4 ⊢
  have HN := Lib.hid hN
  clear hN
  have hI0 : FirstI w N ts us p q [] W4 := ⟨⟨ht4, b4, b3⟩, hu4, b0, b1, b2, hO, List.nil_prefix⟩
  refine wpIn_rangeFunc_ownH (F := Fence.wide) (n := 4) rfl (by omega) (gf := 30) (lb := #[.pointer (some ⟨N + 1 + 1 + 1 + 1, 0, none⟩), .pointer (some ⟨N + 1 + 1 + 1, 0, none⟩)]) rfl trivial (enters_of Try.func30 (by kernel_rfl) rfl)
    (after_stops (4 - 1) (by omega) (N + 1 + 1 + 1 + 1) (N + 1 + 1 + 1) 0 p ts (Nat.zero_le _) (by omega) _ W4 b4.cell b3.cell ht4) (fun h k x => k (h x)) (fun W l o o' hl h hc hw => rdK_b W l o o' hl h hc hw) (Below.refl _ _) (fun _ => by rfl)
    (FirstI w N ts us p q)
    (FirstX w N us)
    (fun pre A B row hs hg hr => by
      obtain ⟨h1, h2, h3, h4, h5, h6, h7⟩ := hs
      have hr' : ∀ r, row = some r → ∃ o : Obj, A.heap[r]? = some o ∧ o.isCells = false := fun r e => (hr r e).2
      exact ⟨h1.kept hg hr', h2.kept hg hr', Boxed.kept_own h3 hg hr', Boxed.kept_own h4 hg hr', Boxed.kept_own h5 hg hr', h6.later hg (fun r e => by have := (hr r e).1; have := HN.out; omega), h7⟩)
    (fun c xs A B row hs hg hr => by
      obtain ⟨h1, pre, x, h2, h3, h4, h5⟩ := hs
      exact ⟨h1, pre, x, h2, Boxed.kept_own h3 hg (fun r e => (hr r e).2), h4.later hg (fun r e => by have := (hr r e).1; have := HN.out; omega), h5⟩)
    hI0
    (fun x a' W => ∃ B, W.heap[B]? = some (.cells #[.int .i64 x.1, .int .i64 x.2.1, .int .i64 x.2.2] 28 (0, 0)) ∧ a' = { tmps := #[.pointer p, .pointer q, undef, .pointer (some ⟨N, 0, none⟩), .pointer (some ⟨N + 1, 0, none⟩), .pointer (some ⟨N + 1 + 1, 0, none⟩), .pointer (some ⟨B, 0, none⟩), .pointer p, .func (.func 30) #[] #[.pointer (some ⟨N + 1 + 1 + 1 + 1, 0, none⟩), .pointer (some ⟨N + 1 + 1 + 1, 0, none⟩)], x.v, undef, undef, undef, undef, undef, undef, undef, undef, undef, undef, undef, undef, undef, undef, undef, undef, undef, undef, undef], defers := [] })
    (fun x a' _ A C row hs hg hr => by
      obtain ⟨B, h2, h3⟩ := hs
      exact ⟨B, (grownBy_keeps_cells hg (fun r e => (hr r e).2) h2 rfl).trans h2, h3⟩)
    ?assign ?body ?done ?stop
  case assign =>
    rintro l pre ⟨ek, ea, eo⟩ W K hI hK
    simp only [Ev.v]
    gi_wp2
    have ho := (Off.refl (fun _ => False) W).alloc (.cells #[.int .i64 ek, .int .i64 ea, .int .i64 eo] 28)
    have hI' := hI.off ho
    exact hK _ _ (ho.keeps.from _) (fun _ => hI'.1.rd (by omega)) hI' ⟨W.heap.size, World.alloc_heap_new W _, rfl⟩
  case body =>
    rintro l pre ⟨ek, ea, eo⟩ a' W _ _ hI ⟨B, hc, rfl⟩ hlen
    simp only [List.drop_zero] at hlen
    have hmx : Try.prog.follows .mixedOrders = true := by kernel_rfl
    have c0 : W.cell? ⟨B, 0, none⟩ = some (.int .i64 ek) := by simpa using cell_of_heap hc 0
    have c1 : W.cell? ⟨B, 1, none⟩ = some (.int .i64 ea) := by simpa using cell_of_heap hc 1
    have c2 : W.cell? ⟨B, 2, none⟩ = some (.int .i64 eo) := by simpa using cell_of_heap hc 2
    have k0 := hI.2.2.1.cell
    have k1 := hI.2.2.2.1.cell
    have f1 := hI.2.2.2.1.frozen
    have k2 := hI.2.2.2.2.1.cell
    have f2 := hI.2.2.2.2.1.frozen
    have hple := hI.2.2.2.2.2.2.length_le
    have hlenu := fun X (hX : TapeV X (.pointer q) us (fun k => k < N)) => CallsIn.inRound l (callsIn_wide (n := 4 - 1 - 1 - 1).2 (len_any _ _ _ X hX))
    obtain ⟨m, hm⟩ : ∃ m, m = pre.length := ⟨_, rfl⟩
    obtain ⟨n, hn⟩ : ∃ n, n = us.length := ⟨_, rfl⟩
    rw [← hm] at k2 hple hlen
    simp only [← hn] at hlenu hple
    rw [← hn] at hl2
    have HI := Lib.hid hI
    have HM := Lib.hid hm
    have HN2 := Lib.hid hn
    clear hm hn hI hc b0 b1 b2 b3 b4 hI0 ht4 hu4 hO hsz
    by_cases hk : m = n
    · have hk' : ((m : Int) == n) = true := by simp [hk]
      have HK := Lib.hid hk
      clear hk
      gi_wp2
      gi_region_with_o (gi_at_call 13; refine (hlenu _ ?_).mono ?_; (exact HI.out.2.1); rintro e w' ⟨rfl, rfl⟩)
      all_goals
        gi_wp2
        exact first_stop_drew HI.out HN.out HM.out (by rw [List.getElem?_eq_none (by have := HK.out; have := HN2.out; omega)]; simp) _
    · have hk' : ((m : Int) == n) = false := by simp; omega
      obtain ⟨y, hy⟩ : ∃ y, us[m]? = some y := ⟨us[m]'(by have := HN2.out; omega), List.getElem?_eq_getElem _⟩
      obtain ⟨_, hnil⟩ | ⟨b, hq, hb⟩ := HI.out.2.1
      · subst hnil; simp at hy
      · obtain rfl : q = some ⟨b, 0, none⟩ := by simpa using hq
        have hat := CallsIn.inRound l (callsIn_wide (n := 4 - 1 - 1 - 1).2 (at_any b us _ W.drew (TapeG.drew hb) (by have := HN2.out; omega) m y hy))
        have HY := Lib.hid hy
        clear hy hq hb hk
        obtain ⟨yk, ya, yo⟩ := y
        simp only [Ev.v] at hat
        by_cases hxy : ((ek, ea, eo) : Ev) = (yk, ya, yo)
        · have hne : ∀ X : World, (binOp .neq 28 (.agg #[.int .i64 ek, .int .i64 ea, .int .i64 eo]) (.agg #[.int .i64 yk, .int .i64 ya, .int .i64 yo])).run Try.prog X = .ok (.bool false) X := fun X => by
            have := neq_ev (ek, ea, eo) (yk, ya, yo) X
            rw [decide_eq_true hxy] at this; exact this
          have HX := Lib.hid hxy
          clear hxy
          gi_wp2
          gi_region_with_o (first
            | (gi_at_call 13; refine (hlenu _ ?_).mono ?_; (exact HI.out.2.1); rintro e w' ⟨rfl, rfl⟩)
            | (gi_at_call 29; refine hat.mono ?_; rintro e w1 ⟨rfl, hO1⟩; have d0 := hO1.cell c0 (fun c => c); have d1 := hO1.cell c1 (fun c => c); have d2 := hO1.cell c2 (fun c => c); have e2 := hO1.cell k2 (fun c => c)))
          all_goals
            have hF := HI.out.off (((Off.refl (fun _ => False) W).drew).trans hO1 (fun _ _ c => c))
            have e3 := hF.2.2.2.2.1.frozen
            have HF := Lib.hid (first_next_later HI.out HN.out (by omega) (((Off.refl (fun _ => False) W).drew).trans hO1 (fun _ _ c => c)) HM.out HY.out W4.heap.size)
            clear hF hat hlenu c0 c1 c2 k0 k1 k2 f1 f2 d0 d1 d2 hne
            gi_wp2
            have := HF.out
            rw [← HX.out] at this
            exact this
        · have hne : ∀ X : World, (binOp .neq 28 (.agg #[.int .i64 ek, .int .i64 ea, .int .i64 eo]) (.agg #[.int .i64 yk, .int .i64 ya, .int .i64 yo])).run Try.prog X = .ok (.bool true) X := fun X => by
            have := neq_ev (ek, ea, eo) (yk, ya, yo) X
            rw [decide_eq_false hxy] at this; exact this
          have HX := Lib.hid hxy
          clear hxy
          gi_wp2
          gi_region_with_o (first
            | (gi_at_call 13; refine (hlenu _ ?_).mono ?_; (exact HI.out.2.1); rintro e w' ⟨rfl, rfl⟩)
            | (gi_at_call 29; refine hat.mono ?_; rintro e w1 ⟨rfl, hO1⟩; have d0 := hO1.cell c0 (fun c => c); have d1 := hO1.cell c1 (fun c => c); have d2 := hO1.cell c2 (fun c => c); have e2 := hO1.cell k2 (fun c => c)))
          all_goals
            have hF := HI.out.off (((Off.refl (fun _ => False) W).drew).trans hO1 (fun _ _ c => c))
            have e3 := hF.2.2.2.1.frozen
            have e4 := hF.2.2.2.1.cell
            have HF := Lib.hid (first_stop_later HI.out HN.out (((Off.refl (fun _ => False) W).drew).trans hO1 (fun _ _ c => c)) HM.out (x := (ek, ea, eo)) (by rw [HY.out]; intro e; exact HX.out (Option.some.inj e).symm) W4.heap.size)
            clear hF hat hlenu c0 c1 c2 k0 k1 k2 f1 f2 d0 d1 d2 hne
            gi_wp2
            exact HF.out
  case done =>
    rintro D ys W hD rfl ⟨h1, h2, h3, h4, h5, h6, h7⟩ hK
    try simp only [List.drop_zero] at h5 h7
    have hmx : Try.prog.follows .mixedOrders = true := by kernel_rfl
    have hN := HN.out
    have hD' : w.heap.size ≤ D := by omega
    have hDlt := heap_lt hK
    have hv := firstV_end h7
    have k0 := h3.cell
    have k1 := h4.cell
    have f1 := h4.frozen
    have k2 := h5.cell
    have HT : Hid (TapeV W (.pointer q) us (fun k => k < N)) := h2
    have HL := Lib.hid h6
    have HB := Lib.hid h4
    have hlenu := fun X (hX : TapeV X (.pointer q) us (fun k => k < N)) => callsIn_wide (n := 4 - 1).2 (len_any _ _ _ X hX)
    obtain ⟨m, hm⟩ : ∃ m, m = ys.length := ⟨_, rfl⟩
    obtain ⟨n, hn⟩ : ∃ n, n = us.length := ⟨_, rfl⟩
    rw [← hm] at k2 hv hl
    rw [← hn] at hv hl2
    simp only [← hn] at hlenu
    have HV := Lib.hid hv
    have HD := Lib.hid hD'
    have HE := Lib.hid hN
    clear hv hm hn h1 h2 h3 h4 h5 h6 h7 b0 b1 b2 b3 b4 hI0 hu4 ht4 hO hN HN hD' hsz hD
    gi_wp2
    gi_big_quiet_th_o ((refine (hlenu _ ?_).mono ?_; (exact HT.out); rintro e w' ⟨rfl, rfl⟩; exact ⟨rfl, _, rfl⟩))
    by_cases hmn : m = n
    · have hmn' : ((m : Int) == n) = true := by simp [hmn]
      have HMN := Lib.hid hmn
      clear hmn hlenu
      gi_wp2
      have hfin := first_fin (nq := nq) (v := .int .i64 (-1)) HB.out HL.out hK HE.out HD.out
      refine ⟨by simp, .inl ⟨_, _, rfl, run_takeDeferred hfin.1, ?_⟩⟩
      refine ⟨.int .i64 (-1), by simp [results, Try.results22, go_sem, hfin.2.1], ?_, hfin.2.2⟩
      rw [HV.out, if_pos HMN.out]
    · have hmn' : ((m : Int) == n) = false := by simp; omega
      have HMN := Lib.hid hmn
      clear hmn hlenu
      gi_wp2
      have hfin := first_fin (nq := nq) (v := .int .i64 (m : Int)) HB.out HL.out hK HE.out HD.out
      refine ⟨by simp, .inl ⟨_, _, rfl, run_takeDeferred hfin.1, ?_⟩⟩
      refine ⟨.int .i64 (m : Int), by simp [results, Try.results22, go_sem, hfin.2.1], ?_, hfin.2.2⟩
      rw [HV.out, if_neg HMN.out]
  case stop =>
    rintro D c pre W hD hSp ⟨rfl, pre', x, rfl, hb, ho, hp, hx⟩ hK
    have hv : firstV ts us = pre'.length := by
      obtain ⟨k, _, hk⟩ := hSp
      rw [List.drop_zero] at hk
      exact firstV_stop (x := x) (hk ▸ List.take_prefix k ts) hp hx
    have hD' : w.heap.size ≤ D := by have := HN.out; omega
    have hfin := first_ret hb ho hK hD'
    clear hSp hp hx b0 b1 b2 b3 b4 hI0 hu4 ht4 hO HN hsz hD
    gi_wp2
    refine ⟨by simp, .inl ⟨_, _, rfl, run_takeDeferred hK, ?_⟩⟩
    refine ⟨.int .i64 (pre'.length : Int), by simp [results, Try.results22, go_sem, hfin.1], ?_, hfin.2⟩
    rw [hv]

set_option maxHeartbeats 400000 in
theorem equal_any (p q : Option Addr) (ts us : List Ev) (St Su : Nat → Prop) (w : World) (ht : TapeV w (.pointer p) ts St) (hu : TapeV w (.pointer q) us Su) (hl : ts.length ≤ 90000) (hl2 : us.length ≤ 90000) :
    Calls Try.prog 23 #[.pointer p, .pointer q] w fun e W' => e = .returned (.bool (decide (ts = us))) ∧ Off (fun _ => False) w W' := by
  have HF := first_any p q ts us St Su w ht hu hl hl2
  by_cases h : ts = us
  · have hv : firstV ts us = -1 := by simp [firstV, h]
    rw [hv] at HF
    rw [decide_eq_true h]
    clear h hv ht hu
    go_enter Try.func23, Try.ntmps23
    go_wp2_with fail
    refine HF.mono ?_
    rintro e w1 ⟨rfl, hO⟩
    go_wp2
    go_ret
    exact ⟨rfl, hO⟩
  · obtain ⟨n, hv⟩ : ∃ n : Nat, firstV ts us = n := ⟨lcp ts us, by simp [firstV, h]⟩
    rw [hv] at HF
    rw [decide_eq_false h]
    have hn : ((n : Int) < 0) = False := by simp
    clear h hv ht hu
    go_enter Try.func23, Try.ntmps23
    go_wp2_with fail
    refine HF.mono ?_
    rintro e w1 ⟨rfl, hO⟩
    go_wp2
    go_ret
    exact ⟨rfl, hO⟩
end Go.Proofs.Ytpaiigapffbinaa
