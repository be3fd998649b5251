/-
  The contract of (*Tape).Play over this seat's translation: it appends the events that the other tape had at the beginning, also where that is the tape itself, and returns their number. Conditions: the tapes lie in memory as TapeAt and TapeV say, apart from each other or the same, with at most 90000 events together.
-/
import Derived.Test.YtpaiigapffbinaaTapeIter
namespace Go.Proofs.Ytpaiigapffbinaa
open Go.RowKit Go.Shelf
attribute [local go_sem] Oper.semAt_some wide_fn

set_option maxHeartbeats 400000 in
theorem play_nil (p : Option Addr) (w : World) :
    Calls Try.prog 24 #[.pointer none, .pointer p] w fun e W' => e = .returned (.int .i64 0) ∧ Off (fun _ => False) w W' := by
  go_enter Try.func24, Try.ntmps24
  go_wp2
  go_ret
  exact ⟨rfl, (Off.refl _ w).alloc _⟩

/-- What is played: another tape, or the very tape on which it is played. -/
def Played (W : World) (bt : Nat) (ts : List Ev) (p : Option Addr) (us : List Ev) (S : Nat → Prop) : Prop :=
  TapeV W (.pointer p) us S ∨ (p = some ⟨bt, 0, none⟩ ∧ us = ts)
theorem Played.rd {W : World} {bt Bi Bt : Nat} {ts us pre : List Ev} {p : Option Addr} {S S' : Nat → Prop} (h : Played W bt ts p us S) (ht : TapeAt W bt (ts ++ pre) S') (hl : (ts ++ pre).length ≤ 100000) (hl2 : us.length ≤ 100000)
    (hi : Boxed W Bi 3 (.int .i64 ((0 : Nat) : Int))) (hb : Boxed W Bt 25 (.pointer p)) : Rd Bi Bt 0 (.pointer p) us W := by
  refine ⟨hi.cell, hb.cell, ?_⟩
  rcases h with h | ⟨rfl, rfl⟩
  · exact h.reads hl2
  · exact .inr ⟨bt, _, S', rfl, ht, List.prefix_append _ _, hl⟩
theorem Played.off {W W' : World} {bt : Nat} {ts us : List Ev} {p : Option Addr} {S S' : Nat → Prop} (h : Played W bt ts p us S) (ho : Off S' W W') (hd : ∀ k, k < W.heap.size → S k → ¬ S' k) : Played W' bt ts p us S := by
  rcases h with h | h
  · exact .inl (h.off ho hd)
  · exact .inr h
theorem Played.kept {W W' : World} {row : Option Nat} {bt : Nat} {ts us : List Ev} {p : Option Addr} {S : Nat → Prop} (h : Played W bt ts p us S) (hg : W.grownBy W' row) (hr : ∀ r, row = some r → ∃ o : Obj, W.heap[r]? = some o ∧ o.isCells = false) : Played W' bt ts p us S := by
  rcases h with h | h
  · exact .inl (h.kept hg hr)
  · exact .inr h

/-- Between two rounds of Play's loop. -/
def PlayI (w : World) (N bt : Nat) (ts us : List Ev) (p : Option Addr) (Su : Nat → Prop) (St S' : Nat → Prop) (pre : List Ev) (W : World) : Prop :=
  Played W bt ts p us Su ∧ TapeAt W bt (ts ++ pre) S' ∧ Boxed W N 25 (.pointer (some ⟨bt, 0, none⟩)) ∧ Boxed W (N + 1) 25 (.pointer p) ∧ Boxed W (N + 1 + 1) 3 (.int .i64 ((0 : Nat) : Int)) ∧ Off St w W ∧ pre.length ≤ us.length

theorem PlayI.rd {w W : World} {N bt : Nat} {ts us pre : List Ev} {p : Option Addr} {Su St S' : Nat → Prop} (h : PlayI w N bt ts us p Su St S' pre W) (hl : ts.length + us.length ≤ 90000) : Rd (N + 1 + 1) (N + 1) 0 (.pointer p) us W :=
  h.1.rd h.2.1 (by rw [List.length_append]; have := h.2.2.2.2.2.2; omega) (by omega) h.2.2.2.2.1 h.2.2.2.1

set_option maxRecDepth 100000 in
set_option maxHeartbeats 2000000 in
theorem play_some (bt : Nat) (ts us : List Ev) (St Su : Nat → Prop) (p : Option Addr) (w : World) (ht : TapeAt w bt ts St) (hu : TapeV w (.pointer p) us Su) (hd : (∀ k, k < w.heap.size → Su k → ¬ St k) ∨ (p = some ⟨bt, 0, none⟩ ∧ us = ts)) (hl : ts.length + us.length ≤ 90000) :
    Calls Try.prog 24 #[.pointer (some ⟨bt, 0, none⟩), .pointer p] w fun e W' => e = .returned (.int .i64 (us.length : Int)) ∧ TapeAt W' bt (ts ++ us) (fun k => St k ∨ w.heap.size ≤ k) ∧ Off St w W' := by
  refine (callsIn_wide (n := 3)).1 ?_
  refine callsIn_of_wp_marks Try.func24 rfl trivial ?_ rfl
  simp only [Try.ntmps24, List.size_toArray, List.length_cons, List.length_nil, Nat.reduceAdd, Nat.reduceSub, Array.replicate_succ, Array.replicate_zero, List.push_toArray, List.append_toArray, List.nil_append, List.cons_append]
  have HA := fun w => callsIn_wide (n := 3 - 1).2 (after_any p 0 w)
  have HL := callsIn_wide (n := 3 - 1).2 (len_any _ _ _ _ (hu.grown (World.grownBy_alloc w (.cells #[.pointer (some ⟨bt, 0, none⟩)] 25) none)))
  gi_wp2_with (first | (gi_at_call 27; refine (HA _).mono ?_; rintro e w' ⟨rfl, rfl⟩) | (gi_at_call 13; refine HL.mono ?_; rintro e w' ⟨rfl, rfl⟩))
  obtain ⟨W4, hW4⟩ : ∃ W4, W4 = ((w.alloc (.cells #[.pointer (some ⟨bt, 0, none⟩)] 25)).alloc (.cells #[.pointer p] 25)).alloc (.cells #[.int .i64 0] 3) := ⟨_, rfl⟩
  have hO : Off (fun _ => False) w W4 := by rw [hW4]; exact (((Off.refl _ w).alloc _).alloc _).alloc _
  have b0 : Boxed W4 w.heap.size 25 (.pointer (some ⟨bt, 0, none⟩)) := by rw [hW4]; exact ((Boxed.new w _ _).alloc _).alloc _
  have b1 : Boxed W4 (w.heap.size + 1) 25 (.pointer p) := by rw [hW4]; have := (Boxed.new (w.alloc (.cells #[.pointer (some ⟨bt, 0, none⟩)] 25)) 25 (.pointer p)); rw [World.size_alloc] at this; exact this.alloc _
  have b2 : Boxed W4 (w.heap.size + 1 + 1) 3 (.int .i64 0) := by rw [hW4]; have := (Boxed.new ((w.alloc (.cells #[.pointer (some ⟨bt, 0, none⟩)] 25)).alloc (.cells #[.pointer p] 25)) 3 (.int .i64 0)); rw [World.size_alloc, World.size_alloc] at this; exact this
  have hsz : W4.heap.size = w.heap.size + 1 + 1 + 1 := by rw [hW4]; simp
  have hu4 := (hu.mono (S' := fun k => Su k ∧ k < w.heap.size) (fun k hk h => ⟨h, hk⟩)).off hO (fun _ _ _ c => c)
  have ht4 : TapeAt W4 bt (ts ++ []) (fun k => (St k ∧ k < w.heap.size) ∨ w.heap.size + 1 + 1 + 1 ≤ k) := by rw [List.append_nil]; exact (TapeG.mono (S' := fun k => (St k ∧ k < w.heap.size) ∨ w.heap.size + 1 + 1 + 1 ≤ k) ht (fun k hk h => .inl ⟨h, hk⟩)).off hO (fun _ _ _ c => c)
  have hp4 : Played W4 bt ts p us (fun k => (Su k ∧ k < w.heap.size) ∧ ¬ St k) := by
    rcases hd with hd | hd
    · exact .inl (((hu.mono (S' := fun k => (Su k ∧ k < w.heap.size) ∧ ¬ St k) (fun k hk h => ⟨⟨h, hk⟩, hd k hk h⟩))).off hO (fun _ _ _ c => c))
    · exact .inr hd
  have hOt : Off St w W4 := hO.mono (fun _ _ c => c.elim)
  rw [← hW4]
  clear hW4 HA HL ht hu hd hO
  obtain ⟨N, hN⟩ : ∃ N, N = w.heap.size := ⟨_, rfl⟩
  rw [← hN] at b0 b1 b2 hsz hu4 ht4 hp4 ⊢
  have HN := Lib.hid hN
  clear hN
  obtain ⟨S', hS'⟩ : ∃ S' : Nat → Prop, S' = fun k => (St k ∧ k < N) ∨ N + 1 + 1 + 1 ≤ k := ⟨_, rfl⟩
  obtain ⟨Sd, hSd⟩ : ∃ Sd : Nat → Prop, Sd = fun k => (Su k ∧ k < N) ∧ ¬ St k := ⟨_, rfl⟩
  rw [← hS'] at ht4
  rw [← hSd] at hp4
  have hdis : ∀ k, Sd k → ¬ S' k := by
    intro k h1 h2
    rw [hSd] at h1; rw [hS'] at h2
    rcases h2 with h2 | h2
    · exact h1.2 h2.1
    · have := h1.1.2; omega
  have hSt : ∀ k, k < N → S' k → St k := by
    intro k hk h; rw [hS'] at h
    rcases h with h | h
    · exact h.1
    · omega
  have hSn : ∀ k, N + 1 + 1 + 1 ≤ k → S' k := by intro k hk; rw [hS']; exact .inr hk
  have hSb : ∀ k, N ≤ k → k < N + 1 + 1 + 1 → ¬ S' k := by
    intro k h1 h2 h; rw [hS'] at h
    rcases h with h | h <;> omega
  have hSf : ∀ k, S' k → St k ∨ N ≤ k := by
    intro k h; rw [hS'] at h
    rcases h with h | h
    · exact .inl h.1
    · exact .inr (by omega)
  have hI0 : PlayI w N bt ts us p Sd St S' [] W4 := ⟨hp4, ht4, b0, b1, b2, hOt, Nat.zero_le _⟩
  refine wpIn_rangeFunc_ownH (F := Fence.wide) (n := 3) rfl (by omega) (gf := 30) (lb := #[.pointer (some ⟨N + 1 + 1, 0, none⟩), .pointer (some ⟨N + 1, 0, none⟩)]) rfl trivial (enters_of Try.func30 (by kernel_rfl) rfl)
    (after_stops (3 - 1) (by omega) (N + 1 + 1) (N + 1) 0 p us (Nat.zero_le _) (by omega) _ W4 b2.cell b1.cell hu4) (fun h k x => k (h x)) (fun W l o o' hl h hc hw => rdK_b W l o o' hl h hc hw) (Below.refl _ _) (fun _ => by rfl)
    (PlayI w N bt ts us p Sd St S')
    (fun _ _ _ => False)
    (fun pre A B row hs hg hr => by
      obtain ⟨h1, h2, h3, h4, h5, h6, h7⟩ := hs
      have hr' : ∀ r, row = some r → ∃ o : Obj, A.heap[r]? = some o ∧ o.isCells = false := fun r e => (hr r e).2
      exact ⟨h1.kept hg hr', TapeG.kept h2 hg hr', Boxed.kept_own h3 hg hr', Boxed.kept_own h4 hg hr', Boxed.kept_own h5 hg hr', h6.later hg (fun r e => by have := (hr r e).1; have := HN.out; omega), h7⟩)
    (fun _ _ _ _ _ hs _ _ => hs)
    hI0
    (fun x a' W => ∃ B, W.heap[B]? = some (.cells #[.int .i64 x.1, .int .i64 x.2.1, .int .i64 x.2.2] 28 (0, 0)) ∧ a' = { tmps := #[.pointer (some ⟨bt, 0, none⟩), .pointer p, .pointer (some ⟨N, 0, none⟩), undef, .int .i64 0, .int .i64 us.length, .pointer (some ⟨B, 0, none⟩), .pointer (some ⟨bt, 0, none⟩), .bool false, .pointer p, .int .i64 us.length, .pointer p, .func (.func 30) #[] #[.pointer (some ⟨N + 1 + 1, 0, none⟩), .pointer (some ⟨N + 1, 0, none⟩)], x.v, undef, undef, undef, undef, undef, undef, undef, undef, undef], defers := [] })
    (fun x a' _ A C row hs hg hr => by
      obtain ⟨B, h2, h3⟩ := hs
      exact ⟨B, (grownBy_keeps_cells hg (fun r e => (hr r e).2) h2 rfl).trans h2, h3⟩)
    ?assign ?body ?done ?stop
  case assign =>
    rintro l pre ⟨ek, ea, eo⟩ W K ⟨h1, h2, h3, h4, h5, h6, h7⟩ hK
    simp only [Ev.v]
    gi_wp2
    have ho := (Off.refl (fun _ => False) W).alloc (.cells #[.int .i64 ek, .int .i64 ea, .int .i64 eo] 28)
    have hI : PlayI w N bt ts us p Sd St S' pre _ := ⟨h1.off ho (fun _ _ _ c => c), TapeG.off h2 ho (fun _ _ _ c => c), ho.heap h3 (fun c => c), ho.heap h4 (fun c => c), ho.heap h5 (fun c => c), h6.alloc _, h7⟩
    exact hK _ _ (ho.keeps.from _) (fun _ => hI.rd hl) hI ⟨W.heap.size, World.alloc_heap_new W _, rfl⟩
  case body =>
    rintro l pre ⟨ek, ea, eo⟩ a' W _ _ ⟨h1, h2, h3, h4, h5, h6, h7⟩ ⟨B, hc, rfl⟩ hlen
    simp only [List.drop_zero] at hlen
    have c0 : W.cell? ⟨B, 0, none⟩ = some (.int .i64 ek) := by simpa using cell_of_heap hc 0
    have c1 : W.cell? ⟨B, 1, none⟩ = some (.int .i64 ea) := by simpa using cell_of_heap hc 1
    have c2 : W.cell? ⟨B, 2, none⟩ = some (.int .i64 eo) := by simpa using cell_of_heap hc 2
    have k0 := h3.cell
    have hnote := CallsIn.inRound l (callsIn_wide (n := 3 - 1 - 1 - 1).2 (note_any bt (ts ++ pre) S' W h2 (by rw [List.length_append]; omega) (ek, ea, eo)))
    have HI : Hid (PlayI w N bt ts us p Sd St S' pre W) := ⟨h1, h2, h3, h4, h5, h6, h7⟩
    clear h1 h2 h3 h4 h5 h6 h7 hc b0 b1 b2 hI0 ht4 hp4 hu4 hOt hsz
    gi_wp2
    refine hnote.mono ?_
    rintro r W1 ⟨rfl, hT1, hO1⟩
    gi_wp2
    obtain ⟨h1, h2, h3, h4, h5, h6, h7⟩ := HI.out
    have hsz := h5.lt
    have hI1 : PlayI w N bt ts us p Sd St S' (pre ++ [(ek, ea, eo)]) W1 := by
      refine ⟨h1.off hO1 (fun k _ hk => hdis k hk), ?_, hO1.heap h3 (hSb _ (by omega) (by omega)), hO1.heap h4 (hSb _ (by omega) (by omega)), hO1.heap h5 (hSb _ (by omega) (by omega)), h6.trans hO1 (fun k hk h => hSt k (by have := HN.out; omega) h), by simp; omega⟩
      rw [← List.append_assoc]
      exact TapeG.mono hT1 (fun k _ h => h.elim id (fun h => hSn k (by omega)))
    exact ⟨hO1.keeps.from _, fun _ => hI1.rd hl, hI1⟩
  case done =>
    rintro D ys W hD rfl ⟨h1, h2, h3, h4, h5, h6, h7⟩ hK
    try simp only [List.drop_zero] at h2
    have hNw := HN.out
    have hD' : w.heap.size ≤ D := by omega
    clear HN
    gi_wp2
    refine ⟨by simp, .inl ⟨_, _, rfl, run_takeDeferred hK, ?_⟩⟩
    refine ⟨_, results_tmp rfl _ _ _, rfl, ?_, ?_⟩
    · exact TapeG.mono (TapeG.kept h2 (grownBy_putObj' W D _) (fun r e => by cases e; exact ⟨_, hK, rfl⟩)) (fun k _ h => (hSf k h).elim .inl (fun h => .inr (by omega)))
    · exact h6.later (grownBy_putObj' W D _) (fun r e => by cases e; exact hD')
  case stop =>
    rintro D c pre W _ _ h _
    exact h.elim
end Go.Proofs.Ytpaiigapffbinaa
