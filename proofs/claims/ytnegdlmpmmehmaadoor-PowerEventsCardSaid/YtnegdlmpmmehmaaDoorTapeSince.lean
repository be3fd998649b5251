/-
  Contracts of slices.AppendSeq over the tape's iterator, and of (*Tape).Since and Events, over this seat's translation: the events after the first n ones, in memory of their own. Conditions: the tape lies in memory as TapeV says and has at most 90000 events.
-/
import Derived.Test.YtnegdlmpmmehmaaDoorTapeRefs
import Derived.Laws.MakeOwn
import Derived.Deep.RegionWith
namespace Go.Proofs.YtnegdlmpmmehmaaDoor
open Go.RowKit Go.Shelf
attribute [local go_sem] Oper.semAt_some wide_fn

/-- A list of events, cell by cell. -/
def flat : List Ev → List Value
  | [] => []
  | e :: l => .int .i64 e.1 :: .int .i64 e.2.1 :: .int .i64 e.2.2 :: flat l
theorem flat_length : ∀ l : List Ev, (flat l).length = l.length * 3
  | [] => rfl
  | e :: l => by simp [flat, flat_length l]; omega
theorem flat_append : ∀ l m : List Ev, flat (l ++ m) = flat l ++ flat m
  | [], m => rfl
  | e :: l, m => by simp [flat, flat_append l m]
theorem flat_one (l : List Ev) : ∀ u ∈ flat l, u.oneCell' = true := by
  induction l with
  | nil => intro u hu; simp [flat] at hu
  | cons e l ih =>
    intro u hu
    simp only [flat, List.mem_cons] at hu
    rcases hu with rfl | rfl | rfl | hu
    · rfl
    · rfl
    · rfl
    · exact ih u hu
theorem flat_get : ∀ (l : List Ev) (j : Nat) (e : Ev), l[j]? = some e → (flat l)[j * 3]? = some (.int .i64 e.1) ∧ (flat l)[j * 3 + 1]? = some (.int .i64 e.2.1) ∧ (flat l)[j * 3 + 2]? = some (.int .i64 e.2.2)
  | [], j, e, h => by simp at h
  | x :: l, 0, e, h => by simp at h; subst h; simp [flat]
  | x :: l, j + 1, e, h => by
    have := flat_get l j e (by simpa using h)
    rw [show (j + 1) * 3 = j * 3 + 3 by omega]
    simpa [flat] using this
/-- Cells that hold a list of events. -/
theorem flat_cells {w : World} {b off : Nat} {l : List Ev} (h : ∀ j e, l[j]? = some e → evAt w b (off + j * 3) e) : ∀ j u, (flat l)[j]? = some u → w.cell? ⟨b, off + j, none⟩ = some u := by
  intro j u hj
  have hlt := (List.getElem?_eq_some_iff.1 hj).1
  rw [flat_length] at hlt
  obtain ⟨e, he⟩ : ∃ e, l[j / 3]? = some e := ⟨l[j / 3]'(by omega), List.getElem?_eq_getElem _⟩
  obtain ⟨f0, f1, f2⟩ := flat_get l (j / 3) e he
  obtain ⟨c0, c1, c2⟩ := h (j / 3) e he
  have hr : j % 3 = 0 ∨ j % 3 = 1 ∨ j % 3 = 2 := by omega
  rcases hr with hr | hr | hr
  · have hj' : j = j / 3 * 3 := by omega
    rw [hj', f0] at hj; cases hj
    rw [hj']; exact c0
  · have hj' : j = j / 3 * 3 + 1 := by omega
    rw [hj', f1] at hj; cases hj
    rw [hj', ← Nat.add_assoc]; exact c1
  · have hj' : j = j / 3 * 3 + 2 := by omega
    rw [hj', f2] at hj; cases hj
    rw [hj', ← Nat.add_assoc]; exact c2
/-- A row of the call's own that holds a list of events. -/
theorem evs_of_own {w : World} {base n : Nat} {v : Value} {l : List Ev} (h : w.ownsRow base 76 3 v n (flat l)) : EvsAt w v l (fun k => base ≤ k) := by
  have hl := h.1
  rw [flat_length] at hl
  obtain rfl : l.length = n := by omega
  rcases h.2 with ⟨rfl, h0⟩ | ⟨g, cap, cur, rfl, hb, hg, hn, hm, hs, ht⟩
  · have : l = [] := List.eq_nil_of_length_eq_zero h0
    subst this
    exact ⟨none, 0, rfl, Nat.le_refl _, by unfold maxLen; omega, fun _ => rfl, fun h => by simp at h⟩
  · refine ⟨_, _, rfl, hn, hm, by simp, fun _ => ⟨g, 0, rfl, hb, fun j e he => ?_⟩⟩
    have c := fun k u (hu : (flat l)[k]? = some u) => h.cells (g := g) rfl k u hu
    obtain ⟨f0, f1, f2⟩ := flat_get l j e he
    have a0 := c _ _ f0
    have a1 := c _ _ f1
    have a2 := c _ _ f2
    rw [Addr.add_lit, Nat.zero_add] at a0 a1 a2
    exact ⟨by rw [Nat.zero_add]; exact a0, by rw [Nat.zero_add]; exact a1, by rw [Nat.zero_add]; exact a2⟩
theorem off_of_below {n₀ : Nat} {W W' : World} (hb : Below n₀ W W') (hk : KeepsOthers W W') : Off (fun k => n₀ ≤ k) W W' :=
  ⟨hb.os, hb.tape, hb.output, hb.size, fun k _ hn => hb.block k (by omega), hk.same⟩

/-- Between two rounds of AppendSeq's loop. -/
def SeqI (w : World) (n₀ N Bi Bt s : Nat) (p : Option Addr) (es : List Ev) (pre : List Ev) (W : World) : Prop :=
  Src Bi Bt s p es (fun k => k < n₀) W ∧ (∃ v, Boxed W N 43 v ∧ W.ownsRow n₀ 76 3 v pre.length (flat pre)) ∧ Off (fun k => n₀ ≤ k) w W ∧ pre.length ≤ es.length

/-- What a round leaves behind the append and the store. -/
theorem seq_next {w W w1 : World} {n₀ N Bi Bt s : Nat} {p : Option Addr} {es pre : List Ev} {x : Ev} {v v' : Value} {tmp : Obj} (hw : n₀ ≤ w.heap.size) (hN : n₀ ≤ N) (hNi : N ≠ Bi) (hNt : N ≠ Bt)
    (hs : Src Bi Bt s p es (fun k => k < n₀) W) (hv : Boxed W N 43 v) (hr : W.ownsRow n₀ 76 3 v pre.length (flat pre)) (hO : Off (fun k => n₀ ≤ k) w W) (hlen : pre.length < es.length) (hl : es.length ≤ 100000)
    (hown : w1.ownsRow n₀ 76 3 v' (pre.length + 1) (flat pre ++ flat [x])) (hg : (W.alloc tmp).grownBy w1 v.ownBlock) (B : Nat) :
    Boxed w1 N 43 v ∧ KeepsFrom B W (w1.setCell ⟨N, 0, none⟩ v') ∧ (Rd Bi Bt s (.pointer p) es W → Rd Bi Bt s (.pointer p) es (w1.setCell ⟨N, 0, none⟩ v')) ∧ SeqI w n₀ N Bi Bt s p es (pre ++ [x]) (w1.setCell ⟨N, 0, none⟩ v') := by
  obtain ⟨h1, h2, h3, h4, h5⟩ := Boxed.appended hv (by decide) hr (Nat.le_trans hw hO.size) hN hown hg
  have hW := off_of_below h5 h4
  have hbi : Boxed (w1.setCell ⟨N, 0, none⟩ v') Bi 3 (.int .i64 (s : Int)) :=
    ((hs.2.1.alloc tmp).kept hg (hs.2.1.not_row (by decide) hr)).other (Ne.symm hNi) v'
  have hbt : Boxed (w1.setCell ⟨N, 0, none⟩ v') Bt 41 (.pointer p) :=
    ((hs.2.2.alloc tmp).kept hg (hs.2.2.not_row (by decide) hr)).other (Ne.symm hNt) v'
  have hs' : Src Bi Bt s p es (fun k => k < n₀) (w1.setCell ⟨N, 0, none⟩ v') := ⟨hs.1.off hW (fun k _ h1 h2 => by omega), hbi, hbt⟩
  refine ⟨h1, h4.from B, fun _ => hs'.rd hl, hs', ⟨v', h2, ?_⟩, hO.trans hW (fun _ _ h => h), by simp; omega⟩
  rw [flat_append]
  simpa using h3

set_option maxRecDepth 100000 in
set_option maxHeartbeats 4000000 in
theorem appendseq_any (n₀ Bi Bt s : Nat) (p : Option Addr) (es : List Ev) (hs : s ≤ es.length) (hl : es.length ≤ 90000) (g cap : Nat) (w : World) (hn : n₀ ≤ w.heap.size)
    (hsrc : Src Bi Bt s p es (fun k => k < n₀) w) (hown : w.ownsRow n₀ 76 3 (.slice (some ⟨g, 0, none⟩) 0 cap) 0 []) :
    Calls Tryd.prog 59 #[.slice (some ⟨g, 0, none⟩) 0 cap, .func (.func 67) #[] #[.pointer (some ⟨Bi, 0, none⟩), .pointer (some ⟨Bt, 0, none⟩)]] w fun e W' =>
      ∃ v, e = .returned v ∧ W'.ownsRow n₀ 76 3 v (es.drop s).length (flat (es.drop s)) ∧ Off (fun k => n₀ ≤ k) w W' := by
  obtain ⟨i0, hi, hz0, hz1, hz2⟩ := info_parts ev_info
  refine (callsIn_wide (n := 3)).1 ?_
  refine callsIn_of_wp_marks Tryd.func59 rfl trivial ?_ rfl
  simp only [Tryd.ntmps59, List.size_toArray, List.length_cons, List.length_nil, Nat.reduceAdd, Nat.reduceSub, Array.replicate_succ, Array.replicate_zero, List.push_toArray, List.append_toArray, List.nil_append, List.cons_append]
  gi_wp2
  have hb := Boxed.new w 43 (.slice (some ⟨g, 0, none⟩) 0 cap)
  obtain ⟨W1, hW1⟩ : ∃ W1, W1 = w.alloc (.cells #[.slice (some ⟨g, 0, none⟩) 0 cap] 43) := ⟨_, rfl⟩
  have ho : Off (fun _ => False) w W1 := by rw [hW1]; exact (Off.refl _ w).alloc _
  have hs1 := hsrc.off ho (fun _ _ _ c => c) (fun c => c) (fun c => c)
  have hown1 : W1.ownsRow n₀ 76 3 (.slice (some ⟨g, 0, none⟩) 0 cap) 0 [] := by rw [hW1]; exact hown.alloc _
  have hsz : W1.heap.size = w.heap.size + 1 := by rw [hW1]; simp
  rw [← hW1] at hb ⊢
  have hli := hsrc.2.1.lt
  have hlt := hsrc.2.2.lt
  clear hW1
  obtain ⟨N, hN⟩ : ∃ N, N = w.heap.size := ⟨_, rfl⟩
  rw [← hN] at hb hsz hn hli hlt ⊢
  have HN := Lib.hid hN
  clear hN
  have hI0 : SeqI w n₀ N Bi Bt s p es [] W1 := ⟨hs1, ⟨_, hb, hown1⟩, ho.mono (fun _ _ c => c.elim), Nat.zero_le _⟩
  refine wpIn_rangeFunc_ownH (F := Fence.wide) (n := 3) rfl (by omega) (gf := 67) (lb := #[.pointer (some ⟨Bi, 0, none⟩), .pointer (some ⟨Bt, 0, none⟩)]) rfl trivial (enters_of Tryd.func67 (by kernel_rfl) rfl)
    (after_stops (3 - 1) (by omega) Bi Bt s p es hs (by omega) _ W1 hs1.2.1.cell hs1.2.2.cell hs1.1) (fun h k x => k (h x)) (fun W l o o' hl h hc hw => rdK_b W l o o' hl h hc hw) (Below.refl _ _) (fun _ => by rfl)
    (SeqI w n₀ N Bi Bt s p es)
    (fun _ _ _ => False)
    (fun pre A B row hs hg hr => by
      obtain ⟨h1, ⟨v, h2, h3⟩, h4, h5⟩ := hs
      have hr' : ∀ r, row = some r → ∃ o : Obj, A.heap[r]? = some o ∧ o.isCells = false := fun r e => (hr r e).2
      refine ⟨h1.kept hg hr', ⟨v, Boxed.kept_own h2 hg hr', h3.kept hg ?_⟩, h4.later hg (fun r e => by have := (hr r e).1; have := HN.out; omega), h5⟩
      rcases h3.2 with ⟨rfl, _⟩ | ⟨g, cap, cur, rfl, _, hgb, _⟩
      · exact .inl rfl
      · refine .inr fun e' => ?_
        obtain ⟨o, ho, hc⟩ := hr' g (by simpa [Value.ownBlock] using e'.symm)
        rw [hgb] at ho; cases ho; cases hc)
    (fun _ _ _ _ _ hs _ _ => hs)
    hI0
    (fun x a' W => ∃ B, W.heap[B]? = some (.cells #[.int .i64 x.1, .int .i64 x.2.1, .int .i64 x.2.2] 76 (0, 0)) ∧ a' = { tmps := #[.slice (some ⟨g, 0, none⟩) 0 cap, .func (.func 67) #[] #[.pointer (some ⟨Bi, 0, none⟩), .pointer (some ⟨Bt, 0, none⟩)], .pointer (some ⟨N, 0, none⟩), undef, .slice none 0 0, .pointer (some ⟨B, 0, none⟩), .func (.func 67) #[] #[.pointer (some ⟨Bi, 0, none⟩), .pointer (some ⟨Bt, 0, none⟩)], x.v, undef, undef, undef, undef, undef], defers := [] })
    (fun x a' _ A C row hs hg hr => by
      obtain ⟨B, h2, h3⟩ := hs
      exact ⟨B, (grownBy_keeps_cells hg (fun r e => (hr r e).2) h2 rfl).trans h2, h3⟩)
    ?assign ?body ?done ?stop
  case assign =>
    rintro l pre ⟨ek, ea, eo⟩ W K ⟨h1, ⟨v, h2, h3⟩, h4, h5⟩ hK
    simp only [Ev.v]
    gi_wp2
    have ho := (Off.refl (fun _ => False) W).alloc (.cells #[.int .i64 ek, .int .i64 ea, .int .i64 eo] 76)
    have h1' := h1.off ho (fun _ _ _ c => c) (fun c => c) (fun c => c)
    exact hK _ _ (ho.keeps.from _) (fun _ => h1'.rd (by omega)) ⟨h1', ⟨v, h2.alloc _, h3.alloc _⟩, h4.alloc _, h5⟩ ⟨W.heap.size, World.alloc_heap_new W _, rfl⟩
  case body =>
    rintro l pre ⟨ek, ea, eo⟩ a' W _ _ ⟨h1, ⟨v, h2, h3⟩, h4, h5⟩ ⟨B, hc, rfl⟩ hlen
    rw [List.length_drop] at hlen
    have c0 : W.cell? ⟨B, 0, none⟩ = some (.int .i64 ek) := by simpa using cell_of_heap hc 0
    have c1 : W.cell? ⟨B, 1, none⟩ = some (.int .i64 ea) := by simpa using cell_of_heap hc 1
    have c2 : W.cell? ⟨B, 2, none⟩ = some (.int .i64 eo) := by simpa using cell_of_heap hc 2
    have k0 := h2.cell
    obtain ⟨va, vn, vc, rfl⟩ : ∃ va vn vc, v = .slice va vn vc := by
      rcases h3.2 with ⟨rfl, _⟩ | ⟨g, cap, cur, rfl, _⟩ <;> exact ⟨_, _, _, rfl⟩
    have H1 := Lib.hid h1
    have H2 := Lib.hid h2
    have H3 := Lib.hid h3
    have H4 := Lib.hid h4
    have hlen' : pre.length < es.length := by omega
    have hn' : n₀ ≤ W.heap.size := by have := h4.size; have := HN.out; omega
    clear h1 h2 h3 h4 h5 hc hb hs1 hown1 ho hI0 hsz hsrc hown
    gi_wp2_with (gi_at_builtin; refine wpListIn_append_own _ rfl _ _ 43 rfl n₀ 76 i0 _ 3 24 Tryd.underlying43 hi hz0 hz1 hz2 rfl (by decide) _ pre.length (flat pre) rfl (H3.out.alloc _) ⟨W.heap.size, 0, none⟩ 1 1 (flat [(ek, ea, eo)]) rfl rfl ?q1 (flat_one _) ?q2 ?q3 ?q4 ?_)
    case q1 =>
      intro j u hj
      have : j = 0 ∨ j = 1 ∨ j = 2 := by
        have := (List.getElem?_eq_some_iff.1 hj).1
        simp [flat] at this; omega
      rcases this with rfl | rfl | rfl <;> simp [flat] at hj <;> subst hj <;> simp [go_sem]
    case q2 => unfold maxLen; omega
    case q3 => omega
    case q4 => simp; omega
    intro v' w1 hown' hgrow hnil
    obtain ⟨g', cap', rfl⟩ := ownsRow_succ hown'
    have hnx := seq_next (x := (ek, ea, eo)) (by have := HN.out; omega) (by omega) (by omega) (by omega) H1.out H2.out H3.out H4.out hlen' (by omega) hown' hgrow W1.heap.size
    have d0 := hnx.1.cell
    have d1 := hnx.1.frozen
    have HX := Lib.hid hnx
    clear hnx hown' hgrow hnil H1 H2 H3 H4
    gi_wp2
    exact HX.out.2
  case done =>
    rintro D ys W hD rfl ⟨h1, ⟨v, h2, h3⟩, h4, h5⟩ hK
    have k0 := h2.cell
    obtain ⟨va, vn, vc, rfl⟩ : ∃ va vn vc, v = .slice va vn vc := by
      rcases h3.2 with ⟨rfl, _⟩ | ⟨g, cap, cur, rfl, _⟩ <;> exact ⟨_, _, _, rfl⟩
    have hNw := HN.out
    have hD' : w.heap.size ≤ D := by omega
    have hfin := ownsRow_putObj h3 (.deferred none) hK rfl
    have hoff := h4.later (grownBy_putObj' W D (.deferred none)) (fun r e => by cases e; exact hD')
    clear HN hNw
    gi_wp2
    refine ⟨by simp, .inl ⟨_, _, rfl, run_takeDeferred hK, ?_⟩⟩
    refine ⟨_, results_tmp rfl _ _ _, ?_⟩
    exact ⟨.slice va vn vc, rfl, hfin, hoff⟩
  case stop =>
    rintro D c pre W _ _ h _
    exact h.elim

theorem run_make_ev (c : Nat) (hc : c ≤ 100000) : ∃ Z : Array Value, Z.size = c * 3 ∧ ∀ w : World, (Instr.makeSlice 43 (.int .i64 0) (.int .i64 (c : Int))).run Tryd.prog w = .ok (.slice (some ⟨w.heap.size, 0, none⟩) 0 c) (w.alloc (.cells Z 76)) := by
  obtain ⟨i0, hi, hz0, hz1, hz2⟩ := info_parts ev_info
  refine ⟨madeCells (Value.cells (.agg #[.int .i64 0, .int .i64 0, .int .i64 0])) (c * 3), size_madeCells _ _, fun w => ?_⟩
  have := run_make (P := Tryd.prog) w 43 76 i0 _ Tryd.underlying43 hi hz0 .i64 .i64 0 (c : Int) (Int.le_refl _) (by omega) (by rw [hz2]; omega) (by omega)
  rw [hz1] at this
  simpa using this

theorem row_new (w : World) (c n₀ : Nat) (Z : Array Value) (hZ : Z.size = c * 3) (hc : c ≤ 100000) (hn : n₀ ≤ w.heap.size) : (w.alloc (.cells Z 76)).ownsRow n₀ 76 3 (.slice (some ⟨w.heap.size, 0, none⟩) 0 c) 0 [] :=
  World.ownsRow_made w Z c hn (by unfold maxLen; omega) hZ

set_option maxRecDepth 100000 in
set_option maxHeartbeats 4000000 in
theorem since_at (p : Option Addr) (es : List Ev) (S : Nat → Prop) (n : Int) (s : Nat) (hs : s ≤ es.length) (hsn : min (max n 0) (es.length : Int) = s) (w : World) (hT : TapeV w (.pointer p) es S) (hl : es.length ≤ 90000) :
    Calls Tryd.prog 45 #[.pointer p, .int .i64 n] w fun e W' => ∃ v, e = .returned v ∧ W'.ownsRow w.heap.size 76 3 v (es.drop s).length (flat (es.drop s)) ∧ Off (fun _ => False) w W' := by
  obtain ⟨m, hm⟩ : ∃ m, m = es.length := ⟨_, rfl⟩
  obtain ⟨c, hc⟩ : ∃ c, c = m - s := ⟨_, rfl⟩
  obtain ⟨Z, hZ, hmk⟩ := run_make_ev c (by omega)
  have HL := fun X (hX : TapeV X (.pointer p) es S) => len_any _ _ _ X hX
  simp only [← hm] at HL
  have HA := fun X => after_any p (s : Int) X
  have HT := Lib.hid hT
  have HM := Lib.hid hm
  have hsub : (m : Int) - (s : Int) = (c : Int) := by omega
  have hwrap : IntKind.i64.wrap (c : Int) = (c : Int) := by rw [IntKind.wrap_i64]; omega
  have hcl : c ≤ 100000 := by omega
  rw [← hm] at hsn hs hl
  have HC := Lib.hid hc
  clear hT hm hc
  -- AppendSeq, where the new list was made first
  have hA := appendseq_any w.heap.size (w.heap.size + 1 + 1) (w.heap.size + 1) s p es (by have := HM.out; omega) (by have := HM.out; omega) w.heap.size c (((w.alloc (.cells Z 76)).alloc (.cells #[.pointer p] 41)).alloc (.cells #[.int .i64 (s : Int)] 3)).drew (by simp [World.drew]; omega)
    (by
      have h0 : TapeV w (.pointer p) es (fun k => k < w.heap.size) := HT.out.mono (fun k hk _ => hk)
      have h1 := ((h0.grown (World.grownBy_alloc _ (.cells Z 76) none)).grown (World.grownBy_alloc _ (.cells #[.pointer p] 41) none)).grown (World.grownBy_alloc _ (.cells #[.int .i64 (s : Int)] 3) none)
      have h2 := Boxed.new ((w.alloc (.cells Z 76)).alloc (.cells #[.pointer p] 41)) 3 (.int .i64 (s : Int))
      rw [World.size_alloc, World.size_alloc] at h2
      have h3 := Boxed.new (w.alloc (.cells Z 76)) 41 (.pointer p)
      rw [World.size_alloc] at h3
      have h4 := h3.alloc (.cells #[.int .i64 (s : Int)] 3)
      exact ⟨h1, h2, h4⟩)
    (((row_new w c w.heap.size Z hZ hcl (Nat.le_refl _)).alloc (.cells #[.pointer p] 41)).alloc (.cells #[.int .i64 (s : Int)] 3))
  -- .. and where the iterator was
  have hB := appendseq_any w.heap.size (w.heap.size + 1) w.heap.size s p es (by have := HM.out; omega) (by have := HM.out; omega) (w.heap.size + 1 + 1) c (((w.alloc (.cells #[.pointer p] 41)).alloc (.cells #[.int .i64 (s : Int)] 3)).alloc (.cells Z 76)).drew (by simp [World.drew]; omega)
    (by
      have h0 : TapeV w (.pointer p) es (fun k => k < w.heap.size) := HT.out.mono (fun k hk _ => hk)
      have h1 := ((h0.grown (World.grownBy_alloc _ (.cells #[.pointer p] 41) none)).grown (World.grownBy_alloc _ (.cells #[.int .i64 (s : Int)] 3) none)).grown (World.grownBy_alloc _ (.cells Z 76) none)
      have h2 := Boxed.new (w.alloc (.cells #[.pointer p] 41)) 3 (.int .i64 (s : Int))
      rw [World.size_alloc] at h2
      have h3 := h2.alloc (.cells Z 76)
      have h4 := ((Boxed.new w 41 (.pointer p)).alloc (.cells #[.int .i64 (s : Int)] 3)).alloc (.cells Z 76)
      exact ⟨h1, h3, h4⟩)
    (by have := row_new ((w.alloc (.cells #[.pointer p] 41)).alloc (.cells #[.int .i64 (s : Int)] 3)) c w.heap.size Z hZ hcl (by simp; omega); rw [World.size_alloc, World.size_alloc] at this; exact this)
  have HcA := Lib.hid hA
  have HcB := Lib.hid hB
  clear hA hB
  go_enter Tryd.func45, Tryd.ntmps45
  go_wp2_with fail
  refine (HL _ HT.out).mono ?_
  rintro e w' ⟨rfl, rfl⟩
  go_wp2_with fail
  have HTd : Hid (TapeV w.drew (.pointer p) es S) := HT.out
  go_region_with (first
    | (go_at_call 58; refine (HL _ ?_).mono ?_; (first | exact HTd.out | exact (HTd.out.grown (World.grownBy_alloc _ _ none)) | exact ((HTd.out.grown (World.grownBy_alloc _ _ none)).grown (World.grownBy_alloc _ _ none))); rintro e w' ⟨rfl, rfl⟩)
    | (go_at_call 60; refine (HA _).mono ?_; rintro e w' ⟨rfl, rfl⟩)
    | (go_at_call_of 59 (Value.slice (some ⟨w.heap.size, 0, none⟩) 0 c); refine HcA.out.mono ?_; rintro e w2 ⟨v2, rfl, hown2, hO2⟩)
    | (go_at_call 59; refine HcB.out.mono ?_; rintro e w2 ⟨v2, rfl, hown2, hO2⟩))
  all_goals
    have hR := Lib.hid hown2
    have hF : Off (fun _ => False) w w2 := (((((Off.refl (fun _ => False) w).alloc _).alloc _).alloc _).drew).trans hO2 (fun k hk h => by omega)
    clear hO2 hown2 HcA HcB HA HL hmk HT HTd
    go_wp2
    go_ret
    exact ⟨v2, rfl, hR.out, hF⟩

theorem since_own (p : Option Addr) (es : List Ev) (S : Nat → Prop) (n : Int) (w : World) (hT : TapeV w (.pointer p) es S) (hl : es.length ≤ 90000) :
    Calls Tryd.prog 45 #[.pointer p, .int .i64 n] w fun e W' => ∃ v, e = .returned v ∧ W'.ownsRow w.heap.size 76 3 v (afterV es n).length (flat (afterV es n)) ∧ Off (fun _ => False) w W' := by
  have h := since_at p es S n (min n.toNat es.length) (by omega) (by omega) w hT hl
  have e : es.drop (min n.toNat es.length) = afterV es n := by
    unfold afterV
    by_cases hh : n.toNat ≤ es.length
    · rw [Nat.min_eq_left hh]
    · rw [Nat.min_eq_right (by omega), List.drop_length, List.drop_eq_nil_of_le (by omega)]
  rw [e] at h
  exact h
theorem since_any (p : Option Addr) (es : List Ev) (S : Nat → Prop) (n : Int) (w : World) (hT : TapeV w (.pointer p) es S) (hl : es.length ≤ 90000) :
    Calls Tryd.prog 45 #[.pointer p, .int .i64 n] w fun e W' => ∃ v, e = .returned v ∧ EvsAt W' v (afterV es n) (fun k => w.heap.size ≤ k) ∧ Off (fun _ => False) w W' :=
  (since_own p es S n w hT hl).mono fun _ _ ⟨v, h1, h2, h3⟩ => ⟨v, h1, evs_of_own h2, h3⟩

set_option maxHeartbeats 400000 in
theorem events_own (p : Option Addr) (es : List Ev) (S : Nat → Prop) (w : World) (hT : TapeV w (.pointer p) es S) (hl : es.length ≤ 90000) :
    Calls Tryd.prog 22 #[.pointer p] w fun e W' => ∃ v, e = .returned v ∧ W'.ownsRow w.heap.size 76 3 v es.length (flat es) ∧ Off (fun _ => False) w W' := by
  have HS : Calls Tryd.prog 45 #[.pointer p, .int .i64 0] w fun e W' => ∃ v, e = .returned v ∧ W'.ownsRow w.heap.size 76 3 v es.length (flat es) ∧ Off (fun _ => False) w W' := since_own p es S 0 w hT hl
  clear hT
  go_enter Tryd.func22, Tryd.ntmps22
  go_wp2_with fail
  refine HS.mono ?_
  rintro e w1 ⟨v, rfl, hv, hO⟩
  have HV := Lib.hid hv
  clear hv
  go_wp2
  go_ret
  exact ⟨v, rfl, HV.out, hO⟩
theorem events_any (p : Option Addr) (es : List Ev) (S : Nat → Prop) (w : World) (hT : TapeV w (.pointer p) es S) (hl : es.length ≤ 90000) :
    Calls Tryd.prog 22 #[.pointer p] w fun e W' => ∃ v, e = .returned v ∧ EvsAt W' v es (fun k => w.heap.size ≤ k) ∧ Off (fun _ => False) w W' :=
  (events_own p es S w hT hl).mono fun _ _ ⟨v, h1, h2, h3⟩ => ⟨v, h1, evs_of_own h2, h3⟩
end Go.Proofs.YtnegdlmpmmehmaaDoor
