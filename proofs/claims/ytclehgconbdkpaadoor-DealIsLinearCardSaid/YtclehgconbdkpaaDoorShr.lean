/-
  Shares in memory, and arguments of statements opened: parameters, a share, a list of shares. No condition.
-/
import Derived.Test.YtclehgconbdkpaaDoorRowsEl
import Derived.Deep.Slices
import Derived.ProofKit
namespace Go.Proofs.YtclehgconbdkpaaDoor
open Go.RowKit Go.ChangeShapes Go.WideShapes Go.ChangeAt Go.Deep
set_option linter.unusedSimpArgs false
theorem cells_el4 : Tryd.prog.cellsOf 66 = 4 := by kernel_rfl
theorem cells_i1 : Tryd.prog.cellsOf 3 = 1 := by kernel_rfl
theorem cells_els1 : Tryd.prog.cellsOf 47 = 1 := by kernel_rfl
theorem cells_shr : Tryd.prog.cellsOf 69 = 5 := by kernel_rfl
theorem cap_of_trod' {H : Type} {enc : TypeId × Value → H} {P : Program} {w : World} {base : Nat} {spare : Nat → Bool} {held : Bool} {t e : TypeId} {fuel : Nat} {a : Option Addr} {len cap : Nat} {x : DataW H × List MemPlace} (ht : P.underlying t = some (.slice e))
    (h : DataW.trod enc P w base spare held fuel t [.slice a len cap] = some x) : len ≤ cap := by
  rcases open_slice ht h with ⟨hcs, _⟩ | ⟨b, l, c, m, n, D, Pl, hcs, _, hl, _⟩
  · simp at hcs; omega
  · simp at hcs; omega
theorem slice_of_trod' {H : Type} {enc : TypeId × Value → H} {P : Program} {w : World} {base : Nat} {spare : Nat → Bool} {held : Bool} {t e : TypeId} {fuel : Nat} {c : Value} {x : DataW H × List MemPlace} (ht : P.underlying t = some (.slice e))
    (h : DataW.trod enc P w base spare held fuel t [c] = some x) : ∃ a n cap, c = .slice a n cap := by
  rcases open_slice ht h with ⟨hcs, _⟩ | ⟨b, l, k, m, n, D, Pl, hcs, _⟩
  · simp at hcs; exact ⟨_, _, _, hcs⟩
  · simp at hcs; exact ⟨_, _, _, hcs⟩
/-- A share: its numbers, and its payload's elements as numbers. -/
structure Sh where
  fd : Int
  th : Int
  ix : Int
  ln : Int
  pl : List Nat
/-- The int's range. -/
def I64 (x : Int) : Prop := (Lit.int .i64 x).wf = true
def Sh.ok (s : Sh) : Prop := I64 s.fd ∧ I64 s.th ∧ I64 s.ix ∧ I64 s.ln ∧ ∀ x ∈ s.pl, x < R256
/-- A share's value: the payload is the slice pv. -/
def Sh.val (s : Sh) (pv : Value) : Value := .agg #[.int .i64 s.fd, .int .i64 s.th, .int .i64 s.ix, .int .i64 s.ln, pv]
/-- The cells of a share lie in block b from cell o on; what its payload lies in is within S. -/
def ShAt (w : World) (b o : Nat) (s : Sh) (S : Nat → Prop) : Prop :=
  w.cell? ⟨b, o, none⟩ = some (.int .i64 s.fd) ∧ w.cell? ⟨b, o + 1, none⟩ = some (.int .i64 s.th) ∧ w.cell? ⟨b, o + 2, none⟩ = some (.int .i64 s.ix) ∧ w.cell? ⟨b, o + 3, none⟩ = some (.int .i64 s.ln) ∧
    ∃ pa pc, w.cell? ⟨b, o + 4, none⟩ = some (.slice pa s.pl.length pc) ∧ s.pl.length ≤ pc ∧ VsAt w (.slice pa s.pl.length pc) s.pl S
theorem ShAt.off {w w' : World} {b o : Nat} {s : Sh} {S S' : Nat → Prop} (h : ShAt w b o s S) (ho : Off S' w w') (hb : ¬ S' b) (hd : ∀ k, k < w.heap.size → S k → ¬ S' k) : ShAt w' b o s S := by
  obtain ⟨h0, h1, h2, h3, pa, pc, h4, h5, h6⟩ := h
  exact ⟨ho.cell h0 hb, ho.cell h1 hb, ho.cell h2 hb, ho.cell h3 hb, pa, pc, ho.cell h4 hb, h5, h6.off ho hd⟩
/-- The slice value v holds the shares l; all that they lie in is within S. -/
def ShsAt (w : World) (v : Value) (l : List Sh) (S : Nat → Prop) : Prop :=
  ∃ a cap, v = .slice a l.length cap ∧ l.length ≤ cap ∧ l.length ≤ maxLen ∧ (∀ s ∈ l, s.ok) ∧ (0 < l.length → ∃ b off, a = some ⟨b, off, none⟩ ∧ S b ∧ ∀ j s, l[j]? = some s → ShAt w b (off + j * 5) s S)
theorem ShsAt.off {w w' : World} {v : Value} {l : List Sh} {S S' : Nat → Prop} (h : ShsAt w v l S) (ho : Off S' w w') (hd : ∀ k, k < w.heap.size → S k → ¬ S' k) : ShsAt w' v l S := by
  obtain ⟨a, cap, hv, hc, h1, h2, h4⟩ := h
  refine ⟨a, cap, hv, hc, h1, h2, fun hp => ?_⟩
  obtain ⟨b, off, ha, hS, hx⟩ := h4 hp
  refine ⟨b, off, ha, hS, fun j s hj => ?_⟩
  have he := hx j s hj
  exact he.off ho (hd b (World.block_lt_of_cell? w _ he.1) hS) hd
theorem ShsAt.at {w : World} {a : Option Addr} {n cap : Nat} {l : List Sh} {S : Nat → Prop} (h : ShsAt w (.slice a n cap) l S) {k : Nat} (hk : k < n) : ∃ s b off, l[k]? = some s ∧ s.ok ∧ a = some ⟨b, off, none⟩ ∧ S b ∧ ShAt w b (off + k * 5) s S := by
  obtain ⟨a', cap', e, hc, h1, h2, h4⟩ := h
  simp at e
  obtain ⟨rfl, rfl, rfl⟩ := e
  have hx : l[k]? = some l[k] := List.getElem?_eq_getElem hk
  obtain ⟨b, off, ha, hS, hat⟩ := h4 (by omega)
  exact ⟨_, b, off, hx, h2 _ (List.getElem_mem _), ha, hS, hat k _ hx⟩
theorem trod_struct5 {H : Type} {enc : TypeId × Value → H} {P : Program} {w : World} {base : Nat} {spare : Nat → Bool} {held : Bool} {t : TypeId} {f0 f1 f2 f3 f4 : Field} {fuel : Nat} {cs : List Value} {x : DataW H × List MemPlace} (ht : P.underlying t = some (.struct #[f0, f1, f2, f3, f4])) (h : DataW.trod enc P w base spare held fuel t cs = some x) :
    ∃ y0 y1 y2 y3 y4 n, cs.length = P.cellsOf t ∧ DataW.trod enc P w base spare held n f0.type ((cs.drop f0.offset).take (P.cellsOf f0.type)) = some y0 ∧ DataW.trod enc P w base spare held n f1.type ((cs.drop f1.offset).take (P.cellsOf f1.type)) = some y1 ∧
      DataW.trod enc P w base spare held n f2.type ((cs.drop f2.offset).take (P.cellsOf f2.type)) = some y2 ∧ DataW.trod enc P w base spare held n f3.type ((cs.drop f3.offset).take (P.cellsOf f3.type)) = some y3 ∧ DataW.trod enc P w base spare held n f4.type ((cs.drop f4.offset).take (P.cellsOf f4.type)) = some y4 := by
  obtain ⟨xs, n, _, rfl, hl, hlen, hf⟩ := DataW.trod_struct ht h
  match xs, hlen with
  | [y0, y1, y2, y3, y4], _ => exact ⟨y0, y1, y2, y3, y4, n, hl, by simpa using hf 0 f0 rfl, by simpa using hf 1 f1 rfl, by simpa using hf 2 f2 rfl, by simpa using hf 3 f3 rfl, by simpa using hf 4 f4 rfl⟩
set_option maxRecDepth 100000 in
theorem els_of_trod {H : Type} {enc : TypeId × Value → H} {w : World} {spare : Nat → Bool} {held : Bool} {a : Option Addr} {len cap fuel : Nat} {x : DataW H × List MemPlace}
    (h : DataW.trod enc Tryd.prog w 0 spare held fuel 47 [.slice a len cap] = some x) : ∃ xs, len = xs.length ∧ VsAt w (.slice a len cap) xs (fun k => k < w.heap.size) := by
  rcases open_slice Tryd.underlying47 h with ⟨hcs, _⟩ | ⟨b, l, c, m, n, D, Pl, hcs, _, hl, hm, hmm, _, hi⟩
  · simp at hcs
    obtain ⟨rfl, rfl, rfl⟩ := hcs
    exact ⟨[], rfl, none, 0, rfl, Nat.zero_le _, fun _ h => (by cases h), fun h => by simp at h⟩
  · simp at hcs
    obtain ⟨rfl, rfl, rfl⟩ := hcs
    have hlm : len ≤ m := by rw [hmm]; split <;> omega
    have H : ∀ i, i < len → ∃ e : Nat, e < R256 ∧ w.cell? (b.add (i * 4)) = some (.int .u64 (wd e 0 : Int)) ∧ w.cell? ((b.add (i * 4)).add 1) = some (.int .u64 (wd e 1 : Int)) ∧ w.cell? ((b.add (i * 4)).add 2) = some (.int .u64 (wd e 2 : Int)) ∧ w.cell? ((b.add (i * 4)).add 3) = some (.int .u64 (wd e 3 : Int)) := by
      intro i hil
      obtain ⟨cs', hc, ht⟩ := hi i (by omega)
      rw [cells_el4] at hc
      obtain ⟨_, hlen, hat⟩ := World.cells?_some hc
      match cs', hlen with
      | [v0, v1, v2, v3], _ =>
        obtain ⟨y0, y1, y2, y3, n', hx, t0, t1, t2, t3⟩ := trod_array4 Tryd.underlying66 cells_word ht
        obtain ⟨n0, e0, _, q0⟩ := DataW.trod_int Tryd.underlying50 t0
        obtain ⟨n1, e1, _, q1⟩ := DataW.trod_int Tryd.underlying50 t1
        obtain ⟨n2, e2, _, q2⟩ := DataW.trod_int Tryd.underlying50 t2
        obtain ⟨n3, e3, _, q3⟩ := DataW.trod_int Tryd.underlying50 t3
        simp at e0 e1 e2 e3
        subst e0 e1 e2 e3
        have word : ∀ {x : Int}, (Lit.int .u64 x).wf = true → Word x := fun h => by have := bounds_u64 h; exact ⟨by omega, by omega⟩
        obtain ⟨e, he, rfl, rfl, rfl, rfl⟩ := words_num (word q0) (word q1) (word q2) (word q3)
        refine ⟨e, he, ?_, ?_, ?_, ?_⟩
        · have := hat 0 (by omega); simpa [go_sem] using this
        · have := hat 1 (by omega); simpa using this
        · have := hat 2 (by omega); simpa using this
        · have := hat 3 (by omega); simpa using this
    obtain ⟨f, hf⟩ : ∃ f : Nat → Nat, ∀ i, i < len → f i < R256 ∧ w.cell? (b.add (i * 4)) = some (.int .u64 (wd (f i) 0 : Int)) ∧ w.cell? ((b.add (i * 4)).add 1) = some (.int .u64 (wd (f i) 1 : Int)) ∧ w.cell? ((b.add (i * 4)).add 2) = some (.int .u64 (wd (f i) 2 : Int)) ∧ w.cell? ((b.add (i * 4)).add 3) = some (.int .u64 (wd (f i) 3 : Int)) := by
      refine ⟨fun i => if h : i < len then (H i h).choose else 0, fun i h => ?_⟩
      simp only [h, dif_pos]
      exact (H i h).choose_spec
    refine ⟨(List.range len).map f, by simp, some b, cap, by simp, by simp; omega, fun x hx => ?_, fun hp => ?_⟩
    · obtain ⟨i, hi', rfl⟩ := List.mem_map.1 hx
      exact (hf i (List.mem_range.1 hi')).1
    have hp' : 0 < len := by simpa using hp
    obtain ⟨bb, off, spot⟩ := b
    have hspot : spot = none := by simpa [Addr.add] using World.cell?_spot (hf 0 hp').2.1
    subst hspot
    refine ⟨bb, off, rfl, ?_, fun j e hj => ?_⟩
    · have := (hf 0 hp').2.1
      rw [Addr.add_lit] at this
      exact World.block_lt_of_cell? w ⟨bb, off + 0 * 4, none⟩ this
    · rw [List.getElem?_map] at hj
      obtain ⟨i, hi', rfl⟩ := Option.map_eq_some_iff.1 hj
      have hjl := (List.getElem?_eq_some_iff.1 hi').1
      have : i = j := by
        have h2 := (List.getElem?_eq_some_iff.1 hi').2
        simpa using h2.symm
      subst this
      have hil : i < len := by simpa using hjl
      obtain ⟨_, c0, c1, c2, c3⟩ := hf i hil
      rw [Addr.add_lit] at c0
      rw [Addr.add_lit, Addr.add_lit] at c1 c2 c3
      exact ⟨c0, c1, c2, c3⟩
set_option maxRecDepth 100000 in
/-- Five cells that are read as a share. -/
theorem share_of_trod {H : Type} {enc : TypeId × Value → H} {w : World} {spare : Nat → Bool} {held : Bool} {fuel : Nat} {cs : List Value} {x : DataW H × List MemPlace} (h : DataW.trod enc Tryd.prog w 0 spare held fuel 69 cs = some x) :
    ∃ (s : Sh) (pa : Option Addr) (pc : Nat), cs = [.int .i64 s.fd, .int .i64 s.th, .int .i64 s.ix, .int .i64 s.ln, .slice pa s.pl.length pc] ∧ s.ok ∧ s.pl.length ≤ pc ∧ VsAt w (.slice pa s.pl.length pc) s.pl (fun k => k < w.heap.size) := by
  obtain ⟨y0, y1, y2, y3, y4, n, hl, t0, t1, t2, t3, t4⟩ := trod_struct5 Tryd.underlying69 h
  rw [cells_shr] at hl
  match cs, hl with
  | [v0, v1, v2, v3, v4], _ =>
    simp only [cells_i1, cells_els1, List.drop_zero, List.drop_succ_cons, List.take_succ_cons, List.take_zero] at t0 t1 t2 t3 t4
    obtain ⟨n0, e0, _, q0⟩ := DataW.trod_int Tryd.underlying3 t0
    obtain ⟨n1, e1, _, q1⟩ := DataW.trod_int Tryd.underlying3 t1
    obtain ⟨n2, e2, _, q2⟩ := DataW.trod_int Tryd.underlying3 t2
    obtain ⟨n3, e3, _, q3⟩ := DataW.trod_int Tryd.underlying3 t3
    simp at e0 e1 e2 e3
    subst e0 e1 e2 e3
    obtain ⟨pa, pn, pc, rfl⟩ := slice_of_trod' Tryd.underlying47 t4
    have hcap := cap_of_trod' Tryd.underlying47 t4
    obtain ⟨xs, rfl, hv⟩ := els_of_trod t4
    exact ⟨⟨n0, n1, n2, n3, xs⟩, pa, pc, rfl, ⟨q0, q1, q2, q3, hv.len.2.2⟩, hcap, hv⟩
set_option maxRecDepth 100000 in
theorem shares_of_trod {H : Type} {enc : TypeId × Value → H} {w : World} {spare : Nat → Bool} {held : Bool} {a : Option Addr} {len cap fuel : Nat} {x : DataW H × List MemPlace}
    (h : DataW.trod enc Tryd.prog w 0 spare held fuel 38 [.slice a len cap] = some x) : ∃ l : List Sh, len = l.length ∧ ShsAt w (.slice a len cap) l (fun k => k < w.heap.size) := by
  rcases open_slice Tryd.underlying38 h with ⟨hcs, _⟩ | ⟨b, l, c, m, n, D, Pl, hcs, _, hl, hm, hmm, _, hi⟩
  · simp at hcs
    obtain ⟨rfl, rfl, rfl⟩ := hcs
    exact ⟨[], rfl, none, 0, rfl, Nat.le_refl _, Nat.zero_le _, fun _ h => (by cases h), fun h => by simp at h⟩
  · simp at hcs
    obtain ⟨rfl, rfl, rfl⟩ := hcs
    have hlm : len ≤ m := by rw [hmm]; split <;> omega
    have H : ∀ i, i < len → ∃ (s : Sh) (pa : Option Addr) (pc : Nat), s.ok ∧ w.cell? (b.add (i * 5)) = some (.int .i64 s.fd) ∧ w.cell? ((b.add (i * 5)).add 1) = some (.int .i64 s.th) ∧ w.cell? ((b.add (i * 5)).add 2) = some (.int .i64 s.ix) ∧ w.cell? ((b.add (i * 5)).add 3) = some (.int .i64 s.ln) ∧
        w.cell? ((b.add (i * 5)).add 4) = some (.slice pa s.pl.length pc) ∧ s.pl.length ≤ pc ∧ VsAt w (.slice pa s.pl.length pc) s.pl (fun k => k < w.heap.size) := by
      intro i hil
      obtain ⟨cs', hc, ht⟩ := hi i (by omega)
      rw [cells_shr] at hc
      obtain ⟨_, hlen, hat⟩ := World.cells?_some hc
      obtain ⟨s, pa, pc, rfl, hok, hcap, hv⟩ := share_of_trod ht
      refine ⟨s, pa, pc, hok, ?_, ?_, ?_, ?_, ?_, hcap, hv⟩
      · have := hat 0 (by omega); simpa [go_sem] using this
      · have := hat 1 (by omega); simpa using this
      · have := hat 2 (by omega); simpa using this
      · have := hat 3 (by omega); simpa using this
      · have := hat 4 (by omega); simpa using this
    obtain ⟨f, hf⟩ : ∃ f : Nat → Sh, ∀ i, i < len → ∃ (pa : Option Addr) (pc : Nat), (f i).ok ∧ w.cell? (b.add (i * 5)) = some (.int .i64 (f i).fd) ∧ w.cell? ((b.add (i * 5)).add 1) = some (.int .i64 (f i).th) ∧ w.cell? ((b.add (i * 5)).add 2) = some (.int .i64 (f i).ix) ∧ w.cell? ((b.add (i * 5)).add 3) = some (.int .i64 (f i).ln) ∧
        w.cell? ((b.add (i * 5)).add 4) = some (.slice pa (f i).pl.length pc) ∧ (f i).pl.length ≤ pc ∧ VsAt w (.slice pa (f i).pl.length pc) (f i).pl (fun k => k < w.heap.size) := by
      refine ⟨fun i => if h : i < len then (H i h).choose else ⟨0, 0, 0, 0, []⟩, fun i h => ?_⟩
      simp only [h, dif_pos]
      exact (H i h).choose_spec
    refine ⟨(List.range len).map f, by simp, some b, cap, by simp, by simpa using hl, by simp; omega, fun s hs => ?_, fun hp => ?_⟩
    · obtain ⟨i, hi', rfl⟩ := List.mem_map.1 hs
      obtain ⟨_, _, h1, _⟩ := hf i (List.mem_range.1 hi')
      exact h1
    have hp' : 0 < len := by simpa using hp
    obtain ⟨bb, off, spot⟩ := b
    obtain ⟨_, _, _, hc0, _⟩ := hf 0 hp'
    have hspot : spot = none := by simpa [Addr.add] using World.cell?_spot hc0
    subst hspot
    refine ⟨bb, off, rfl, ?_, fun j s hj => ?_⟩
    · rw [Addr.add_lit] at hc0
      exact World.block_lt_of_cell? w ⟨bb, off + 0 * 5, none⟩ hc0
    · rw [List.getElem?_map] at hj
      obtain ⟨i, hi', rfl⟩ := Option.map_eq_some_iff.1 hj
      have hjl := (List.getElem?_eq_some_iff.1 hi').1
      have : i = j := by
        have h2 := (List.getElem?_eq_some_iff.1 hi').2
        simpa using h2.symm
      subst this
      have hil : i < len := by simpa using hjl
      obtain ⟨pa, pc, _, c0, c1, c2, c3, c4, hcap, hv⟩ := hf i hil
      rw [Addr.add_lit] at c0
      rw [Addr.add_lit, Addr.add_lit] at c1 c2 c3 c4
      exact ⟨c0, c1, c2, c3, pa, pc, c4, hcap, hv⟩
end Go.Proofs.YtclehgconbdkpaaDoor
