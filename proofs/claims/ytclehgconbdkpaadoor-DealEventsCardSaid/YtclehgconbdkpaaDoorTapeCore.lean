/-
  How tapes and lists of events lie in memory, and what each of a tape's steps leaves as it was. Plain facts on worlds; no condition.
  Contracts of (*Tape).Note, Len and at over this seat's translation: Note appends the event, Len returns the number of events, at the event at a position. Conditions: the tape lies in memory as TapeAt says and has fewer than 100000 events.
  The contract of New over this seat's translation: a new tape with the events of the list. Conditions: the list lies in memory as its slice says and has at most 90000 events.
  The contract of the iterator that (*Tape).after returns, over this seat's translation: it yields the events after the first n ones that the tape had at the beginning, as long as the loop's rounds keep these events readable. Conditions: the tape lies in memory as TapeV says and has at most 100000 events.
-/
import Derived.Test.YtclehgconbdkpaaDoorRows
import Derived.Test.YtclehgconbdkpaaDoorOff
import Derived.WalkKit
import Derived.WalkSpells
import Derived.WalkLawsBesides
import Derived.Below
import Derived.Lib.Walk
import Derived.OpenShut
import Derived.BigRegion
import Derived.RangeFuncNested
import Derived.RangeFuncFrom
import Derived.RangeFuncLeaves
import Derived.Deep.Draws
import Derived.Lib.Hide
import Derived.RangeFuncBound
import Derived.RangeFuncCalls
import Derived.RangeFuncBox
import Derived.Shelf.Abstract
import Derived.Shelf.RegionOpen
import Derived.OwnWalkIn
import Derived.TacticsInMore
import Derived.LoopNIn
import Derived.LoopIn
namespace Go.Proofs.YtclehgconbdkpaaDoor
section
open Go.RowKit

/-- An event: its kind and its two operands. -/
abbrev Ev : Type := Int × Int × Int
def Ev.v (e : Ev) : Value := .agg #[.int .i64 e.1, .int .i64 e.2.1, .int .i64 e.2.2]

/-- The event e lies in block b from cell o on. -/
def evAt (w : World) (b o : Nat) (e : Ev) : Prop :=
  w.cell? ⟨b, o, none⟩ = some (.int .i64 e.1) ∧ w.cell? ⟨b, o + 1, none⟩ = some (.int .i64 e.2.1) ∧ w.cell? ⟨b, o + 2, none⟩ = some (.int .i64 e.2.2)

theorem Off.ev {S : Nat → Prop} {w w' : World} (h : Off S w w') {b o : Nat} {e : Ev} (he : evAt w b o e) (hs : ¬ S b) : evAt w' b o e :=
  ⟨h.cell he.1 hs, h.cell he.2.1 hs, h.cell he.2.2 hs⟩

theorem ev_block {w w' : World} {b o : Nat} {e : Ev} (h : w'.heap[b]? = w.heap[b]?) (he : evAt w b o e) : evAt w' b o e :=
  ⟨(World.cell?_of_block (a := ⟨b, o, none⟩) h).trans he.1, (World.cell?_of_block (a := ⟨b, o + 1, none⟩) h).trans he.2.1, (World.cell?_of_block (a := ⟨b, o + 2, none⟩) h).trans he.2.2⟩

def ptr (b : Nat) : Value := .pointer (some ⟨b, 0, none⟩)

/-- The tape in block b holds the events es in nb blocks; all of it lies within S. -/
def TapeG (w : World) (b : Nat) (es : List Ev) (S : Nat → Prop) (nb : Nat) : Prop :=
  ∃ (sv : Value) (ebs : List Nat),
    w.heap[b]? = some (.cells #[sv, .int .i64 (es.length : Int)] 100 (0, 0)) ∧ S b ∧
    w.ownsRow 0 134 1 sv nb (ebs.map ptr) ∧ (∀ k, sv.ownBlock = some k → S k) ∧
    ebs.length = nb ∧ ebs.Nodup ∧
    (∀ eb, eb ∈ ebs → S eb ∧ ∃ c, w.heap[eb]? = some (.cells c 136 (0, 0)) ∧ c.size = 192) ∧
    (∀ i e, es[i]? = some e → ∃ eb, ebs[i / 64]? = some eb ∧ evAt w eb (i % 64 * 3) e)

/-- The number of blocks of a tape with n events. -/
def need (n : Nat) : Nat := (n + 63) / 64
def TapeAt (w : World) (b : Nat) (es : List Ev) (S : Nat → Prop) : Prop := TapeG w b es S (need es.length)

theorem ownBlock_row {w : World} {n : Nat} {T : TypeId} {v : Value} {xs : List Value} {k : Nat} (h : w.ownsRow 0 T 1 v n xs) (hk : v.ownBlock = some k) : ∃ cur, w.heap[k]? = some (.cells cur T (0, 0)) := by
  rcases h.2 with ⟨rfl, _⟩ | ⟨g, cap, cur, rfl, _, hg, _⟩
  · simp [Value.ownBlock] at hk
  · simp [Value.ownBlock] at hk; subst hk; exact ⟨cur, hg⟩

theorem TapeG.off {w w' : World} {b : Nat} {es : List Ev} {S S' : Nat → Prop} {nb : Nat} (h : TapeG w b es S nb) (ho : Off S' w w') (hd : ∀ k, k < w.heap.size → S k → ¬ S' k) : TapeG w' b es S nb := by
  obtain ⟨sv, ebs, h1, h2, h3, h4, h5, h6, h7, h8⟩ := h
  refine ⟨sv, ebs, ho.heap h1 (hd _ (heap_lt h1) h2), h2, ?_, h4, h5, h6, ?_, ?_⟩
  · refine ⟨h3.1, ?_⟩
    rcases h3.2 with hn | ⟨g, cap, cur, rfl, hb, hg, r⟩
    · exact .inl hn
    · exact .inr ⟨g, cap, cur, rfl, hb, ho.heap hg (hd _ (heap_lt hg) (h4 g (by simp [Value.ownBlock]))), r⟩
  · intro eb he
    obtain ⟨hs, c, hc, hz⟩ := h7 eb he
    exact ⟨hs, c, ho.heap hc (hd _ (heap_lt hc) hs), hz⟩
  · intro i e hi
    obtain ⟨eb, he, hv⟩ := h8 i e hi
    obtain ⟨hs, c, hc, _⟩ := h7 eb (List.mem_of_getElem? he)
    exact ⟨eb, he, ho.ev hv (hd _ (heap_lt hc) hs)⟩
theorem TapeG.mono {w : World} {b : Nat} {es : List Ev} {S S' : Nat → Prop} {nb : Nat} (h : TapeG w b es S nb) (hs : ∀ k, k < w.heap.size → S k → S' k) : TapeG w b es S' nb := by
  obtain ⟨sv, ebs, h1, h2, h3, h4, h5, h6, h7, h8⟩ := h
  refine ⟨sv, ebs, h1, hs _ (heap_lt h1) h2, h3, fun k hk => ?_, h5, h6, fun eb he => ?_, h8⟩
  · obtain ⟨cur, hc⟩ := ownBlock_row h3 hk
    exact hs _ (heap_lt hc) (h4 k hk)
  · obtain ⟨h, c, hc, hz⟩ := h7 eb he
    exact ⟨hs _ (heap_lt hc) h, c, hc, hz⟩
theorem TapeG.grown {w w' : World} {b : Nat} {es : List Ev} {S : Nat → Prop} {nb : Nat} (h : TapeG w b es S nb) (hg : w.grownBy w' none) : TapeG w' b es S nb :=
  h.off (S' := fun _ => False) (Off.of_grown hg) (fun _ _ _ c => c)
theorem TapeG.drew {w : World} {b : Nat} {es : List Ev} {S : Nat → Prop} {nb : Nat} (h : TapeG w b es S nb) : TapeG w.drew b es S nb := h
theorem TapeG.bh {w : World} {b : Nat} {es : List Ev} {S : Nat → Prop} {nb : Nat} (h : TapeG w b es S nb) : ∃ sv, w.cell? ⟨b, 0, none⟩ = some sv ∧ w.cell? ⟨b, 1, none⟩ = some (.int .i64 (es.length : Int)) ∧ b < w.heap.size ∧ S b := by
  obtain ⟨sv, ebs, h1, h2, _⟩ := h
  exact ⟨sv, by simp [World.cell?, h1], by simp [World.cell?, h1], heap_lt h1, h2⟩


/-- Four stores as Note makes them: an event at eb, off; then the count. -/
def noted (w : World) (b eb off : Nat) (e : Ev) (n : Int) : World :=
  ((((w.setCell ⟨eb, off, none⟩ (.int .i64 e.1)).setCell ⟨eb, off + 1, none⟩ (.int .i64 e.2.1)).setCell ⟨eb, off + 2, none⟩ (.int .i64 e.2.2)).setCell ⟨b, 1, none⟩ (.int .i64 n)).drew

theorem noted_heap (w : World) (b eb off : Nat) (e : Ev) (n : Int) (k : Nat) (h1 : k ≠ b) (h2 : k ≠ eb) : (noted w b eb off e n).heap[k]? = w.heap[k]? := by
  show ((((w.setCell _ _).setCell _ _).setCell _ _).setCell _ _).heap[k]? = _
  rw [Below.heap_setCell _ _ _ _ h1, Below.heap_setCell _ _ _ _ h2, Below.heap_setCell _ _ _ _ h2, Below.heap_setCell _ _ _ _ h2]
theorem noted_b {w : World} {b eb off : Nat} {e : Ev} {n : Int} {sv u : Value} {T : TypeId} (h : w.heap[b]? = some (.cells #[sv, u] T (0, 0))) (hne : b ≠ eb) :
    (noted w b eb off e n).heap[b]? = some (.cells #[sv, .int .i64 n] T (0, 0)) := by
  have h' : (((w.setCell ⟨eb, off, none⟩ (.int .i64 e.1)).setCell ⟨eb, off + 1, none⟩ (.int .i64 e.2.1)).setCell ⟨eb, off + 2, none⟩ (.int .i64 e.2.2)).heap[b]? = some (.cells #[sv, u] T (0, 0)) := by
    rw [Below.heap_setCell _ _ _ _ hne, Below.heap_setCell _ _ _ _ hne, Below.heap_setCell _ _ _ _ hne, h]
  have := heap_set h' 1 (.int .i64 n)
  show ((((w.setCell _ _).setCell _ _).setCell _ _).setCell _ _).heap[b]? = _
  simpa using this
theorem noted_eb {w : World} {b eb off : Nat} {e : Ev} {n : Int} {c : Array Value} {T : TypeId} (h : w.heap[eb]? = some (.cells c T (0, 0))) (hne : b ≠ eb) :
    (noted w b eb off e n).heap[eb]? = some (.cells (((c.setIfInBounds off (.int .i64 e.1)).setIfInBounds (off + 1) (.int .i64 e.2.1)).setIfInBounds (off + 2) (.int .i64 e.2.2)) T (0, 0)) := by
  have := heap_set (heap_set (heap_set h off (.int .i64 e.1)) (off + 1) (.int .i64 e.2.1)) (off + 2) (.int .i64 e.2.2)
  show ((((w.setCell _ _).setCell _ _).setCell _ _).setCell _ _).heap[eb]? = _
  rw [Below.heap_setCell _ _ _ _ (Ne.symm hne)]
  exact this
theorem noted_off {w : World} {S : Nat → Prop} {b eb off : Nat} {e : Ev} {n : Int} (h1 : S b) (h2 : S eb) : Off S w (noted w b eb off e n) :=
  (((((Off.refl S w).setCell (p := ⟨eb, off, none⟩) (fun _ => h2) _).setCell (p := ⟨eb, off + 1, none⟩) (fun _ => h2) _).setCell (p := ⟨eb, off + 2, none⟩) (fun _ => h2) _).setCell (p := ⟨b, 1, none⟩) (fun _ => h1) _).drew

theorem ev_other {w w' : World} {x off o : Nat} {e v : Ev} {c : Array Value} {T : TypeId} (hc : w.heap[x]? = some (.cells c T (0, 0)))
    (hN : w'.heap[x]? = some (.cells (((c.setIfInBounds off (.int .i64 e.1)).setIfInBounds (off + 1) (.int .i64 e.2.1)).setIfInBounds (off + 2) (.int .i64 e.2.2)) T (0, 0)))
    (hd : o + 2 < off ∨ off + 2 < o) (hv : evAt w x o v) : evAt w' x o v := by
  obtain ⟨a1, a2, a3⟩ := hv
  have s : ∀ j, j ≠ off → j ≠ off + 1 → j ≠ off + 2 → w'.cell? ⟨x, j, none⟩ = w.cell? ⟨x, j, none⟩ := by
    intro j h1 h2 h3
    refine (cell_of_heap hN j).trans (Eq.trans ?_ (cell_of_heap hc j).symm)
    rw [Array.getElem?_setIfInBounds_ne (Ne.symm h3), Array.getElem?_setIfInBounds_ne (Ne.symm h2), Array.getElem?_setIfInBounds_ne (Ne.symm h1)]
  exact ⟨(s _ (by omega) (by omega) (by omega)).trans a1, (s _ (by omega) (by omega) (by omega)).trans a2, (s _ (by omega) (by omega) (by omega)).trans a3⟩
theorem ev_self {w' : World} {x off : Nat} {e : Ev} {c : Array Value} {T : TypeId} (hz : c.size = 192)
    (hN : w'.heap[x]? = some (.cells (((c.setIfInBounds off (.int .i64 e.1)).setIfInBounds (off + 1) (.int .i64 e.2.1)).setIfInBounds (off + 2) (.int .i64 e.2.2)) T (0, 0)))
    (hd : off + 2 < 192) : evAt w' x off e := by
  refine ⟨(cell_of_heap hN _).trans ?_, (cell_of_heap hN _).trans ?_, (cell_of_heap hN _).trans ?_⟩
  · rw [Array.getElem?_setIfInBounds_ne (by omega), Array.getElem?_setIfInBounds_ne (by omega), Array.getElem?_setIfInBounds_self_of_lt (by omega)]
  · rw [Array.getElem?_setIfInBounds_ne (by omega), Array.getElem?_setIfInBounds_self_of_lt (by simp; omega)]
  · rw [Array.getElem?_setIfInBounds_self_of_lt (by simp; omega)]

/-- A tape that has room: what Note meets, and what it leaves. -/
theorem TapeG.room {w : World} {b : Nat} {es : List Ev} {S : Nat → Prop} (h : TapeG w b es S (es.length / 64 + 1)) :
    ∃ (g cap eb : Nat) (c : Array Value),
      w.heap[b]? = some (.cells #[.slice (some ⟨g, 0, none⟩) (es.length / 64 + 1) cap, .int .i64 (es.length : Int)] 100 (0, 0)) ∧
      w.cell? ⟨g, es.length / 64, none⟩ = some (.pointer (some ⟨eb, 0, none⟩)) ∧ w.heap[eb]? = some (.cells c 136 (0, 0)) ∧ c.size = 192 ∧ b ≠ eb ∧
      ∀ (e : Ev) (n : Int), n = (es.length : Int) + 1 → TapeAt (noted w b eb (es.length % 64 * 3) e n) b (es ++ [e]) S ∧ Off S w (noted w b eb (es.length % 64 * 3) e n) := by
  obtain ⟨sv, ebs, h1, h2, h3, h4, h5, h6, h7, h8⟩ := h
  have h3' := h3
  obtain ⟨hl, ⟨rfl, h0⟩ | ⟨g, cap, cur, rfl, _, hg, hn, hm, hs, ht⟩⟩ := h3
  · omega
  obtain ⟨eb, heb⟩ : ∃ eb, ebs[es.length / 64]? = some eb := ⟨ebs[es.length / 64]'(by omega), List.getElem?_eq_getElem _⟩
  obtain ⟨hSe, c, hc, hz⟩ := h7 eb (List.mem_of_getElem? heb)
  have hbe : b ≠ eb := fun e => by subst e; rw [h1] at hc; simp at hc
  have hge : g ≠ eb := fun e => by subst e; rw [hg] at hc; simp at hc
  have hgb : g ≠ b := fun e => by subst e; rw [hg] at h1; simp at h1
  refine ⟨g, cap, eb, c, h1, ?_, hc, hz, hbe, fun e n hn' => ⟨?_, noted_off h2 hSe⟩⟩
  · have hx : (ebs.map ptr)[es.length / 64]? = some (ptr eb) := by rw [List.getElem?_map, heb]; rfl
    have := h3'.cells (g := g) (by simp [Value.ownBlock]) _ _ hx
    rw [Addr.add_lit] at this
    simpa [ptr] using this
  · subst hn'
    have hw : need (es ++ [e]).length = es.length / 64 + 1 := by unfold need; simp; omega
    unfold TapeAt
    rw [hw]
    refine ⟨_, ebs, by simpa using noted_b (n := (es.length : Int) + 1) h1 hbe, h2, ⟨hl, .inr ⟨g, cap, cur, rfl, Nat.zero_le _, ?_, hn, hm, hs, ht⟩⟩, h4, h5, h6, ?_, ?_⟩
    · rw [noted_heap _ _ _ _ _ _ _ hgb hge]; exact hg
    · intro x hx
      obtain ⟨hS, d, hd, hdz⟩ := h7 x hx
      refine ⟨hS, ?_⟩
      by_cases hxe : x = eb
      · subst hxe
        exact ⟨_, noted_eb hc hbe, by simp [hz]⟩
      · have hxb : x ≠ b := fun e => by subst e; rw [h1] at hd; simp at hd
        exact ⟨d, by rw [noted_heap _ _ _ _ _ _ _ hxb hxe]; exact hd, hdz⟩
    · intro i v hi
      by_cases hlt : i < es.length
      · rw [List.getElem?_append_left hlt] at hi
        obtain ⟨x, hx, hv⟩ := h8 i v hi
        refine ⟨x, hx, ?_⟩
        by_cases hxe : x = eb
        · subst hxe
          have hii : i / 64 = es.length / 64 := by
            have l1 := (List.getElem?_eq_some_iff.1 hx).1
            have l2 := (List.getElem?_eq_some_iff.1 heb).1
            exact (List.getElem_inj h6).1 ((List.getElem?_eq_some_iff.1 hx).2.trans (List.getElem?_eq_some_iff.1 heb).2.symm)
          have hne : i % 64 ≠ es.length % 64 := by omega
          exact ev_other hc (noted_eb (off := es.length % 64 * 3) (e := e) (n := (es.length : Int) + 1) hc hbe) (by omega) hv
        · obtain ⟨_, d, hd, _⟩ := h7 x (List.mem_of_getElem? hx)
          have hxb : x ≠ b := fun e => by subst e; rw [h1] at hd; simp at hd
          have hk := noted_heap w b eb (es.length % 64 * 3) e ((es.length : Int) + 1) x hxb hxe
          exact ev_block hk hv
      · have : i = es.length := by
          have := (List.getElem?_eq_some_iff.1 hi).1
          simp at this; omega
        subst this
        simp at hi
        subst hi
        refine ⟨eb, heb, ?_⟩
        exact ev_self hz (noted_eb (off := es.length % 64 * 3) (e := e) (n := (es.length : Int) + 1) hc hbe) (by omega)



/-- An append that lays the new row in the old one's block or in a new one. -/
theorem run_append_mine {P : Program} (w : World) (t ty e : TypeId) (i : TypeInfo) (z : Value) (bytes : Nat) (ht : P.underlying t = some (.slice e)) (hi : P.info? e = some i) (hz : i.zero = some z)
    (hsize : i.size = 1) (hby : i.bytes = bytes) (hzs : z.cells.size = 1) (v : Value) (n : Nat) (xs : List Value) (hown : w.ownsRow 0 e 1 v n xs)
    (a : Addr) (c : Nat) (new : Value) (hnew : w.cell? a = some new) (h1 : new.oneCell' = true) (hn : n + 1 ≤ 1000000) (hb : bytes ≤ 1000) :
    ∃ v' w', (Builtin.append_ #[t, t] ty #[v, .slice (some a) 1 c]).run P w = .ok v' w' ∧ w'.ownsRow 0 e 1 v' (n + 1) (xs ++ [new]) ∧ w.grownBy w' v.ownBlock ∧
      (v'.ownBlock = v.ownBlock ∨ v'.ownBlock = some w.heap.size) := by
  have hbb : (n + 1) * bytes ≤ 140737488355328 := Nat.le_trans (Nat.mul_le_mul hn hb) (by decide)
  have hm : n + 1 ≤ maxLen := by unfold maxLen; omega
  have hnews : ∀ j u, [new][j]? = some u → w.cell? (a.add j) = some u := by
    intro j u hj
    cases j with
    | zero => simp at hj; subst hj; simpa [Addr.add] using hnew
    | succ j => simp at hj
  have h1' : ∀ u ∈ [new], u.oneCell' = true := by simpa using h1
  obtain ⟨v', w', hr, ho, hg, _⟩ := run_append_own (P := P) w 0 t ty e i z 1 bytes ht hi hz hsize hby hzs (by decide) v n xs hown a 1 c [new] (by simp) hnews h1' hm hbb (Nat.zero_le _)
  refine ⟨v', w', hr, ho, hg, ?_⟩
  rcases hown.2 with ⟨rfl, rfl⟩ | ⟨g, cap, cur, rfl, _, hgc, hnc, hcm, hcs, htake⟩
  · have hr2 := run_append_nil (P := P) w t ty e i z ht hi hz a 1 c [new] (by simp [hsize]) hnews (by omega) (by omega) (by rw [hby]; omega)
    rw [hr] at hr2
    obtain ⟨rfl, _⟩ := by simpa using hr2
    exact .inr rfl
  · by_cases hroom : n + 1 ≤ cap
    · have hr2 := run_append_room (P := P) w t ty e i ht hi g n cap cur hgc a 1 c [new] (by simp [hsize]) hnews h1' hroom (by rw [hsize, hcs]; simp; omega)
      rw [hr] at hr2
      obtain ⟨rfl, _⟩ := by simpa using hr2
      exact .inl rfl
    · have holds : ∀ j u, xs[j]? = some u → w.cell? ((⟨g, 0, none⟩ : Addr).add j) = some u := hown.cells (g := g) rfl
      have hr2 := run_append_grow (P := P) w t ty e i z ht hi hz ⟨g, 0, none⟩ n cap xs (by rw [hown.1, hsize]) holds a 1 c [new] (by simp [hsize]) hnews (by omega) (by omega) (by rw [hby]; exact growslice_fits (by omega) hbb)
      rw [hr] at hr2
      obtain ⟨rfl, _⟩ := by simpa using hr2
      exact .inr rfl

theorem wpList_append_mine {P : Program} (w : World) {ops : Array Oper} {rest : List Oper} {o : Oper} {a : Act} {Q : Exit → Act → World → Prop} (hgd : o.guard = none) (s x : Operand) (t : TypeId)
    (ho : o.op = .call { callee := .builtin .append, args := #[s, x], argTypes := #[t, t] })
    (e : TypeId) (i : TypeInfo) (z : Value) (bytes : Nat) (ht : P.underlying t = some (.slice e)) (hi : P.info? e = some i) (hz : i.zero = some z)
    (hsize : i.size = 1) (hby : i.bytes = bytes) (hzs : z.cells.size = 1) (v : Value) (n : Nat) (xs : List Value) (hs : a.eval s = v) (hown : w.ownsRow 0 e 1 v n xs)
    (ad : Addr) (c : Nat) (new : Value) (hx : a.eval x = .slice (some ad) 1 c) (hnew : w.cell? ad = some new) (h1 : new.oneCell' = true) (hn : n + 1 ≤ 1000000) (hb : bytes ≤ 1000)
    (h : ∀ v' w', w'.ownsRow 0 e 1 v' (n + 1) (xs ++ [new]) → w.grownBy w' v.ownBlock → (v'.ownBlock = v.ownBlock ∨ v'.ownBlock = some w.heap.size) → wpList P ops Q rest (a.put o.dst v') w') : wpList P ops Q (o :: rest) a w :=
  wpList_plain hgd fun K hK => by
    obtain ⟨v', w', hr, h2, h3, h4⟩ := run_append_mine (P := P) w t o.type e i z bytes ht hi hz hsize hby hzs v n xs hown ad c new hnew h1 hn hb
    unfold Oper.wp execOp
    simp only [ho, resolve, invoke, builtin, Sem.run_bind, Sem.run_pure, Result.andThen_ok, List.map_toArray, List.map_cons, List.map_nil, hs, hx, hr]
    exact hK _ _ (h v' w' h2 h3 h4)

/-- A tape whose blocks are full: what Note's append and the store of the new slice leave. -/
theorem more_step {w w1 : World} {b nb : Nat} {es : List Ev} {S : Nat → Prop} {sv v' : Value} {ebs : List Nat} {Z : Array Value} {o : Obj} (hZ : Z.size = 192)
    (h1 : w.heap[b]? = some (.cells #[sv, .int .i64 (es.length : Int)] 100 (0, 0))) (h2 : S b)
    (h3 : w.ownsRow 0 134 1 sv nb (ebs.map ptr)) (h4 : ∀ k, sv.ownBlock = some k → S k) (h5 : ebs.length = nb) (h6 : ebs.Nodup)
    (h7 : ∀ eb, eb ∈ ebs → S eb ∧ ∃ c, w.heap[eb]? = some (.cells c 136 (0, 0)) ∧ c.size = 192)
    (h8 : ∀ i e, es[i]? = some e → ∃ eb, ebs[i / 64]? = some eb ∧ evAt w eb (i % 64 * 3) e)
    (hown : w1.ownsRow 0 134 1 v' (nb + 1) (ebs.map ptr ++ [ptr w.heap.size]))
    (hg : ((w.alloc (.cells Z 136)).alloc o).grownBy w1 sv.ownBlock)
    (hv : v'.ownBlock = sv.ownBlock ∨ v'.ownBlock = some ((w.alloc (.cells Z 136)).alloc o).heap.size) :
    w1.heap[b]? = some (.cells #[sv, .int .i64 (es.length : Int)] 100 (0, 0)) ∧ (∃ g cap, v' = .slice (some ⟨g, 0, none⟩) (nb + 1) cap ∧ g ≠ b) ∧
    TapeG (w1.setCell ⟨b, 0, none⟩ v') b es (fun k => S k ∨ w.heap.size ≤ k) (nb + 1) ∧ Off S w (w1.setCell ⟨b, 0, none⟩ v') := by
  obtain ⟨wA, hA⟩ : ∃ wA, wA = (w.alloc (.cells Z 136)).alloc o := ⟨_, rfl⟩
  rw [← hA] at hg hv
  have hwA : Off (fun _ => False) w wA := by rw [hA]; exact ((Off.refl (fun _ => False) w).alloc _).alloc _
  have hrow : ∀ k, sv.ownBlock = some k → ∃ cur, w.heap[k]? = some (.cells cur 134 (0, 0)) := fun k hk => ownBlock_row h3 hk
  have keepA : ∀ (k : Nat) (c : Array Value) (T : TypeId), wA.heap[k]? = some (.cells c T (0, 0)) → T ≠ 134 → w1.heap[k]? = some (.cells c T (0, 0)) := by
    intro k c T hk hT
    refine (hg.block k (heap_lt hk) (fun e => ?_)).trans hk
    obtain ⟨cur, hc⟩ := hrow k e.symm
    have := hwA.heap hc (fun c => c)
    rw [hk] at this; simp at this; exact hT this.2
  have keep : ∀ (k : Nat) (c : Array Value) (T : TypeId), w.heap[k]? = some (.cells c T (0, 0)) → T ≠ 134 → w1.heap[k]? = some (.cells c T (0, 0)) := fun k c T hk hT => keepA k c T (hwA.heap hk (fun c => c)) hT
  have hb := keep _ _ _ h1 (by decide)
  have hEA : wA.heap[w.heap.size]? = some (.cells Z 136 (0, 0)) := by
    rw [hA]; exact (Below.heap_alloc _ _ _ (by simp)).trans (World.alloc_heap_new w _)
  have hE := keepA _ _ _ hEA (by decide)
  have hbw : b ≠ w.heap.size := Nat.ne_of_lt (heap_lt h1)
  have hown' := hown
  obtain ⟨hl', ⟨rfl, h0⟩ | ⟨g, cap, cur, rfl, hgb0, hgc, hn, hm, hs, ht⟩⟩ := hown
  · omega
  have hgb : g ≠ b := fun e => by subst e; rw [hgc] at hb; simp at hb
  have hgS : S g ∨ w.heap.size ≤ g := by
    rcases hv with hv | hv
    · exact .inl (h4 g (by rw [← hv]; rfl))
    · have : g = wA.heap.size := by simpa [Value.ownBlock] using hv
      exact .inr (by rw [this]; exact hwA.size)
  have hoff1 : Off S w w1 := (hwA.mono (fun _ _ c => c.elim)).grown hg (fun k hk => ⟨fun _ => h4 k hk, fun o' ho' => by
    obtain ⟨cur', hc'⟩ := hrow k hk
    have := hwA.heap hc' (fun c => c)
    rw [this] at ho'; cases ho'; rfl⟩)
  refine ⟨hb, ⟨g, cap, rfl, hgb⟩, ?_, hoff1.setCell (fun _ => h2) _⟩
  have same : ∀ k, k ≠ b → (w1.setCell ⟨b, 0, none⟩ (.slice (some ⟨g, 0, none⟩) (nb + 1) cap)).heap[k]? = w1.heap[k]? := fun k hk => Below.heap_setCell _ _ _ _ hk
  refine ⟨.slice (some ⟨g, 0, none⟩) (nb + 1) cap, ebs ++ [w.heap.size], ?_, .inl h2, ?_, ?_, by simp [h5], ?_, ?_, ?_⟩
  · simpa using heap_set hb 0 (.slice (some ⟨g, 0, none⟩) (nb + 1) cap)
  · refine ⟨by simpa using hown'.1, .inr ⟨g, cap, cur, rfl, Nat.zero_le _, by rw [same g hgb]; exact hgc, hn, hm, hs, by simpa using ht⟩⟩
  · intro k hk
    have : k = g := by simpa [Value.ownBlock] using hk.symm
    subst this; exact hgS
  · rw [List.nodup_append]
    refine ⟨h6, by simp, fun x hx y hy e => ?_⟩
    obtain ⟨_, c, hc, _⟩ := h7 x hx
    have := heap_lt hc
    simp at hy; omega
  · intro eb he
    rcases List.mem_append.1 he with he | he
    · obtain ⟨hS, c, hc, hz⟩ := h7 eb he
      have hne : eb ≠ b := fun e => by subst e; rw [h1] at hc; simp at hc
      exact ⟨.inl hS, c, by rw [same eb hne]; exact keep _ _ _ hc (by decide), hz⟩
    · have : eb = w.heap.size := by simpa using he
      subst this
      exact ⟨.inr (Nat.le_refl _), Z, by rw [same _ (Ne.symm hbw)]; exact hE, hZ⟩
  · intro i e hi
    obtain ⟨eb, he, hv⟩ := h8 i e hi
    obtain ⟨_, c, hc, _⟩ := h7 eb (List.mem_of_getElem? he)
    have hne : eb ≠ b := fun e => by subst e; rw [h1] at hc; simp at hc
    have hk := (same eb hne).trans ((keep _ _ _ hc (by decide)).trans hc.symm)
    exact ⟨eb, by rw [List.getElem?_append_left (List.getElem?_eq_some_iff.1 he).1]; exact he, ev_block hk hv⟩
end
section
open Go.RowKit

theorem blk_info : (Tryd.prog.info? 136).map (fun i => i.zero) = some (some (.agg (Array.replicate 192 (.int .i64 0)))) := by kernel_rfl
theorem zero_blk : ∃ Z : Array Value, Z.size = 192 ∧ (∀ w, (zeroValue 136).run Tryd.prog w = .ok (.agg Z) w) := by
  obtain ⟨i, hi, hz⟩ := Option.map_eq_some_iff.1 blk_info
  exact ⟨Array.replicate 192 (.int .i64 0), Array.size_replicate, fun w => by simp [zeroValue, typeInfo, hi, hz]⟩
theorem pblk_info : (Tryd.prog.info? 134).map (fun i => (i.zero, i.size, i.bytes)) = some (some (.pointer none), 1, 8) := by kernel_rfl

/-- The facts that Note's second half asks of a block of events. -/
theorem blk_cells {w : World} {eb o : Nat} {c : Array Value} {T : TypeId} (h : w.heap[eb]? = some (.cells c T (0, 0))) (ho : o + 2 < c.size) :
    ∃ v0 v1 v2 : Value, w.cell? ⟨eb, o, none⟩ = some v0 ∧ w.cell? ⟨eb, o + 1, none⟩ = some v1 ∧ w.cell? ⟨eb, o + 2, none⟩ = some v2 :=
  ⟨c[o]'(by omega), c[o + 1]'(by omega), c[o + 2]'(by omega), (cell_of_heap h _).trans (Array.getElem?_eq_getElem _), (cell_of_heap h _).trans (Array.getElem?_eq_getElem _), (cell_of_heap h _).trans (Array.getElem?_eq_getElem _)⟩

set_option maxHeartbeats 1000000 in
theorem note_room (b : Nat) (es : List Ev) (S : Nat → Prop) (w : World) (h : TapeAt w b es S) (hl : es.length < 100000) (hr : es.length % 64 ≠ 0) (e : Ev) :
    Calls Tryd.prog 46 #[.pointer (some ⟨b, 0, none⟩), .int .i64 e.1, .int .i64 e.2.1, .int .i64 e.2.2] w fun r w' => r = .returned (.tuple #[]) ∧ TapeAt w' b (es ++ [e]) S ∧ Off S w w' := by
  have hn : need es.length = es.length / 64 + 1 := by unfold need; omega
  unfold TapeAt at h
  rw [hn] at h
  obtain ⟨g, cap, eb, c, hb, c2, hc, hz, hbe, hfin⟩ := h.room
  obtain ⟨m, hm⟩ : ∃ m, m = es.length := ⟨_, rfl⟩
  rw [← hm] at hfin hb c2 hl hr
  have HF := Lib.hid (hfin e ((m : Int) + 1) rfl)
  have hr' : ((m : Int) % 64 == 0) = false := by simp; omega
  have c0 : w.cell? ⟨b, 0, none⟩ = some (.slice (some ⟨g, 0, none⟩) (m / 64 + 1) cap) := cell_of_heap hb 0
  have c1 : w.cell? ⟨b, 1, none⟩ = some (.int .i64 m) := cell_of_heap hb 1
  have f1 : w.frozen? ⟨b, 1, none⟩ = false := frozen_of_heap hb 1
  obtain ⟨v0, v1, v2, e0, e1, e2⟩ := blk_cells (o := m % 64 * 3) hc (by omega)
  have g0 := frozen_of_heap hc (m % 64 * 3)
  have g1 := frozen_of_heap hc (m % 64 * 3 + 1)
  have g2 := frozen_of_heap hc (m % 64 * 3 + 2)
  obtain ⟨nb, hnb⟩ : ∃ nb, nb = m / 64 + 1 := ⟨_, rfl⟩
  rw [← hnb] at c0
  have hqn : m / 64 < nb := by omega
  have hnl : nb ≤ 100000 := by omega
  obtain ⟨ek, ea, eo⟩ := e
  clear hfin hc hz hb h hm hn hnb
  go_enter Tryd.func46, Tryd.ntmps46
  go_wp2
  go_region
  go_wp2
  go_end0
  exact ⟨rfl, HF.out⟩

set_option maxHeartbeats 2000000 in
theorem note_full (b : Nat) (es : List Ev) (S : Nat → Prop) (w : World) (h : TapeAt w b es S) (hl : es.length < 100000) (hr : es.length % 64 = 0) (e : Ev) :
    Calls Tryd.prog 46 #[.pointer (some ⟨b, 0, none⟩), .int .i64 e.1, .int .i64 e.2.1, .int .i64 e.2.2] w fun r w' => r = .returned (.tuple #[]) ∧ TapeAt w' b (es ++ [e]) (fun k => S k ∨ w.heap.size ≤ k) ∧ Off S w w' := by
  have hn : need es.length = es.length / 64 := by unfold need; omega
  unfold TapeAt at h
  rw [hn] at h
  obtain ⟨sv, ebs, h1, h2, h3, h4, h5, h6, h7, h8⟩ := h
  obtain ⟨a0, n0, cap0, rfl⟩ : ∃ (a0 : Option Addr) (n0 cap0 : Nat), sv = .slice a0 n0 cap0 := by
    rcases h3.2 with ⟨rfl, _⟩ | ⟨g, cap, cur, rfl, _⟩ <;> exact ⟨_, _, _, rfl⟩
  obtain ⟨Z, hZ, hzero⟩ := zero_blk
  have hZn : ¬ Z = #[] := by rintro rfl; simp at hZ
  obtain ⟨i0, hi, hz0, hz1, hz2⟩ := info_parts pblk_info
  have hstep := fun (w1 : World) (v' : Value) (o : Obj) hown hg hv => more_step (w := w) (w1 := w1) (v' := v') (o := o) hZ h1 h2 h3 h4 h5 h6 h7 h8 hown hg hv
  have hm : ((es.length : Int) % 64 == 0) = true := by simp; omega
  have HS := Lib.hid hstep
  have hnb := Lib.hid (show es.length / 64 + 1 ≤ 1000000 by omega)
  have c0 : w.cell? ⟨b, 0, none⟩ = some (.slice a0 n0 cap0) := cell_of_heap h1 0
  have c1 : w.cell? ⟨b, 1, none⟩ = some (.int .i64 es.length) := cell_of_heap h1 1
  have hlt := heap_lt h1
  have H3 := Lib.hid h3
  clear hstep h1 h4 h5 h6 h7 h8 hn h3
  obtain ⟨m, hm'⟩ : ∃ m, m = es.length := ⟨_, rfl⟩
  rw [← hm'] at hm c1 hl hr hnb HS H3
  have HM := Lib.hid hm'
  clear hm'
  obtain ⟨ek, ea, eo⟩ := e
  go_enter Tryd.func46, Tryd.ntmps46
  go_wp2_with (at_builtin; refine wpList_append_mine _ rfl _ _ 98 rfl 134 i0 (.pointer none) 8 Tryd.underlying98 hi hz0 hz1 hz2 rfl _ _ _ rfl ((H3.out.alloc _).alloc _) ⟨w.heap.size + 1, 0, none⟩ 1 (.pointer (some ⟨w.heap.size, 0, none⟩)) rfl ?q2 rfl hnb.out (by decide) ?_)
  case q2 => simp [go_sem]
  intro v' w1 hown hgrow hv
  obtain ⟨hb1, ⟨g, cap, rfl, hgb⟩, hT, hO⟩ := HS.out w1 v' _ hown hgrow (by simpa using hv)
  have hlen : es.length = m := HM.out.symm
  have hnb2 : m / 64 + 1 = es.length / 64 + 1 := by rw [hlen]
  rw [hnb2] at hT
  obtain ⟨g', cap', eb, c, hb, c2, hc, hz, hbe, hfin⟩ := hT.room
  rw [hlen] at hb c2 hfin
  have HF := Lib.hid (hfin (ek, ea, eo) ((m : Int) + 1) rfl)
  have HO := Lib.hid hO
  have hset := heap_set hb1 0 (.slice (some ⟨g, 0, none⟩) (m / 64 + 1) cap)
  rw [hb] at hset
  obtain ⟨rfl, rfl⟩ : g' = g ∧ cap' = cap := by simpa using hset
  have s : ∀ k o, k ≠ b → (w1.setCell ⟨b, 0, none⟩ (.slice (some ⟨g', 0, none⟩) (m / 64 + 1) cap')).cell? ⟨k, o, none⟩ = w1.cell? ⟨k, o, none⟩ := fun k o hk => World.cell?_of_block (a := ⟨k, o, none⟩) (Below.heap_setCell _ _ _ _ hk)
  have c0 : w1.cell? ⟨b, 0, none⟩ = some (.slice a0 n0 cap0) := cell_of_heap hb1 0
  have c1 : w1.cell? ⟨b, 1, none⟩ = some (.int .i64 m) := cell_of_heap hb1 1
  have f0 : w1.frozen? ⟨b, 0, none⟩ = false := frozen_of_heap hb1 0
  have f1 : w1.frozen? ⟨b, 1, none⟩ = false := frozen_of_heap hb1 1
  rw [s _ _ hgb] at c2
  have hc1 : w1.heap[eb]? = some (.cells c 136 (0, 0)) := by rw [← hc]; exact (Below.heap_setCell _ _ _ _ (Ne.symm hbe)).symm
  obtain ⟨v0, v1, v2, e0, e1, e2⟩ := blk_cells (o := m % 64 * 3) hc1 (by omega)
  have g0 := frozen_of_heap hc1 (m % 64 * 3)
  have g1 := frozen_of_heap hc1 (m % 64 * 3 + 1)
  have g2 := frozen_of_heap hc1 (m % 64 * 3 + 2)
  obtain ⟨nb, hnb'⟩ : ∃ nb, nb = m / 64 + 1 := ⟨_, rfl⟩
  rw [← hnb'] at HF HO ⊢
  have hqn : m / 64 < nb := by omega
  have hnl : nb ≤ 100000 := by omega
  have hgb2 := Ne.symm hgb
  have hbe2 := Ne.symm hbe
  clear hb1 hT hO hb hc hz hfin hset s hc1 hnb' hnb2 hlen hown hgrow hv HS H3 hi hz0 hz1 hz2 hr hm
  go_wp2
  go_region
  go_wp2
  go_end0
  exact ⟨rfl, HF.out.1, HO.out.trans HF.out.2 (fun k hk c => c.elim id (fun h => absurd hk (by omega)))⟩

theorem note_any (b : Nat) (es : List Ev) (S : Nat → Prop) (w : World) (h : TapeAt w b es S) (hl : es.length < 100000) (e : Ev) :
    Calls Tryd.prog 46 #[.pointer (some ⟨b, 0, none⟩), .int .i64 e.1, .int .i64 e.2.1, .int .i64 e.2.2] w fun r w' => r = .returned (.tuple #[]) ∧ TapeAt w' b (es ++ [e]) (fun k => S k ∨ w.heap.size ≤ k) ∧ Off S w w' := by
  by_cases hr : es.length % 64 = 0
  · exact note_full b es S w h hl hr e
  · exact (note_room b es S w h hl hr e).mono fun r w' ⟨h1, h2, h3⟩ => ⟨h1, TapeG.mono h2 (fun _ _ => .inl), h3⟩

set_option maxHeartbeats 400000 in
theorem note_nil (x y z : Int) (w : World) :
    Calls Tryd.prog 46 #[.pointer none, .int .i64 x, .int .i64 y, .int .i64 z] w fun r w' => r = .returned (.tuple #[]) ∧ w = w' := by
  go_enter Tryd.func46, Tryd.ntmps46
  go_wp2
  first | (go_end0; exact ⟨rfl, rfl⟩) | (refine bodyPost_ret (results_none rfl _ _ _) rfl ?_; exact ⟨rfl, rfl⟩)

/-- A tape as a value: nil, which is empty, or a tape in memory. -/
def TapeV (w : World) (v : Value) (es : List Ev) (S : Nat → Prop) : Prop := (v = .pointer none ∧ es = []) ∨ ∃ b, v = .pointer (some ⟨b, 0, none⟩) ∧ TapeAt w b es S
theorem TapeV.off {w w' : World} {v : Value} {es : List Ev} {S S' : Nat → Prop} (h : TapeV w v es S) (ho : Off S' w w') (hd : ∀ k, k < w.heap.size → S k → ¬ S' k) : TapeV w' v es S := by
  rcases h with h | ⟨b, hv, ht⟩
  · exact .inl h
  · exact .inr ⟨b, hv, ht.off ho hd⟩
theorem TapeV.mono {w : World} {v : Value} {es : List Ev} {S S' : Nat → Prop} (h : TapeV w v es S) (hs : ∀ k, k < w.heap.size → S k → S' k) : TapeV w v es S' := by
  rcases h with h | ⟨b, hv, ht⟩
  · exact .inl h
  · exact .inr ⟨b, hv, ht.mono hs⟩

set_option maxHeartbeats 400000 in
theorem len_some (b : Nat) (n : Int) (w : World) (h : w.cell? ⟨b, 1, none⟩ = some (.int .i64 n)) :
    Calls Tryd.prog 24 #[.pointer (some ⟨b, 0, none⟩)] w fun r w' => r = .returned (.int .i64 n) ∧ w = w' := by
  go_enter Tryd.func24, Tryd.ntmps24
  go_wp2
  go_ret
  exact ⟨rfl, rfl⟩
set_option maxHeartbeats 400000 in
theorem len_nil (w : World) :
    Calls Tryd.prog 24 #[.pointer none] w fun r w' => r = .returned (.int .i64 0) ∧ w = w' := by
  go_enter Tryd.func24, Tryd.ntmps24
  go_wp2
  go_ret
  exact ⟨rfl, rfl⟩
theorem len_any (v : Value) (es : List Ev) (S : Nat → Prop) (w : World) (h : TapeV w v es S) :
    Calls Tryd.prog 24 #[v] w fun r w' => r = .returned (.int .i64 (es.length : Int)) ∧ w = w' := by
  rcases h with ⟨rfl, rfl⟩ | ⟨b, rfl, ht⟩
  · exact len_nil w
  · obtain ⟨sv, _, h1, _⟩ := ht.bh
    exact len_some b _ w h1

/-- What a tape's reader meets at position i. -/
theorem TapeG.look {w : World} {b nb : Nat} {es : List Ev} {S : Nat → Prop} (h : TapeG w b es S nb) {i : Nat} {e : Ev} (hi : es[i]? = some e) :
    ∃ g cap eb : Nat, w.cell? ⟨b, 0, none⟩ = some (.slice (some ⟨g, 0, none⟩) nb cap) ∧ w.cell? ⟨g, i / 64, none⟩ = some (.pointer (some ⟨eb, 0, none⟩)) ∧ i / 64 < nb ∧ evAt w eb (i % 64 * 3) e := by
  obtain ⟨sv, ebs, h1, h2, h3, h4, h5, h6, h7, h8⟩ := h
  obtain ⟨eb, he, hv⟩ := h8 i e hi
  have hlt := (List.getElem?_eq_some_iff.1 he).1
  have h3' := h3
  obtain ⟨hl, ⟨rfl, h0⟩ | ⟨g, cap, cur, rfl, _, hg, hn, hm, hs, ht⟩⟩ := h3
  · omega
  · refine ⟨g, cap, eb, cell_of_heap h1 0, ?_, by omega, hv⟩
    have hx : (ebs.map ptr)[i / 64]? = some (ptr eb) := by rw [List.getElem?_map, he]; rfl
    have := h3'.cells (g := g) (by simp [Value.ownBlock]) _ _ hx
    rw [Addr.add_lit] at this
    simpa [ptr] using this

theorem ev_info : (Tryd.prog.info? 102).map (fun i => (i.zero, i.size, i.bytes)) = some (some (.agg #[.int .i64 0, .int .i64 0, .int .i64 0]), 3, 24) := by kernel_rfl

set_option maxHeartbeats 1000000 in
theorem at_cells (b : Nat) (i : Nat) (e : Ev) (g cap nb eb : Nat) (w : World) (hi : i < 200000) (c0 : w.cell? ⟨b, 0, none⟩ = some (.slice (some ⟨g, 0, none⟩) nb cap)) (c1 : w.cell? ⟨g, i / 64, none⟩ = some (.pointer (some ⟨eb, 0, none⟩))) (hn : i / 64 < nb) (hnb : nb < 200000) (hv : evAt w eb (i % 64 * 3) e) :
    Calls Tryd.prog 93 #[.pointer (some ⟨b, 0, none⟩), .int .i64 (i : Int)] w fun r w' => r = .returned e.v ∧ Off (fun _ => False) w w' := by
  obtain ⟨e0, e1, e2⟩ := hv
  obtain ⟨ek, ea, eo⟩ := e
  have b0 : b < w.heap.size := World.block_lt_of_cell? w _ c0
  have b1 : g < w.heap.size := World.block_lt_of_cell? w _ c1
  have b2 : eb < w.heap.size := World.block_lt_of_cell? w _ e0
  go_enter Tryd.func93, Tryd.ntmps93
  go_wp2
  exact bodyPost_ret (v := .agg #[.int .i64 ek, .int .i64 ea, .int .i64 eo]) (by simp [results, Tryd.results93, go_sem]) rfl ⟨rfl, (Off.refl _ w).alloc _⟩

theorem at_any (b : Nat) (es : List Ev) (S : Nat → Prop) (w : World) (h : TapeAt w b es S) (hl : es.length ≤ 100000) (i : Nat) (e : Ev) (hi : es[i]? = some e) :
    Calls Tryd.prog 93 #[.pointer (some ⟨b, 0, none⟩), .int .i64 (i : Int)] w fun r w' => r = .returned e.v ∧ Off (fun _ => False) w w' := by
  obtain ⟨g, cap, eb, c0, c1, hn, hv⟩ := TapeG.look h hi
  have hlt := (List.getElem?_eq_some_iff.1 hi).1
  exact at_cells b i e g cap _ eb w (by omega) c0 c1 hn (by unfold need; omega) hv
end
section
open Go.RowKit

/-- The slice v holds the events es; its cells, where it has any, lie within S. -/
def EvsAt (w : World) (v : Value) (es : List Ev) (S : Nat → Prop) : Prop :=
  ∃ a cap, v = .slice a es.length cap ∧ es.length ≤ cap ∧ cap ≤ maxLen ∧ (a = none → cap = 0) ∧
    (0 < es.length → ∃ b off, a = some ⟨b, off, none⟩ ∧ S b ∧ ∀ j e, es[j]? = some e → evAt w b (off + j * 3) e)
theorem EvsAt.off {w w' : World} {v : Value} {es : List Ev} {S S' : Nat → Prop} (h : EvsAt w v es S) (ho : Off S' w w') (hd : ∀ k, k < w.heap.size → S k → ¬ S' k) : EvsAt w' v es S := by
  obtain ⟨a, cap, hv, h1, h2, h3, h4⟩ := h
  refine ⟨a, cap, hv, h1, h2, h3, fun hp => ?_⟩
  obtain ⟨b, off, ha, hS, hc⟩ := h4 hp
  refine ⟨b, off, ha, hS, fun j e hj => ?_⟩
  have he := hc j e hj
  have hlt : b < w.heap.size := World.block_lt_of_cell? w _ he.1
  exact ho.ev he (hd b hlt hS)
theorem EvsAt.mono {w : World} {v : Value} {es : List Ev} {S S' : Nat → Prop} (h : EvsAt w v es S) (hs : ∀ k, k < w.heap.size → S k → S' k) : EvsAt w v es S' := by
  obtain ⟨a, cap, hv, h1, h2, h3, h4⟩ := h
  refine ⟨a, cap, hv, h1, h2, h3, fun hp => ?_⟩
  obtain ⟨b, off, ha, hS, hc⟩ := h4 hp
  refine ⟨b, off, ha, hs b ?_ hS, hc⟩
  obtain ⟨e, he⟩ : ∃ e, es[0]? = some e := ⟨es[0], List.getElem?_eq_getElem hp⟩
  exact World.block_lt_of_cell? w _ (hc 0 e he).1

theorem take_push {es : List Ev} {k : Nat} {e : Ev} (h : es[k]? = some e) : es.take (k + 1) = es.take k ++ [e] := by
  obtain ⟨hlt, rfl⟩ := List.getElem?_eq_some_iff.1 h
  rw [List.take_succ_eq_append_getElem hlt]

theorem tape_new (w : World) : TapeAt (w.alloc (.cells #[.slice none 0 0, .int .i64 0] 100)) w.heap.size [] (fun k => w.heap.size ≤ k) := by
  refine ⟨.slice none 0 0, [], World.alloc_heap_new w _, Nat.le_refl _, World.ownsRow_nil _ _ _ _, fun k hk => by simp [Value.ownBlock] at hk, rfl, List.nodup_nil, fun _ h => by simp at h, fun i e h => by simp at h⟩

set_option maxHeartbeats 2000000 in
theorem new_any (sv : Value) (es : List Ev) (S : Nat → Prop) (w : World) (hI : EvsAt w sv es S) (hl : es.length ≤ 90000) :
    Calls Tryd.prog 23 #[sv] w fun r w' => r = .returned (.pointer (some ⟨w.heap.size, 0, none⟩)) ∧ TapeAt w' w.heap.size es (fun k => w.heap.size ≤ k) ∧ Off (fun _ => False) w w' := by
  obtain ⟨a, cap, rfl, h1, h2, h3, h4⟩ := hI
  have HT := Lib.hid (tape_new w)
  clear h1 h2 h3
  obtain ⟨n, hn⟩ : ∃ n, n = es.length := ⟨_, rfl⟩
  rw [← hn] at h4 hl ⊢
  have HN := Lib.hid hn
  clear hn
  go_enter Tryd.func23, Tryd.ntmps23
  go_wp2
  go_loopw [10] (fun i wr => ∃ k : Nat, k ≤ n ∧ i = .int .i64 k ∧ TapeAt wr w.heap.size (es.take k) (fun k => w.heap.size ≤ k) ∧ Off (fun _ => False) w wr) (fun i _ => n - (intOf i).toNat)
  case atStart => exact ⟨0, Nat.zero_le _, rfl, HT.out, (Off.refl _ w).alloc _⟩
  case round =>
    obtain ⟨k, hk, rfl, hT, hO⟩ := hrel
    by_cases hlt : k < n
    · obtain ⟨b, off, rfl, _, hcell⟩ := h4 (by omega)
      obtain ⟨e, he⟩ : ∃ e, es[k]? = some e := ⟨es[k]'(by have := HN.out; omega), List.getElem?_eq_getElem _⟩
      obtain ⟨c0, c1, c2⟩ := hO.ev (hcell k e he) (fun c => c)
      have hlen : (es.take k).length < 100000 := by rw [List.length_take]; omega
      have HE := Lib.hid he
      clear h4 hcell he
      obtain ⟨ek, ea, eo⟩ := e
      go_wp2_with fail
      refine (note_any _ (es.take k) _ _ (TapeG.grown hT (World.grownBy_alloc wr _ none)) hlen (ek, ea, eo)).mono ?_
      rintro r w1 ⟨rfl, hT1, hO1⟩
      rw [← take_push HE.out] at hT1
      have hO2 : Off (fun _ => False) w w1 := (hO.alloc _).trans hO1 (fun j hj h => by omega)
      have hT2 : TapeAt w1 w.heap.size (es.take (k + 1)) (fun j => w.heap.size ≤ j) := TapeG.mono hT1 (fun j _ h => h.elim id (fun h => by have := hO.size; simp at h; omega))
      clear hT hT1 hO hO1
      go_wp2
      go_roundw
      case rel => exact ⟨k + 1, by omega, by go_num, hT2, hO2⟩
      case measure => simp [intOf]; omega
    · obtain rfl : k = n := by omega
      clear h4
      go_wp2
      go_ret
      have := HN.out
      subst this
      rw [List.take_length] at hT
      exact ⟨rfl, hT, hO⟩

set_option maxRecDepth 100000 in
/-- Two events as '==' and '!=' compare them. -/
theorem equal_ev (x y : Ev) (w : World) : (Op.equalIn 10000 102 x.v y.v).run Tryd.prog w = .ok (decide (x = y)) w := by
  obtain ⟨a, b, c⟩ := x
  obtain ⟨d, e, f⟩ := y
  simp only [Ev.v]
  rw [run_equalIn_struct w 9999 _ _ _ Tryd.underlying102 Tryd.stoodInHeld102]
  simp [Op.eqFields, go_sem, part]
  by_cases h1 : a = d <;> by_cases h2 : b = e <;> by_cases h3 : c = f <;> simp [h1, h2, h3]
set_option maxRecDepth 100000 in
theorem neq_ev (x y : Ev) (w : World) : (binOp .neq 102 x.v y.v).run Tryd.prog w = .ok (.bool (!decide (x = y))) w := by
  have h := equal_ev x y w
  simp only [Ev.v] at h ⊢
  rw [run_neq_struct, h]
  rfl
end
section
open Go.RowKit Go.Shelf
theorem wide_fn (f : Nat) : Fence.wide.fn f = True := rfl
attribute [local go_sem] Oper.semAt_some wide_fn

/-- The events es can be read from the tape v, which may have more of them by now. -/
def Reads (W : World) (v : Value) (es : List Ev) : Prop :=
  (v = .pointer none ∧ es = []) ∨ ∃ b es' S, v = .pointer (some ⟨b, 0, none⟩) ∧ TapeAt W b es' S ∧ es <+: es' ∧ es'.length ≤ 100000
/-- What the iterator reads between two rounds: its two boxes, and the tape. -/
def Rd (Bi Bt s : Nat) (v : Value) (es : List Ev) (W : World) : Prop :=
  W.cell? ⟨Bi, 0, none⟩ = some (.int .i64 (s : Int)) ∧ W.cell? ⟨Bt, 0, none⟩ = some v ∧ Reads W v es

theorem TapeV.reads {W : World} {v : Value} {es : List Ev} {S : Nat → Prop} (h : TapeV W v es S) (hl : es.length ≤ 100000) : Reads W v es := by
  rcases h with h | ⟨b, hv, ht⟩
  · exact .inl h
  · exact .inr ⟨b, es, S, hv, ht, List.prefix_refl _, hl⟩

/-- A tape lies in cells alone. -/
theorem TapeG.cells {w : World} {b nb : Nat} {es : List Ev} {S : Nat → Prop} (h : TapeG w b es S nb) : TapeG w b es (fun k => S k ∧ ∃ o : Obj, w.heap[k]? = some o ∧ o.isCells = true) nb := by
  obtain ⟨sv, ebs, h1, h2, h3, h4, h5, h6, h7, h8⟩ := h
  refine ⟨sv, ebs, h1, ⟨h2, _, h1, rfl⟩, h3, fun k hk => ?_, h5, h6, fun eb he => ?_, h8⟩
  · obtain ⟨cur, hc⟩ := ownBlock_row h3 hk
    exact ⟨h4 k hk, _, hc, rfl⟩
  · obtain ⟨hs, c, hc, hz⟩ := h7 eb he
    exact ⟨⟨hs, _, hc, rfl⟩, c, hc, hz⟩
/-- .. and abides whatever turns no cells. -/
theorem TapeG.kept {w w' : World} {row : Option Nat} {b nb : Nat} {es : List Ev} {S : Nat → Prop} (h : TapeG w b es S nb) (hg : w.grownBy w' row) (hr : ∀ r, row = some r → ∃ o : Obj, w.heap[r]? = some o ∧ o.isCells = false) : TapeG w' b es S nb := by
  have h2 := h.cells
  obtain ⟨sv, ebs, h1, h2, h3, h4, h5, h6, h7, h8⟩ := h2
  have K : ∀ k : Nat, (∃ o : Obj, w.heap[k]? = some o ∧ o.isCells = true) → w'.heap[k]? = w.heap[k]? := by
    rintro k ⟨o, ho, hc⟩
    exact grownBy_keeps_cells hg hr ho hc
  refine ⟨sv, ebs, (K b h2.2).trans h1, h2.1, ?_, fun k hk => (h4 k hk).1, h5, h6, ?_, ?_⟩
  · refine ⟨h3.1, ?_⟩
    rcases h3.2 with hn | ⟨g, cap, cur, rfl, hb, hg', r⟩
    · exact .inl hn
    · exact .inr ⟨g, cap, cur, rfl, hb, (K g (h4 g rfl).2).trans hg', r⟩
  · intro eb he
    obtain ⟨hs, c, hc, hz⟩ := h7 eb he
    exact ⟨hs.1, c, (K eb hs.2).trans hc, hz⟩
  · intro i e hi
    obtain ⟨eb, he, hv⟩ := h8 i e hi
    exact ⟨eb, he, ev_block (K eb (h7 eb (List.mem_of_getElem? he)).1.2) hv⟩
theorem Reads.kept {w w' : World} {row : Option Nat} {v : Value} {es : List Ev} (h : Reads w v es) (hg : w.grownBy w' row) (hr : ∀ r, row = some r → ∃ o : Obj, w.heap[r]? = some o ∧ o.isCells = false) : Reads w' v es := by
  rcases h with h | ⟨b, es', S, hv, ht, hp, hl⟩
  · exact .inl h
  · exact .inr ⟨b, es', S, hv, TapeG.kept ht hg hr, hp, hl⟩
theorem Rd.kept {w w' : World} {row : Option Nat} {Bi Bt s : Nat} {v : Value} {es : List Ev} (h : Rd Bi Bt s v es w) (hg : w.grownBy w' row) (hr : ∀ r, row = some r → ∃ o : Obj, w.heap[r]? = some o ∧ o.isCells = false) : Rd Bi Bt s v es w' :=
  ⟨cell_kept h.1 hg hr, cell_kept h.2.1 hg hr, h.2.2.kept hg hr⟩
theorem rdK_b {Bi Bt s : Nat} {v : Value} {es : List Ev} {n : Nat} (W : World) (l : Nat) (o o' : Obj) (_ : n ≤ l) (h : W.heap[l]? = some o) (hc : o.isCells = false) (_ : o.isWalk = false) : Rd Bi Bt s v es W → Rd Bi Bt s v es (W.putObj l o') :=
  fun hr => hr.kept (grownBy_putObj' W l o') (fun r e => by cases e; exact ⟨o, h, hc⟩)

theorem drop_get {es : List Ev} {s k : Nat} (hk : k < (es.drop s).length) : ∃ e, es[s + k]? = some e ∧ (es.drop s).take (k + 1) = (es.drop s).take k ++ [e] := by
  obtain ⟨e, he⟩ : ∃ e, (es.drop s)[k]? = some e := ⟨_, List.getElem?_eq_getElem hk⟩
  exact ⟨e, by rw [← he, List.getElem?_drop], take_push he⟩

set_option maxRecDepth 100000 in
set_option maxHeartbeats 2000000 in
theorem after1_in (n : Nat) (hn : 1 ≤ n) (l Bi Bt s : Nat) (p : Option Addr) (es : List Ev) (hs : s ≤ es.length) (hl : es.length ≤ 100000) (S : Nat → Prop) (J Jx : List Ev → World → Prop) (W : World)
    (hJ : ∀ s A B, J s A → A.grownBy B none → J s B)
    (hY : ∀ (pre : List Ev) (x : Ev) W, J pre W → pre.length < (es.drop s).length → YieldAt Fence.wide (n - 1) Tryd.prog l #[x.v] W fun e W' =>
      (e = .returned (.bool true) ∧ J (pre ++ [x]) W' ∧ (Rd Bi Bt s (.pointer p) es W → Rd Bi Bt s (.pointer p) es W')) ∨ (e = .returned (.bool false) ∧ Jx (pre ++ [x]) W'))
    (hR : Rd Bi Bt s (.pointer p) es W) (hT : TapeV W (.pointer p) es S) (h0 : J [] W) :
    CallsIn Fence.wide n Tryd.prog 92 #[.func (.yield l) #[] #[], .pointer (some ⟨Bi, 0, none⟩), .pointer (some ⟨Bt, 0, none⟩)] W fun e W' => (∃ v, e = .returned v) ∧
      ((∃ ys, ys = es.drop s ∧ J ys W') ∨ (∃ pre, (∃ k, k ≤ (es.drop s).length ∧ pre = (es.drop s).take k) ∧ Jx pre W')) := by
  refine callsIn_of_wp Tryd.func92 rfl trivial ?_ rfl
  simp only [Tryd.ntmps92, List.size_toArray, List.length_cons, List.length_nil, Nat.reduceAdd, Nat.reduceSub, Array.replicate_succ, Array.replicate_zero, List.push_toArray, List.append_toArray, List.nil_append, List.cons_append]
  have hmx : Tryd.prog.follows .mixedOrders = true := by kernel_rfl
  have hlen := fun w' (hw : TapeV w' (.pointer p) es S) => callsIn_wide (n := n - 1).2 (len_any (.pointer p) es S w' hw)
  have r0 := hR.1
  have r1 := hR.2.1
  have HH := Lib.hid hT
  have HR := Lib.hid hR
  obtain ⟨m, hm⟩ : ∃ m, m = (es.drop s).length := ⟨_, rfl⟩
  have hm2 : es.length = s + m := by rw [hm, List.length_drop]; omega
  rw [hm2] at hl
  have HM := Lib.hid hm
  have HL := Lib.hid hm2
  have hlen2 : ∀ w' : World, TapeV w' (.pointer p) es S → CallsIn Fence.wide (n - 1) Tryd.prog 24 #[.pointer p] w' fun r w'' => r = .returned (.int .i64 ((s : Int) + m)) ∧ w' = w'' := by
    intro w' hw
    have := hlen w' hw
    rw [hm2] at this
    simpa using this
  clear hlen hm hm2 hR hT
  gi_wp2
  gi_big_quiet_th_o ((go_loud (refine (hlen2 _ ?_).mono ?_); (exact HH.out); rintro e w' ⟨rfl, rfl⟩; exact ⟨rfl, _, rfl⟩))
  all_goals
    gi_wp2
    gi_loopw [4] (fun i wr => ∃ k : Nat, k ≤ m ∧ i = .int .i64 ((s : Int) + k) ∧ J ((es.drop s).take k) wr ∧ Rd Bi Bt s (.pointer p) es wr) (fun i _ => s + m - (intOf i).toNat)
    case atStart => exact ⟨0, Nat.zero_le _, by simp, hJ _ _ _ h0 ⟨rfl, rfl, rfl, Nat.le_refl _, fun _ _ _ => rfl⟩, HR.out⟩
    case round =>
      obtain ⟨k, hk, rfl, hJs, hRd⟩ := hrel
      have t1 := hRd.2.1
      by_cases hlt : k < m
      · obtain ⟨e, he, htk⟩ := drop_get (es := es) (s := s) (k := k) (by have := HM.out; omega)
        obtain ⟨_, hnil⟩ | ⟨b, es', S', hp, hT', hpre, hl'⟩ := hRd.2.2
        · subst hnil; simp at he
        · obtain rfl : p = some ⟨b, 0, none⟩ := by simpa using hp
          have he' : es'[s + k]? = some e := by
            have hb := (List.getElem?_eq_some_iff.1 he).1
            rw [← he]; exact (List.prefix_iff_getElem?.1 hpre (s + k) hb).trans (List.getElem?_eq_getElem hb).symm
          have hat := callsIn_wide (n := n - 1).2 (at_any b es' S' wr hT' hl' (s + k) e he')
          have HE := Lib.hid htk
          have HRd := Lib.hid hRd
          clear he he' htk hp hRd hT' hpre
          have hcast : ((s + k : Nat) : Int) = (s : Int) + k := by omega
          rw [hcast] at hat
          have hlk : ((es.drop s).take k).length < (es.drop s).length := by have := HM.out; rw [List.length_take]; omega
          have HY := Lib.hid hY
          clear hY
          gi_wp2
          refine hat.mono ?_
          rintro r w1 ⟨rfl, hO1⟩
          have hRd1 := HRd.out.kept hO1.to_grown (fun r h => by cases h)
          obtain ⟨fn, tmps, assign, body, hy, hround⟩ := HY.out _ e w1 (hJ _ _ _ hJs hO1.to_grown) hlk
          have HRd1 := Lib.hid hRd1
          rw [← HE.out] at hround
          clear hat HY hRd1 HRd hO1 t1 r0 r1 hlen2 hlk
          gi_wp2
          refine hround.mono ?_
          rintro r W3 (⟨rfl, hJ3, hk3⟩ | ⟨rfl, hJx3⟩)
          · have hRd3 := hk3 HRd1.out
            clear hk3 hround hy
            gi_wp2
            go_roundw
            case rel => exact ⟨k + 1, by omega, by go_num, hJ3, hRd3⟩
            case measure => simp [intOf]; omega
          · clear hround hy
            gi_wp2
            refine bodyPost_ret (results_none rfl _ _ _) rfl ?_
            exact ⟨⟨_, rfl⟩, .inr ⟨_, ⟨k + 1, by have := HM.out; omega, rfl⟩, hJx3⟩⟩
      · obtain rfl : k = m := by omega
        clear hY
        gi_wp2
        go_end0
        have := HM.out
        subst this
        rw [List.take_length] at hJs
        exact ⟨⟨_, rfl⟩, .inl ⟨_, rfl, hJs⟩⟩

set_option maxHeartbeats 400000 in
theorem after_any (p : Option Addr) (s : Int) (w : World) :
    Calls Tryd.prog 78 #[.pointer p, .int .i64 s] w fun e w' => e = .returned (.func (.func 92) #[] #[.pointer (some ⟨w.heap.size + 1, 0, none⟩), .pointer (some ⟨w.heap.size, 0, none⟩)]) ∧
      w' = (w.alloc (.cells #[.pointer p] 56)).alloc (.cells #[.int .i64 s] 3) := by
  go_enter Tryd.func78, Tryd.ntmps78
  go_wp2
  go_ret
  exact ⟨rfl, rfl⟩

theorem below_grown {w W : World} (h : Below w.heap.size w W) : w.grownBy W none := ⟨h.os, h.tape, h.output, h.size, fun k hk _ => h.block k hk⟩
theorem TapeV.grown {w w' : World} {v : Value} {es : List Ev} {S : Nat → Prop} (h : TapeV w v es S) (hg : w.grownBy w' none) : TapeV w' v es S :=
  h.off (S' := fun _ => False) (Off.of_grown hg) (fun _ _ _ c => c)
theorem TapeV.kept {w w' : World} {row : Option Nat} {v : Value} {es : List Ev} {S : Nat → Prop} (h : TapeV w v es S) (hg : w.grownBy w' row) (hr : ∀ r, row = some r → ∃ o : Obj, w.heap[r]? = some o ∧ o.isCells = false) : TapeV w' v es S := by
  rcases h with h | ⟨b, hv, ht⟩
  · exact .inl h
  · exact .inr ⟨b, hv, TapeG.kept ht hg hr⟩

/-- The loop's source: the tape, and the iterator's two boxes. -/
def Src (Bi Bt s : Nat) (p : Option Addr) (es : List Ev) (S : Nat → Prop) (W : World) : Prop :=
  TapeV W (.pointer p) es S ∧ Boxed W Bi 3 (.int .i64 (s : Int)) ∧ Boxed W Bt 56 (.pointer p)
theorem Src.rd {Bi Bt s : Nat} {p : Option Addr} {es : List Ev} {S : Nat → Prop} {W : World} (h : Src Bi Bt s p es S W) (hl : es.length ≤ 100000) : Rd Bi Bt s (.pointer p) es W :=
  ⟨h.2.1.cell, h.2.2.cell, h.1.reads hl⟩
theorem Src.off {Bi Bt s : Nat} {p : Option Addr} {es : List Ev} {S S' : Nat → Prop} {W W' : World} (h : Src Bi Bt s p es S W) (ho : Off S' W W') (hd : ∀ k, k < W.heap.size → S k → ¬ S' k) (hi : ¬ S' Bi) (ht : ¬ S' Bt) : Src Bi Bt s p es S W' :=
  ⟨h.1.off ho hd, ho.heap h.2.1 hi, ho.heap h.2.2 ht⟩
theorem Boxed.kept_own {W W' : World} {row : Option Nat} {B : Nat} {t : TypeId} {v : Value} (h : Boxed W B t v) (hg : W.grownBy W' row) (hr : ∀ r, row = some r → ∃ o : Obj, W.heap[r]? = some o ∧ o.isCells = false) : Boxed W' B t v :=
  (grownBy_keeps_cells hg hr h rfl).trans h
theorem Src.kept {Bi Bt s : Nat} {p : Option Addr} {es : List Ev} {S : Nat → Prop} {W W' : World} {row : Option Nat} (h : Src Bi Bt s p es S W) (hg : W.grownBy W' row) (hr : ∀ r, row = some r → ∃ o : Obj, W.heap[r]? = some o ∧ o.isCells = false) : Src Bi Bt s p es S W' :=
  ⟨h.1.kept hg hr, Boxed.kept_own h.2.1 hg hr, Boxed.kept_own h.2.2 hg hr⟩
/-- 'What lay outside S lies as it lay' abides the turn of a later block. -/
theorem Off.later {S : Nat → Prop} {w W W' : World} {row : Option Nat} (h : Off S w W) (hg : W.grownBy W' row) (hr : ∀ r, row = some r → w.heap.size ≤ r) : Off S w W' :=
  ⟨hg.os.trans h.os, hg.tape.trans h.tape, hg.output.trans h.output, Nat.le_trans h.size hg.size,
    fun k hk hn => (hg.block k (Nat.lt_of_lt_of_le hk h.size) (fun e => by have := hr k e.symm; omega)).trans (h.block k hk hn),
    fun k o hk ho => by
      have h1 := h.others k o hk ho
      exact (hg.block k (heap_lt h1) (fun e => by have := hr k e.symm; have := heap_lt hk; omega)).trans h1⟩

/-- The iterator as a loop takes it. -/
theorem after_stops (n : Nat) (hn : 1 ≤ n) (Bi Bt s : Nat) (p : Option Addr) (es : List Ev) (hs : s ≤ es.length) (hl : es.length ≤ 100000) (S : Nat → Prop) (w : World)
    (hi : w.cell? ⟨Bi, 0, none⟩ = some (.int .i64 (s : Int))) (ht : w.cell? ⟨Bt, 0, none⟩ = some (.pointer p)) (hT : TapeV w (.pointer p) es S) :
    SeqStopsK Fence.wide n Tryd.prog 92 #[.pointer (some ⟨Bi, 0, none⟩), .pointer (some ⟨Bt, 0, none⟩)] (fun x : Ev => #[x.v]) (fun A B => Rd Bi Bt s (.pointer p) es A → Rd Bi Bt s (.pointer p) es B)
      (fun ys => ys = es.drop s) (fun pre => ∃ k, k ≤ (es.drop s).length ∧ pre = (es.drop s).take k) (es.drop s).length w := fun l J Jx W hW hJ _ hY h0 => by
  have hT' := hT.grown (below_grown hW)
  have hg := below_grown hW
  exact after1_in n hn l Bi Bt s p es hs hl S J Jx W (fun x A B hx hg => hJ x A B none hx hg (fun r e => by cases e)) (fun pre x W1 hj hlen => hY pre x W1 hj hlen)
    ⟨hg.cell hi (by simp), hg.cell ht (by simp), hT'.reads hl⟩ hT' h0
end
end Go.Proofs.YtclehgconbdkpaaDoor
