/-
  How tapes and lists of events lie in memory, and what each of a tape's steps leaves as it was. Plain facts on worlds; no condition.
-/
import Derived.Test.YtnegdlmpmmehmaaDoorRows
import Derived.Test.YtnegdlmpmmehmaaDoorOff
import Derived.WalkKit
import Derived.WalkSpells
import Derived.WalkLawsBesides
import Derived.Below
import Derived.Lib.Walk
import Derived.OpenShut
import Derived.BigRegion
import Derived.RangeFuncNested
import Derived.RangeFuncFrom
import Derived.RangeFuncLeaves
import Derived.Deep.Draws
namespace Go.Proofs.YtnegdlmpmmehmaaDoor
open Go.RowKit

/-- An event: its kind and its two operands. -/
abbrev Ev : Type := Int × Int × Int
def Ev.v (e : Ev) : Value := .agg #[.int .i64 e.1, .int .i64 e.2.1, .int .i64 e.2.2]

/-- The event e lies in block b from cell o on. -/
def evAt (w : World) (b o : Nat) (e : Ev) : Prop :=
  w.cell? ⟨b, o, none⟩ = some (.int .i64 e.1) ∧ w.cell? ⟨b, o + 1, none⟩ = some (.int .i64 e.2.1) ∧ w.cell? ⟨b, o + 2, none⟩ = some (.int .i64 e.2.2)

theorem Off.ev {S : Nat → Prop} {w w' : World} (h : Off S w w') {b o : Nat} {e : Ev} (he : evAt w b o e) (hs : ¬ S b) : evAt w' b o e :=
  ⟨h.cell he.1 hs, h.cell he.2.1 hs, h.cell he.2.2 hs⟩

theorem ev_block {w w' : World} {b o : Nat} {e : Ev} (h : w'.heap[b]? = w.heap[b]?) (he : evAt w b o e) : evAt w' b o e :=
  ⟨(World.cell?_of_block (a := ⟨b, o, none⟩) h).trans he.1, (World.cell?_of_block (a := ⟨b, o + 1, none⟩) h).trans he.2.1, (World.cell?_of_block (a := ⟨b, o + 2, none⟩) h).trans he.2.2⟩

def ptr (b : Nat) : Value := .pointer (some ⟨b, 0, none⟩)

/-- The tape in block b holds the events es in nb blocks; all of it lies within S. -/
def TapeG (w : World) (b : Nat) (es : List Ev) (S : Nat → Prop) (nb : Nat) : Prop :=
  ∃ (sv : Value) (ebs : List Nat),
    w.heap[b]? = some (.cells #[sv, .int .i64 (es.length : Int)] 74 (0, 0)) ∧ S b ∧
    w.ownsRow 0 81 1 sv nb (ebs.map ptr) ∧ (∀ k, sv.ownBlock = some k → S k) ∧
    ebs.length = nb ∧ ebs.Nodup ∧
    (∀ eb, eb ∈ ebs → S eb ∧ ∃ c, w.heap[eb]? = some (.cells c 83 (0, 0)) ∧ c.size = 192) ∧
    (∀ i e, es[i]? = some e → ∃ eb, ebs[i / 64]? = some eb ∧ evAt w eb (i % 64 * 3) e)

/-- The number of blocks of a tape with n events. -/
def need (n : Nat) : Nat := (n + 63) / 64
def TapeAt (w : World) (b : Nat) (es : List Ev) (S : Nat → Prop) : Prop := TapeG w b es S (need es.length)

theorem ownBlock_row {w : World} {n : Nat} {T : TypeId} {v : Value} {xs : List Value} {k : Nat} (h : w.ownsRow 0 T 1 v n xs) (hk : v.ownBlock = some k) : ∃ cur, w.heap[k]? = some (.cells cur T (0, 0)) := by
  rcases h.2 with ⟨rfl, _⟩ | ⟨g, cap, cur, rfl, _, hg, _⟩
  · simp [Value.ownBlock] at hk
  · simp [Value.ownBlock] at hk; subst hk; exact ⟨cur, hg⟩

theorem TapeG.off {w w' : World} {b : Nat} {es : List Ev} {S S' : Nat → Prop} {nb : Nat} (h : TapeG w b es S nb) (ho : Off S' w w') (hd : ∀ k, k < w.heap.size → S k → ¬ S' k) : TapeG w' b es S nb := by
  obtain ⟨sv, ebs, h1, h2, h3, h4, h5, h6, h7, h8⟩ := h
  refine ⟨sv, ebs, ho.heap h1 (hd _ (heap_lt h1) h2), h2, ?_, h4, h5, h6, ?_, ?_⟩
  · refine ⟨h3.1, ?_⟩
    rcases h3.2 with hn | ⟨g, cap, cur, rfl, hb, hg, r⟩
    · exact .inl hn
    · exact .inr ⟨g, cap, cur, rfl, hb, ho.heap hg (hd _ (heap_lt hg) (h4 g (by simp [Value.ownBlock]))), r⟩
  · intro eb he
    obtain ⟨hs, c, hc, hz⟩ := h7 eb he
    exact ⟨hs, c, ho.heap hc (hd _ (heap_lt hc) hs), hz⟩
  · intro i e hi
    obtain ⟨eb, he, hv⟩ := h8 i e hi
    obtain ⟨hs, c, hc, _⟩ := h7 eb (List.mem_of_getElem? he)
    exact ⟨eb, he, ho.ev hv (hd _ (heap_lt hc) hs)⟩
theorem TapeG.mono {w : World} {b : Nat} {es : List Ev} {S S' : Nat → Prop} {nb : Nat} (h : TapeG w b es S nb) (hs : ∀ k, k < w.heap.size → S k → S' k) : TapeG w b es S' nb := by
  obtain ⟨sv, ebs, h1, h2, h3, h4, h5, h6, h7, h8⟩ := h
  refine ⟨sv, ebs, h1, hs _ (heap_lt h1) h2, h3, fun k hk => ?_, h5, h6, fun eb he => ?_, h8⟩
  · obtain ⟨cur, hc⟩ := ownBlock_row h3 hk
    exact hs _ (heap_lt hc) (h4 k hk)
  · obtain ⟨h, c, hc, hz⟩ := h7 eb he
    exact ⟨hs _ (heap_lt hc) h, c, hc, hz⟩
theorem TapeG.grown {w w' : World} {b : Nat} {es : List Ev} {S : Nat → Prop} {nb : Nat} (h : TapeG w b es S nb) (hg : w.grownBy w' none) : TapeG w' b es S nb :=
  h.off (S' := fun _ => False) (Off.of_grown hg) (fun _ _ _ c => c)
theorem TapeG.drew {w : World} {b : Nat} {es : List Ev} {S : Nat → Prop} {nb : Nat} (h : TapeG w b es S nb) : TapeG w.drew b es S nb := h
theorem TapeG.bh {w : World} {b : Nat} {es : List Ev} {S : Nat → Prop} {nb : Nat} (h : TapeG w b es S nb) : ∃ sv, w.cell? ⟨b, 0, none⟩ = some sv ∧ w.cell? ⟨b, 1, none⟩ = some (.int .i64 (es.length : Int)) ∧ b < w.heap.size ∧ S b := by
  obtain ⟨sv, ebs, h1, h2, _⟩ := h
  exact ⟨sv, by simp [World.cell?, h1], by simp [World.cell?, h1], heap_lt h1, h2⟩


/-- Four stores as Note makes them: an event at eb, off; then the count. -/
def noted (w : World) (b eb off : Nat) (e : Ev) (n : Int) : World :=
  ((((w.setCell ⟨eb, off, none⟩ (.int .i64 e.1)).setCell ⟨eb, off + 1, none⟩ (.int .i64 e.2.1)).setCell ⟨eb, off + 2, none⟩ (.int .i64 e.2.2)).setCell ⟨b, 1, none⟩ (.int .i64 n)).drew

theorem noted_heap (w : World) (b eb off : Nat) (e : Ev) (n : Int) (k : Nat) (h1 : k ≠ b) (h2 : k ≠ eb) : (noted w b eb off e n).heap[k]? = w.heap[k]? := by
  show ((((w.setCell _ _).setCell _ _).setCell _ _).setCell _ _).heap[k]? = _
  rw [Below.heap_setCell _ _ _ _ h1, Below.heap_setCell _ _ _ _ h2, Below.heap_setCell _ _ _ _ h2, Below.heap_setCell _ _ _ _ h2]
theorem noted_b {w : World} {b eb off : Nat} {e : Ev} {n : Int} {sv u : Value} {T : TypeId} (h : w.heap[b]? = some (.cells #[sv, u] T (0, 0))) (hne : b ≠ eb) :
    (noted w b eb off e n).heap[b]? = some (.cells #[sv, .int .i64 n] T (0, 0)) := by
  have h' : (((w.setCell ⟨eb, off, none⟩ (.int .i64 e.1)).setCell ⟨eb, off + 1, none⟩ (.int .i64 e.2.1)).setCell ⟨eb, off + 2, none⟩ (.int .i64 e.2.2)).heap[b]? = some (.cells #[sv, u] T (0, 0)) := by
    rw [Below.heap_setCell _ _ _ _ hne, Below.heap_setCell _ _ _ _ hne, Below.heap_setCell _ _ _ _ hne, h]
  have := heap_set h' 1 (.int .i64 n)
  show ((((w.setCell _ _).setCell _ _).setCell _ _).setCell _ _).heap[b]? = _
  simpa using this
theorem noted_eb {w : World} {b eb off : Nat} {e : Ev} {n : Int} {c : Array Value} {T : TypeId} (h : w.heap[eb]? = some (.cells c T (0, 0))) (hne : b ≠ eb) :
    (noted w b eb off e n).heap[eb]? = some (.cells (((c.setIfInBounds off (.int .i64 e.1)).setIfInBounds (off + 1) (.int .i64 e.2.1)).setIfInBounds (off + 2) (.int .i64 e.2.2)) T (0, 0)) := by
  have := heap_set (heap_set (heap_set h off (.int .i64 e.1)) (off + 1) (.int .i64 e.2.1)) (off + 2) (.int .i64 e.2.2)
  show ((((w.setCell _ _).setCell _ _).setCell _ _).setCell _ _).heap[eb]? = _
  rw [Below.heap_setCell _ _ _ _ (Ne.symm hne)]
  exact this
theorem noted_off {w : World} {S : Nat → Prop} {b eb off : Nat} {e : Ev} {n : Int} (h1 : S b) (h2 : S eb) : Off S w (noted w b eb off e n) :=
  (((((Off.refl S w).setCell (p := ⟨eb, off, none⟩) (fun _ => h2) _).setCell (p := ⟨eb, off + 1, none⟩) (fun _ => h2) _).setCell (p := ⟨eb, off + 2, none⟩) (fun _ => h2) _).setCell (p := ⟨b, 1, none⟩) (fun _ => h1) _).drew

theorem ev_other {w w' : World} {x off o : Nat} {e v : Ev} {c : Array Value} {T : TypeId} (hc : w.heap[x]? = some (.cells c T (0, 0)))
    (hN : w'.heap[x]? = some (.cells (((c.setIfInBounds off (.int .i64 e.1)).setIfInBounds (off + 1) (.int .i64 e.2.1)).setIfInBounds (off + 2) (.int .i64 e.2.2)) T (0, 0)))
    (hd : o + 2 < off ∨ off + 2 < o) (hv : evAt w x o v) : evAt w' x o v := by
  obtain ⟨a1, a2, a3⟩ := hv
  have s : ∀ j, j ≠ off → j ≠ off + 1 → j ≠ off + 2 → w'.cell? ⟨x, j, none⟩ = w.cell? ⟨x, j, none⟩ := by
    intro j h1 h2 h3
    refine (cell_of_heap hN j).trans (Eq.trans ?_ (cell_of_heap hc j).symm)
    rw [Array.getElem?_setIfInBounds_ne (Ne.symm h3), Array.getElem?_setIfInBounds_ne (Ne.symm h2), Array.getElem?_setIfInBounds_ne (Ne.symm h1)]
  exact ⟨(s _ (by omega) (by omega) (by omega)).trans a1, (s _ (by omega) (by omega) (by omega)).trans a2, (s _ (by omega) (by omega) (by omega)).trans a3⟩
theorem ev_self {w' : World} {x off : Nat} {e : Ev} {c : Array Value} {T : TypeId} (hz : c.size = 192)
    (hN : w'.heap[x]? = some (.cells (((c.setIfInBounds off (.int .i64 e.1)).setIfInBounds (off + 1) (.int .i64 e.2.1)).setIfInBounds (off + 2) (.int .i64 e.2.2)) T (0, 0)))
    (hd : off + 2 < 192) : evAt w' x off e := by
  refine ⟨(cell_of_heap hN _).trans ?_, (cell_of_heap hN _).trans ?_, (cell_of_heap hN _).trans ?_⟩
  · rw [Array.getElem?_setIfInBounds_ne (by omega), Array.getElem?_setIfInBounds_ne (by omega), Array.getElem?_setIfInBounds_self_of_lt (by omega)]
  · rw [Array.getElem?_setIfInBounds_ne (by omega), Array.getElem?_setIfInBounds_self_of_lt (by simp; omega)]
  · rw [Array.getElem?_setIfInBounds_self_of_lt (by simp; omega)]

/-- A tape that has room: what Note meets, and what it leaves. -/
theorem TapeG.room {w : World} {b : Nat} {es : List Ev} {S : Nat → Prop} (h : TapeG w b es S (es.length / 64 + 1)) :
    ∃ (g cap eb : Nat) (c : Array Value),
      w.heap[b]? = some (.cells #[.slice (some ⟨g, 0, none⟩) (es.length / 64 + 1) cap, .int .i64 (es.length : Int)] 74 (0, 0)) ∧
      w.cell? ⟨g, es.length / 64, none⟩ = some (.pointer (some ⟨eb, 0, none⟩)) ∧ w.heap[eb]? = some (.cells c 83 (0, 0)) ∧ c.size = 192 ∧ b ≠ eb ∧
      ∀ (e : Ev) (n : Int), n = (es.length : Int) + 1 → TapeAt (noted w b eb (es.length % 64 * 3) e n) b (es ++ [e]) S ∧ Off S w (noted w b eb (es.length % 64 * 3) e n) := by
  obtain ⟨sv, ebs, h1, h2, h3, h4, h5, h6, h7, h8⟩ := h
  have h3' := h3
  obtain ⟨hl, ⟨rfl, h0⟩ | ⟨g, cap, cur, rfl, _, hg, hn, hm, hs, ht⟩⟩ := h3
  · omega
  obtain ⟨eb, heb⟩ : ∃ eb, ebs[es.length / 64]? = some eb := ⟨ebs[es.length / 64]'(by omega), List.getElem?_eq_getElem _⟩
  obtain ⟨hSe, c, hc, hz⟩ := h7 eb (List.mem_of_getElem? heb)
  have hbe : b ≠ eb := fun e => by subst e; rw [h1] at hc; simp at hc
  have hge : g ≠ eb := fun e => by subst e; rw [hg] at hc; simp at hc
  have hgb : g ≠ b := fun e => by subst e; rw [hg] at h1; simp at h1
  refine ⟨g, cap, eb, c, h1, ?_, hc, hz, hbe, fun e n hn' => ⟨?_, noted_off h2 hSe⟩⟩
  · have hx : (ebs.map ptr)[es.length / 64]? = some (ptr eb) := by rw [List.getElem?_map, heb]; rfl
    have := h3'.cells (g := g) (by simp [Value.ownBlock]) _ _ hx
    rw [Addr.add_lit] at this
    simpa [ptr] using this
  · subst hn'
    have hw : need (es ++ [e]).length = es.length / 64 + 1 := by unfold need; simp; omega
    unfold TapeAt
    rw [hw]
    refine ⟨_, ebs, by simpa using noted_b (n := (es.length : Int) + 1) h1 hbe, h2, ⟨hl, .inr ⟨g, cap, cur, rfl, Nat.zero_le _, ?_, hn, hm, hs, ht⟩⟩, h4, h5, h6, ?_, ?_⟩
    · rw [noted_heap _ _ _ _ _ _ _ hgb hge]; exact hg
    · intro x hx
      obtain ⟨hS, d, hd, hdz⟩ := h7 x hx
      refine ⟨hS, ?_⟩
      by_cases hxe : x = eb
      · subst hxe
        exact ⟨_, noted_eb hc hbe, by simp [hz]⟩
      · have hxb : x ≠ b := fun e => by subst e; rw [h1] at hd; simp at hd
        exact ⟨d, by rw [noted_heap _ _ _ _ _ _ _ hxb hxe]; exact hd, hdz⟩
    · intro i v hi
      by_cases hlt : i < es.length
      · rw [List.getElem?_append_left hlt] at hi
        obtain ⟨x, hx, hv⟩ := h8 i v hi
        refine ⟨x, hx, ?_⟩
        by_cases hxe : x = eb
        · subst hxe
          have hii : i / 64 = es.length / 64 := by
            have l1 := (List.getElem?_eq_some_iff.1 hx).1
            have l2 := (List.getElem?_eq_some_iff.1 heb).1
            exact (List.getElem_inj h6).1 ((List.getElem?_eq_some_iff.1 hx).2.trans (List.getElem?_eq_some_iff.1 heb).2.symm)
          have hne : i % 64 ≠ es.length % 64 := by omega
          exact ev_other hc (noted_eb (off := es.length % 64 * 3) (e := e) (n := (es.length : Int) + 1) hc hbe) (by omega) hv
        · obtain ⟨_, d, hd, _⟩ := h7 x (List.mem_of_getElem? hx)
          have hxb : x ≠ b := fun e => by subst e; rw [h1] at hd; simp at hd
          have hk := noted_heap w b eb (es.length % 64 * 3) e ((es.length : Int) + 1) x hxb hxe
          exact ev_block hk hv
      · have : i = es.length := by
          have := (List.getElem?_eq_some_iff.1 hi).1
          simp at this; omega
        subst this
        simp at hi
        subst hi
        refine ⟨eb, heb, ?_⟩
        exact ev_self hz (noted_eb (off := es.length % 64 * 3) (e := e) (n := (es.length : Int) + 1) hc hbe) (by omega)



/-- An append that lays the new row in the old one's block or in a new one. -/
theorem run_append_mine {P : Program} (w : World) (t ty e : TypeId) (i : TypeInfo) (z : Value) (bytes : Nat) (ht : P.underlying t = some (.slice e)) (hi : P.info? e = some i) (hz : i.zero = some z)
    (hsize : i.size = 1) (hby : i.bytes = bytes) (hzs : z.cells.size = 1) (v : Value) (n : Nat) (xs : List Value) (hown : w.ownsRow 0 e 1 v n xs)
    (a : Addr) (c : Nat) (new : Value) (hnew : w.cell? a = some new) (h1 : new.oneCell' = true) (hn : n + 1 ≤ 1000000) (hb : bytes ≤ 1000) :
    ∃ v' w', (Builtin.append_ #[t, t] ty #[v, .slice (some a) 1 c]).run P w = .ok v' w' ∧ w'.ownsRow 0 e 1 v' (n + 1) (xs ++ [new]) ∧ w.grownBy w' v.ownBlock ∧
      (v'.ownBlock = v.ownBlock ∨ v'.ownBlock = some w.heap.size) := by
  have hbb : (n + 1) * bytes ≤ 140737488355328 := Nat.le_trans (Nat.mul_le_mul hn hb) (by decide)
  have hm : n + 1 ≤ maxLen := by unfold maxLen; omega
  have hnews : ∀ j u, [new][j]? = some u → w.cell? (a.add j) = some u := by
    intro j u hj
    cases j with
    | zero => simp at hj; subst hj; simpa [Addr.add] using hnew
    | succ j => simp at hj
  have h1' : ∀ u ∈ [new], u.oneCell' = true := by simpa using h1
  obtain ⟨v', w', hr, ho, hg, _⟩ := run_append_own (P := P) w 0 t ty e i z 1 bytes ht hi hz hsize hby hzs (by decide) v n xs hown a 1 c [new] (by simp) hnews h1' hm hbb (Nat.zero_le _)
  refine ⟨v', w', hr, ho, hg, ?_⟩
  rcases hown.2 with ⟨rfl, rfl⟩ | ⟨g, cap, cur, rfl, _, hgc, hnc, hcm, hcs, htake⟩
  · have hr2 := run_append_nil (P := P) w t ty e i z ht hi hz a 1 c [new] (by simp [hsize]) hnews (by omega) (by omega) (by rw [hby]; omega)
    rw [hr] at hr2
    obtain ⟨rfl, _⟩ := by simpa using hr2
    exact .inr rfl
  · by_cases hroom : n + 1 ≤ cap
    · have hr2 := run_append_room (P := P) w t ty e i ht hi g n cap cur hgc a 1 c [new] (by simp [hsize]) hnews h1' hroom (by rw [hsize, hcs]; simp; omega)
      rw [hr] at hr2
      obtain ⟨rfl, _⟩ := by simpa using hr2
      exact .inl rfl
    · have holds : ∀ j u, xs[j]? = some u → w.cell? ((⟨g, 0, none⟩ : Addr).add j) = some u := hown.cells (g := g) rfl
      have hr2 := run_append_grow (P := P) w t ty e i z ht hi hz ⟨g, 0, none⟩ n cap xs (by rw [hown.1, hsize]) holds a 1 c [new] (by simp [hsize]) hnews (by omega) (by omega) (by rw [hby]; exact growslice_fits (by omega) hbb)
      rw [hr] at hr2
      obtain ⟨rfl, _⟩ := by simpa using hr2
      exact .inr rfl

theorem wpList_append_mine {P : Program} (w : World) {ops : Array Oper} {rest : List Oper} {o : Oper} {a : Act} {Q : Exit → Act → World → Prop} (hgd : o.guard = none) (s x : Operand) (t : TypeId)
    (ho : o.op = .call { callee := .builtin .append, args := #[s, x], argTypes := #[t, t] })
    (e : TypeId) (i : TypeInfo) (z : Value) (bytes : Nat) (ht : P.underlying t = some (.slice e)) (hi : P.info? e = some i) (hz : i.zero = some z)
    (hsize : i.size = 1) (hby : i.bytes = bytes) (hzs : z.cells.size = 1) (v : Value) (n : Nat) (xs : List Value) (hs : a.eval s = v) (hown : w.ownsRow 0 e 1 v n xs)
    (ad : Addr) (c : Nat) (new : Value) (hx : a.eval x = .slice (some ad) 1 c) (hnew : w.cell? ad = some new) (h1 : new.oneCell' = true) (hn : n + 1 ≤ 1000000) (hb : bytes ≤ 1000)
    (h : ∀ v' w', w'.ownsRow 0 e 1 v' (n + 1) (xs ++ [new]) → w.grownBy w' v.ownBlock → (v'.ownBlock = v.ownBlock ∨ v'.ownBlock = some w.heap.size) → wpList P ops Q rest (a.put o.dst v') w') : wpList P ops Q (o :: rest) a w :=
  wpList_plain hgd fun K hK => by
    obtain ⟨v', w', hr, h2, h3, h4⟩ := run_append_mine (P := P) w t o.type e i z bytes ht hi hz hsize hby hzs v n xs hown ad c new hnew h1 hn hb
    unfold Oper.wp execOp
    simp only [ho, resolve, invoke, builtin, Sem.run_bind, Sem.run_pure, Result.andThen_ok, List.map_toArray, List.map_cons, List.map_nil, hs, hx, hr]
    exact hK _ _ (h v' w' h2 h3 h4)

/-- A tape whose blocks are full: what Note's append and the store of the new slice leave. -/
theorem more_step {w w1 : World} {b nb : Nat} {es : List Ev} {S : Nat → Prop} {sv v' : Value} {ebs : List Nat} {Z : Array Value} {o : Obj} (hZ : Z.size = 192)
    (h1 : w.heap[b]? = some (.cells #[sv, .int .i64 (es.length : Int)] 74 (0, 0))) (h2 : S b)
    (h3 : w.ownsRow 0 81 1 sv nb (ebs.map ptr)) (h4 : ∀ k, sv.ownBlock = some k → S k) (h5 : ebs.length = nb) (h6 : ebs.Nodup)
    (h7 : ∀ eb, eb ∈ ebs → S eb ∧ ∃ c, w.heap[eb]? = some (.cells c 83 (0, 0)) ∧ c.size = 192)
    (h8 : ∀ i e, es[i]? = some e → ∃ eb, ebs[i / 64]? = some eb ∧ evAt w eb (i % 64 * 3) e)
    (hown : w1.ownsRow 0 81 1 v' (nb + 1) (ebs.map ptr ++ [ptr w.heap.size]))
    (hg : ((w.alloc (.cells Z 83)).alloc o).grownBy w1 sv.ownBlock)
    (hv : v'.ownBlock = sv.ownBlock ∨ v'.ownBlock = some ((w.alloc (.cells Z 83)).alloc o).heap.size) :
    w1.heap[b]? = some (.cells #[sv, .int .i64 (es.length : Int)] 74 (0, 0)) ∧ (∃ g cap, v' = .slice (some ⟨g, 0, none⟩) (nb + 1) cap ∧ g ≠ b) ∧
    TapeG (w1.setCell ⟨b, 0, none⟩ v') b es (fun k => S k ∨ w.heap.size ≤ k) (nb + 1) ∧ Off S w (w1.setCell ⟨b, 0, none⟩ v') := by
  obtain ⟨wA, hA⟩ : ∃ wA, wA = (w.alloc (.cells Z 83)).alloc o := ⟨_, rfl⟩
  rw [← hA] at hg hv
  have hwA : Off (fun _ => False) w wA := by rw [hA]; exact ((Off.refl (fun _ => False) w).alloc _).alloc _
  have hrow : ∀ k, sv.ownBlock = some k → ∃ cur, w.heap[k]? = some (.cells cur 81 (0, 0)) := fun k hk => ownBlock_row h3 hk
  have keepA : ∀ (k : Nat) (c : Array Value) (T : TypeId), wA.heap[k]? = some (.cells c T (0, 0)) → T ≠ 81 → w1.heap[k]? = some (.cells c T (0, 0)) := by
    intro k c T hk hT
    refine (hg.block k (heap_lt hk) (fun e => ?_)).trans hk
    obtain ⟨cur, hc⟩ := hrow k e.symm
    have := hwA.heap hc (fun c => c)
    rw [hk] at this; simp at this; exact hT this.2
  have keep : ∀ (k : Nat) (c : Array Value) (T : TypeId), w.heap[k]? = some (.cells c T (0, 0)) → T ≠ 81 → w1.heap[k]? = some (.cells c T (0, 0)) := fun k c T hk hT => keepA k c T (hwA.heap hk (fun c => c)) hT
  have hb := keep _ _ _ h1 (by decide)
  have hEA : wA.heap[w.heap.size]? = some (.cells Z 83 (0, 0)) := by
    rw [hA]; exact (Below.heap_alloc _ _ _ (by simp)).trans (World.alloc_heap_new w _)
  have hE := keepA _ _ _ hEA (by decide)
  have hbw : b ≠ w.heap.size := Nat.ne_of_lt (heap_lt h1)
  have hown' := hown
  obtain ⟨hl', ⟨rfl, h0⟩ | ⟨g, cap, cur, rfl, hgb0, hgc, hn, hm, hs, ht⟩⟩ := hown
  · omega
  have hgb : g ≠ b := fun e => by subst e; rw [hgc] at hb; simp at hb
  have hgS : S g ∨ w.heap.size ≤ g := by
    rcases hv with hv | hv
    · exact .inl (h4 g (by rw [← hv]; rfl))
    · have : g = wA.heap.size := by simpa [Value.ownBlock] using hv
      exact .inr (by rw [this]; exact hwA.size)
  have hoff1 : Off S w w1 := (hwA.mono (fun _ _ c => c.elim)).grown hg (fun k hk => ⟨fun _ => h4 k hk, fun o' ho' => by
    obtain ⟨cur', hc'⟩ := hrow k hk
    have := hwA.heap hc' (fun c => c)
    rw [this] at ho'; cases ho'; rfl⟩)
  refine ⟨hb, ⟨g, cap, rfl, hgb⟩, ?_, hoff1.setCell (fun _ => h2) _⟩
  have same : ∀ k, k ≠ b → (w1.setCell ⟨b, 0, none⟩ (.slice (some ⟨g, 0, none⟩) (nb + 1) cap)).heap[k]? = w1.heap[k]? := fun k hk => Below.heap_setCell _ _ _ _ hk
  refine ⟨.slice (some ⟨g, 0, none⟩) (nb + 1) cap, ebs ++ [w.heap.size], ?_, .inl h2, ?_, ?_, by simp [h5], ?_, ?_, ?_⟩
  · simpa using heap_set hb 0 (.slice (some ⟨g, 0, none⟩) (nb + 1) cap)
  · refine ⟨by simpa using hown'.1, .inr ⟨g, cap, cur, rfl, Nat.zero_le _, by rw [same g hgb]; exact hgc, hn, hm, hs, by simpa using ht⟩⟩
  · intro k hk
    have : k = g := by simpa [Value.ownBlock] using hk.symm
    subst this; exact hgS
  · rw [List.nodup_append]
    refine ⟨h6, by simp, fun x hx y hy e => ?_⟩
    obtain ⟨_, c, hc, _⟩ := h7 x hx
    have := heap_lt hc
    simp at hy; omega
  · intro eb he
    rcases List.mem_append.1 he with he | he
    · obtain ⟨hS, c, hc, hz⟩ := h7 eb he
      have hne : eb ≠ b := fun e => by subst e; rw [h1] at hc; simp at hc
      exact ⟨.inl hS, c, by rw [same eb hne]; exact keep _ _ _ hc (by decide), hz⟩
    · have : eb = w.heap.size := by simpa using he
      subst this
      exact ⟨.inr (Nat.le_refl _), Z, by rw [same _ (Ne.symm hbw)]; exact hE, hZ⟩
  · intro i e hi
    obtain ⟨eb, he, hv⟩ := h8 i e hi
    obtain ⟨_, c, hc, _⟩ := h7 eb (List.mem_of_getElem? he)
    have hne : eb ≠ b := fun e => by subst e; rw [h1] at hc; simp at hc
    have hk := (same eb hne).trans ((keep _ _ _ hc (by decide)).trans hc.symm)
    exact ⟨eb, by rw [List.getElem?_append_left (List.getElem?_eq_some_iff.1 he).1]; exact he, ev_block hk hv⟩
end Go.Proofs.YtnegdlmpmmehmaaDoor
