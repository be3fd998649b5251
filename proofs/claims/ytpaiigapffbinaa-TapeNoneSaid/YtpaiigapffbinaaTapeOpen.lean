/-
  A list of events that came in as an argument, as the contracts of layer 2 take it: whatever slice of events the reader reads, its cells lie as EvsAt says. No condition.
-/
import Derived.Test.YtpaiigapffbinaaTapeAlive
import Derived.Deep.Slices
import Derived.Deep.Strs
import Derived.ProofKit
namespace Go.Proofs.Ytpaiigapffbinaa
open Go.RowKit Go.ChangeShapes Go.WideShapes Go.Deep

theorem ev_cells : Try.prog.cellsOf 28 = 3 := by kernel_rfl
theorem int_cells : Try.prog.cellsOf 3 = 1 := by kernel_rfl

theorem evs_of_trod {H : Type} {enc : TypeId × Value → H} {w : World} {spare : Nat → Bool} {held : Bool} {a : Option Addr} {len cap fuel : Nat} {x : DataW H × List MemPlace}
    (h : DataW.trod enc Try.prog w 0 spare held fuel 22 [.slice a len cap] = some x) : ∃ es, len = es.length ∧ EvsAt w (.slice a len cap) es (fun k => k < w.heap.size) := by
  rcases open_slice Try.underlying22 h with ⟨hcs, _⟩ | ⟨b, l, c, m, n, D, Pl, hcs, _, hl, hm, hmm, _, hi⟩
  · simp at hcs
    obtain ⟨rfl, rfl, rfl⟩ := hcs
    exact ⟨[], rfl, evs_nil_new w _⟩
  · simp at hcs
    obtain ⟨rfl, rfl, rfl⟩ := hcs
    have hlm : len ≤ m := by rw [hmm]; split <;> omega
    have H : ∀ i, i < len → ∃ e : Ev, w.cell? (b.add (i * 3)) = some (.int .i64 e.1) ∧ w.cell? ((b.add (i * 3)).add 1) = some (.int .i64 e.2.1) ∧ w.cell? ((b.add (i * 3)).add 2) = some (.int .i64 e.2.2) := by
      intro i hil
      obtain ⟨cs', hc, ht⟩ := hi i (by omega)
      rw [ev_cells] at hc
      obtain ⟨_, hlen, hat⟩ := World.cells?_some hc
      obtain ⟨y0, y1, y2, n', _, _, t0, t1, t2⟩ := trod_struct3 Try.underlying28 ht
      match cs', hlen with
      | [v0, v1, v2], _ =>
        simp only [int_cells, List.drop_zero, List.drop_succ_cons, List.take_succ_cons, List.take_zero] at t0 t1 t2
        obtain ⟨n0, e0, _⟩ := DataW.trod_int Try.underlying3 t0
        obtain ⟨n1, e1, _⟩ := DataW.trod_int Try.underlying3 t1
        obtain ⟨n2, e2, _⟩ := DataW.trod_int Try.underlying3 t2
        simp at e0 e1 e2
        subst e0 e1 e2
        refine ⟨(n0, n1, n2), ?_, ?_, ?_⟩
        · have := hat 0 (by omega); simpa [go_sem] using this
        · have := hat 1 (by omega); simpa using this
        · have := hat 2 (by omega); simpa using this
    obtain ⟨f, hf⟩ : ∃ f : Nat → Ev, ∀ i, i < len → w.cell? (b.add (i * 3)) = some (.int .i64 (f i).1) ∧ w.cell? ((b.add (i * 3)).add 1) = some (.int .i64 (f i).2.1) ∧ w.cell? ((b.add (i * 3)).add 2) = some (.int .i64 (f i).2.2) := by
      refine ⟨fun i => if h : i < len then (H i h).choose else (0, 0, 0), fun i h => ?_⟩
      simp only [h, dif_pos]
      exact (H i h).choose_spec
    refine ⟨(List.range len).map f, by simp, some b, cap, by simp, by simpa using hl, hm, by simp, fun hp => ?_⟩
    have hp' : 0 < len := by simpa using hp
    obtain ⟨bb, off, spot⟩ := b
    have hspot : spot = none := by simpa [Addr.add] using World.cell?_spot (hf 0 hp').1
    subst hspot
    refine ⟨bb, off, rfl, ?_, fun j e hj => ?_⟩
    · have := (hf 0 hp').1
      rw [Addr.add_lit] at this
      exact World.block_lt_of_cell? w ⟨bb, off + 0 * 3, none⟩ this
    · rw [List.getElem?_map] at hj
      obtain ⟨i, hi', rfl⟩ := Option.map_eq_some_iff.1 hj
      have hjl := (List.getElem?_eq_some_iff.1 hi').1
      have : i = j := by
        have h2 := (List.getElem?_eq_some_iff.1 hi').2
        simpa using h2.symm
      subst this
      have hil : i < len := by simpa using hjl
      obtain ⟨c0, c1, c2⟩ := hf i hil
      rw [Addr.add_lit] at c0
      rw [Addr.add_lit, Addr.add_lit] at c1 c2
      exact ⟨c0, c1, c2⟩
end Go.Proofs.Ytpaiigapffbinaa
