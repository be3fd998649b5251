/-
  Arguments of statements, opened: a list of numbers of four words; two such lists. No condition.
-/
import Derived.Test.YtclehgconbdkpaaDoorLimbWords
import Derived.Test.YtclehgconbdkpaaDoorPolRefer
import Derived.Deep.Slices
import Derived.Deep.Strs
import Derived.ProofKit
namespace Go.Proofs.YtclehgconbdkpaaDoor
open Go.RowKit Go.ChangeShapes Go.WideShapes Go.ChangeAt Go.Deep

/-- The slice value v holds the numbers xs; its cells, where it has any, lie within S. -/
def VsAt (w : World) (v : Value) (xs : List Nat) (S : Nat → Prop) : Prop :=
  ∃ a cap, v = .slice a xs.length cap ∧ xs.length ≤ maxLen ∧ (∀ x ∈ xs, x < R256) ∧ (0 < xs.length → ∃ b off, a = some ⟨b, off, none⟩ ∧ S b ∧ ∀ j x, xs[j]? = some x → elAt w b (off + j * 4) x)
theorem VsAt.get {w : World} {a : Option Addr} {n cap : Nat} {xs : List Nat} {S : Nat → Prop} (h : VsAt w (.slice a n cap) xs S) {j x : Nat} (hx : xs[j]? = some x) : ∃ b off, a = some ⟨b, off, none⟩ ∧ S b ∧ elAt w b (off + j * 4) x := by
  obtain ⟨a', cap', e, _, _, h4⟩ := h
  simp at e
  obtain ⟨rfl, rfl, rfl⟩ := e
  obtain ⟨b, off, ha, hS, hc⟩ := h4 (by have := (List.getElem?_eq_some_iff.1 hx).1; omega)
  exact ⟨b, off, ha, hS, hc j x hx⟩
theorem VsAt.len {w : World} {a : Option Addr} {n cap : Nat} {xs : List Nat} {S : Nat → Prop} (h : VsAt w (.slice a n cap) xs S) : n = xs.length ∧ n ≤ maxLen ∧ ∀ x ∈ xs, x < R256 := by
  obtain ⟨a', cap', e, h1, h2, _⟩ := h
  simp at e
  exact ⟨e.2.1, by omega, h2⟩
theorem VsAt.off {w w' : World} {v : Value} {xs : List Nat} {S S' : Nat → Prop} (h : VsAt w v xs S) (ho : Off S' w w') (hd : ∀ k, k < w.heap.size → S k → ¬ S' k) : VsAt w' v xs S := by
  obtain ⟨a, cap, hv, h1, h2, h4⟩ := h
  refine ⟨a, cap, hv, h1, h2, fun hp => ?_⟩
  obtain ⟨b, off, ha, hS, hc⟩ := h4 hp
  refine ⟨b, off, ha, hS, fun j e hj => ?_⟩
  have he := hc j e hj
  exact he.off ho (hd b (World.block_lt_of_cell? w _ he.1) hS)
set_option maxRecDepth 100000 in
theorem vecs_of_trod {H : Type} {enc : TypeId × Value → H} {w : World} {spare : Nat → Bool} {held : Bool} {a : Option Addr} {len cap fuel : Nat} {x : DataW H × List MemPlace}
    (h : DataW.trod enc Tryd.prog w 0 spare held fuel 46 [.slice a len cap] = some x) : ∃ xs, len = xs.length ∧ VsAt w (.slice a len cap) xs (fun k => k < w.heap.size) := by
  rcases open_slice Tryd.underlying46 h with ⟨hcs, _⟩ | ⟨b, l, c, m, n, D, Pl, hcs, _, hl, hm, hmm, _, hi⟩
  · simp at hcs
    obtain ⟨rfl, rfl, rfl⟩ := hcs
    exact ⟨[], rfl, none, 0, rfl, Nat.zero_le _, fun _ h => (by cases h), fun h => by simp at h⟩
  · simp at hcs
    obtain ⟨rfl, rfl, rfl⟩ := hcs
    have hlm : len ≤ m := by rw [hmm]; split <;> omega
    have H : ∀ i, i < len → ∃ e : Nat, e < R256 ∧ w.cell? (b.add (i * 4)) = some (.int .u64 (wd e 0 : Int)) ∧ w.cell? ((b.add (i * 4)).add 1) = some (.int .u64 (wd e 1 : Int)) ∧ w.cell? ((b.add (i * 4)).add 2) = some (.int .u64 (wd e 2 : Int)) ∧ w.cell? ((b.add (i * 4)).add 3) = some (.int .u64 (wd e 3 : Int)) := by
      intro i hil
      obtain ⟨cs', hc, ht⟩ := hi i (by omega)
      rw [cells_vec] at hc
      obtain ⟨_, hlen, hat⟩ := World.cells?_some hc
      match cs', hlen with
      | [v0, v1, v2, v3], _ =>
        obtain ⟨y0, y1, y2, y3, n', hx, t0, t1, t2, t3⟩ := trod_array4 Tryd.underlying51 cells_word ht
        obtain ⟨n0, e0, _, q0⟩ := DataW.trod_int Tryd.underlying50 t0
        obtain ⟨n1, e1, _, q1⟩ := DataW.trod_int Tryd.underlying50 t1
        obtain ⟨n2, e2, _, q2⟩ := DataW.trod_int Tryd.underlying50 t2
        obtain ⟨n3, e3, _, q3⟩ := DataW.trod_int Tryd.underlying50 t3
        simp at e0 e1 e2 e3
        subst e0 e1 e2 e3
        have word : ∀ {x : Int}, (Lit.int .u64 x).wf = true → Word x := fun h => by have := bounds_u64 h; exact ⟨by omega, by omega⟩
        obtain ⟨e, he, rfl, rfl, rfl, rfl⟩ := words_num (word q0) (word q1) (word q2) (word q3)
        refine ⟨e, he, ?_, ?_, ?_, ?_⟩
        · have := hat 0 (by omega); simpa [go_sem] using this
        · have := hat 1 (by omega); simpa using this
        · have := hat 2 (by omega); simpa using this
        · have := hat 3 (by omega); simpa using this
    obtain ⟨f, hf⟩ : ∃ f : Nat → Nat, ∀ i, i < len → f i < R256 ∧ w.cell? (b.add (i * 4)) = some (.int .u64 (wd (f i) 0 : Int)) ∧ w.cell? ((b.add (i * 4)).add 1) = some (.int .u64 (wd (f i) 1 : Int)) ∧ w.cell? ((b.add (i * 4)).add 2) = some (.int .u64 (wd (f i) 2 : Int)) ∧ w.cell? ((b.add (i * 4)).add 3) = some (.int .u64 (wd (f i) 3 : Int)) := by
      refine ⟨fun i => if h : i < len then (H i h).choose else 0, fun i h => ?_⟩
      simp only [h, dif_pos]
      exact (H i h).choose_spec
    refine ⟨(List.range len).map f, by simp, some b, cap, by simp, by simp; omega, fun x hx => ?_, fun hp => ?_⟩
    · obtain ⟨i, hi', rfl⟩ := List.mem_map.1 hx
      exact (hf i (List.mem_range.1 hi')).1
    have hp' : 0 < len := by simpa using hp
    obtain ⟨bb, off, spot⟩ := b
    have hspot : spot = none := by simpa [Addr.add] using World.cell?_spot (hf 0 hp').2.1
    subst hspot
    refine ⟨bb, off, rfl, ?_, fun j e hj => ?_⟩
    · have := (hf 0 hp').2.1
      rw [Addr.add_lit] at this
      exact World.block_lt_of_cell? w ⟨bb, off + 0 * 4, none⟩ this
    · rw [List.getElem?_map] at hj
      obtain ⟨i, hi', rfl⟩ := Option.map_eq_some_iff.1 hj
      have hjl := (List.getElem?_eq_some_iff.1 hi').1
      have : i = j := by
        have h2 := (List.getElem?_eq_some_iff.1 hi').2
        simpa using h2.symm
      subst this
      have hil : i < len := by simpa using hjl
      obtain ⟨_, c0, c1, c2, c3⟩ := hf i hil
      rw [Addr.add_lit] at c0
      rw [Addr.add_lit, Addr.add_lit] at c1 c2 c3
      exact ⟨c0, c1, c2, c3⟩
/-- A short list of numbers lies somewhere. -/
theorem ls_of_vs {w : World} {v : Value} {xs : List Nat} {S : Nat → Prop} (h : VsAt w v xs S) (hl : xs.length ≤ 100000) : Ls w v xs := by
  obtain ⟨a, cap, hv, _, _, h4⟩ := h
  refine ⟨a, cap, hv, hl, fun hp => ?_⟩
  obtain ⟨b, off, ha, _, hc⟩ := h4 hp
  exact ⟨b, off, ha, trivial, hc⟩
end Go.Proofs.YtclehgconbdkpaaDoor
