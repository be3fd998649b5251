/-
  Arguments of statements, opened: a list of lists of numbers of four words. No condition.
-/
import Derived.Test.YtclehgconbdkpaaDoorDealC
namespace Go.Proofs.YtclehgconbdkpaaDoor
open Go.RowKit Go.ChangeShapes Go.WideShapes Go.ChangeAt Go.Deep
/-- The slice value v holds the lists of numbers yss; what is read lies within S. -/
def VVsAt (w : World) (v : Value) (yss : List (List Nat)) (S : Nat → Prop) : Prop :=
  ∃ a cap, v = .slice a yss.length cap ∧ yss.length ≤ maxLen ∧ (0 < yss.length → ∃ b off, a = some ⟨b, off, none⟩ ∧ S b ∧ ∀ j ys, yss[j]? = some ys → ∃ c d, w.cell? ⟨b, off + j, none⟩ = some (.slice c ys.length d) ∧ VsAt w (.slice c ys.length d) ys S)
theorem VVsAt.off {w w' : World} {v : Value} {yss : List (List Nat)} {S S' : Nat → Prop} (h : VVsAt w v yss S) (ho : Off S' w w') (hd : ∀ k, k < w.heap.size → S k → ¬ S' k) : VVsAt w' v yss S := by
  obtain ⟨a, cap, hv, h1, h4⟩ := h
  refine ⟨a, cap, hv, h1, fun hp => ?_⟩
  obtain ⟨b, off, ha, hS, hc⟩ := h4 hp
  refine ⟨b, off, ha, hS, fun j ys hj => ?_⟩
  obtain ⟨c, d, h2, h3⟩ := hc j ys hj
  exact ⟨c, d, ho.cell h2 (hd b (World.block_lt_of_cell? w _ h2) hS), h3.off ho hd⟩
theorem VVsAt.get {w : World} {a : Option Addr} {m cap : Nat} {yss : List (List Nat)} {S : Nat → Prop} (h : VVsAt w (.slice a m cap) yss S) {j : Nat} (hj : j < m) :
    ∃ ys b off c d, yss[j]? = some ys ∧ a = some ⟨b, off, none⟩ ∧ S b ∧ w.cell? ⟨b, off + j, none⟩ = some (.slice c ys.length d) ∧ VsAt w (.slice c ys.length d) ys S := by
  obtain ⟨a', cap', e, _, h4⟩ := h
  simp at e
  obtain ⟨rfl, rfl, rfl⟩ := e
  obtain ⟨b, off, ha, hS, hc⟩ := h4 (by omega)
  have hx : yss[j]? = some yss[j] := List.getElem?_eq_getElem hj
  obtain ⟨c, d, h2, h3⟩ := hc j _ hx
  exact ⟨_, b, off, c, d, hx, ha, hS, h2, h3⟩
theorem VVsAt.len {w : World} {a : Option Addr} {m cap : Nat} {yss : List (List Nat)} {S : Nat → Prop} (h : VVsAt w (.slice a m cap) yss S) : m = yss.length ∧ m ≤ maxLen := by
  obtain ⟨a', cap', e, h1, _⟩ := h
  simp at e
  omega
theorem cells_vecs1' : Tryd.prog.cellsOf 46 = 1 := by kernel_rfl
set_option maxRecDepth 100000 in
theorem vecss_of_trod {H : Type} {enc : TypeId × Value → H} {w : World} {spare : Nat → Bool} {held : Bool} {a : Option Addr} {len cap fuel : Nat} {x : DataW H × List MemPlace}
    (h : DataW.trod enc Tryd.prog w 0 spare held fuel 33 [.slice a len cap] = some x) : ∃ yss, len = yss.length ∧ VVsAt w (.slice a len cap) yss (fun k => k < w.heap.size) := by
  rcases open_slice Tryd.underlying33 h with ⟨hcs, _⟩ | ⟨b, l, c, m, n, D, Pl, hcs, _, hl, hm, hmm, _, hi⟩
  · simp at hcs
    obtain ⟨rfl, rfl, rfl⟩ := hcs
    exact ⟨[], rfl, none, 0, rfl, Nat.zero_le _, fun h => by simp at h⟩
  · simp at hcs
    obtain ⟨rfl, rfl, rfl⟩ := hcs
    have hlm : len ≤ m := by rw [hmm]; split <;> omega
    have H : ∀ i, i < len → ∃ ys : List Nat, ∃ c d, w.cell? (b.add (i * 1)) = some (.slice c ys.length d) ∧ VsAt w (.slice c ys.length d) ys (fun k => k < w.heap.size) := by
      intro i hil
      obtain ⟨cs', hc, ht⟩ := hi i (by omega)
      rw [cells_vecs1'] at hc
      obtain ⟨_, hlen, hat⟩ := World.cells?_some hc
      match cs', hlen with
      | [v0], _ =>
        obtain ⟨pa, pn, pc, rfl⟩ := slice_of_trod' Tryd.underlying46 ht
        obtain ⟨ys, rfl, hv⟩ := vecs_of_trod ht
        exact ⟨ys, pa, pc, by have := hat 0 (by omega); simpa [go_sem] using this, hv⟩
    obtain ⟨f, hf⟩ : ∃ f : Nat → List Nat, ∀ i, i < len → ∃ c d, w.cell? (b.add (i * 1)) = some (.slice c (f i).length d) ∧ VsAt w (.slice c (f i).length d) (f i) (fun k => k < w.heap.size) := by
      refine ⟨fun i => if h : i < len then (H i h).choose else [], fun i h => ?_⟩
      simp only [h, dif_pos]
      exact (H i h).choose_spec
    refine ⟨(List.range len).map f, by simp, some b, cap, by simp, by simp; omega, fun hp => ?_⟩
    have hp' : 0 < len := by simpa using hp
    obtain ⟨bb, off, spot⟩ := b
    obtain ⟨_, _, g0, _⟩ := hf 0 hp'
    have hspot : spot = none := by simpa [Addr.add] using World.cell?_spot g0
    subst hspot
    refine ⟨bb, off, rfl, ?_, fun j e hj => ?_⟩
    · rw [Addr.add_lit] at g0
      exact World.block_lt_of_cell? w ⟨bb, off + 0 * 1, none⟩ g0
    · rw [List.getElem?_map] at hj
      obtain ⟨i, hi', rfl⟩ := Option.map_eq_some_iff.1 hj
      have hjl := (List.getElem?_eq_some_iff.1 hi').1
      have : i = j := by
        have h2 := (List.getElem?_eq_some_iff.1 hi').2
        simpa using h2.symm
      subst this
      have hil : i < len := by simpa using hjl
      obtain ⟨c, d, h2, h3⟩ := hf i hil
      rw [Addr.add_lit, Nat.mul_one] at h2
      exact ⟨c, d, h2, h3⟩
end Go.Proofs.YtclehgconbdkpaaDoor
