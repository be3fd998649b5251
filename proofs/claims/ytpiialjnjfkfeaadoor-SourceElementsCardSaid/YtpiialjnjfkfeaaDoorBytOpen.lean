/-
  An argument of bytes, opened: whatever slice of bytes the reader reads, its cells lie as BsAt says. No condition.
-/
import Derived.Test.YtpiialjnjfkfeaaDoorLimbOpen
import Derived.Test.YtpiialjnjfkfeaaDoorBytMem
import Derived.Deep.Slices
import Derived.Deep.Strs
import Derived.ProofKit
namespace Go.Proofs.YtpiialjnjfkfeaaDoor
open Go.RowKit Go.ChangeShapes Go.WideShapes Go.ChangeAt Go.Deep
theorem cells_byte : Tryd.prog.cellsOf 5 = 1 := by kernel_rfl
set_option maxRecDepth 100000 in
theorem bytes_of_trod {H : Type} {enc : TypeId × Value → H} {w : World} {spare : Nat → Bool} {held : Bool} {a : Option Addr} {len cap fuel : Nat} {x : DataW H × List MemPlace}
    (h : DataW.trod enc Tryd.prog w 0 spare held fuel 22 [.slice a len cap] = some x) : ∃ xs, len = xs.length ∧ len ≤ cap ∧ Small xs ∧ BsAt w a xs (fun k => k < w.heap.size) := by
  rcases open_slice Tryd.underlying22 h with ⟨hcs, _⟩ | ⟨b, l, c, m, n, D, Pl, hcs, _, hl, hm, hmm, _, hi⟩
  · simp at hcs
    obtain ⟨rfl, rfl, rfl⟩ := hcs
    exact ⟨[], rfl, Nat.le_refl _, fun _ h => (by cases h), BsAt.nil _ _ _⟩
  · simp at hcs
    obtain ⟨rfl, rfl, rfl⟩ := hcs
    have hlm : len ≤ m := by rw [hmm]; split <;> omega
    have H : ∀ i, i < len → ∃ e : Nat, e < 256 ∧ w.cell? (b.add i) = some (.int .u8 (e : Int)) := by
      intro i hil
      obtain ⟨cs', hc, ht⟩ := hi i (by omega)
      rw [cells_byte] at hc
      obtain ⟨_, hlen, hat⟩ := World.cells?_some hc
      match cs', hlen with
      | [v0], _ =>
        obtain ⟨n0, e0, _, q0⟩ := DataW.trod_int Tryd.underlying5 ht
        simp at e0
        subst e0
        have hb := bounds_u8 q0
        obtain ⟨e, rfl⟩ := Int.eq_ofNat_of_zero_le hb.1
        refine ⟨e, by have := hb.2; omega, ?_⟩
        have := hat 0 (by omega); simpa [go_sem] using this
    obtain ⟨f, hf⟩ : ∃ f : Nat → Nat, ∀ i, i < len → f i < 256 ∧ w.cell? (b.add i) = some (.int .u8 (f i : Int)) := by
      refine ⟨fun i => if h : i < len then (H i h).choose else 0, fun i h => ?_⟩
      simp only [h, dif_pos]
      exact (H i h).choose_spec
    refine ⟨(List.range len).map f, by simp, by omega, fun x hx => ?_, fun hp => ?_⟩
    · obtain ⟨i, hi', rfl⟩ := List.mem_map.1 hx
      exact (hf i (List.mem_range.1 hi')).1
    have hp' : 0 < len := by simpa using hp
    obtain ⟨bb, off, spot⟩ := b
    have hspot : spot = none := by simpa [Addr.add] using World.cell?_spot (hf 0 hp').2
    subst hspot
    refine ⟨bb, off, rfl, ?_, fun j e hj => ?_⟩
    · have := (hf 0 hp').2
      rw [Addr.add_lit] at this
      exact World.block_lt_of_cell? w ⟨bb, off + 0, none⟩ this
    · rw [List.getElem?_map] at hj
      obtain ⟨i, hi', rfl⟩ := Option.map_eq_some_iff.1 hj
      have hjl := (List.getElem?_eq_some_iff.1 hi').1
      have : i = j := by
        have h2 := (List.getElem?_eq_some_iff.1 hi').2
        simpa using h2.symm
      subst this
      have hil : i < len := by simpa using hjl
      have c0 := (hf i hil).2
      rw [Addr.add_lit] at c0
      exact c0
end Go.Proofs.YtpiialjnjfkfeaaDoor
