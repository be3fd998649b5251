/-
  An argument of ints, opened: whatever slice of ints the reader reads, its cells lie as IvAt says. No condition.
-/
import Derived.Test.YtpiialjnjfkfeaaDoorIntsAt
import Derived.Deep.Slices
import Derived.ProofKit
namespace Go.Proofs.YtpiialjnjfkfeaaDoor
open Go.RowKit Go.ChangeShapes Go.WideShapes Go.ChangeAt
theorem cells_int1 : Tryd.prog.cellsOf 3 = 1 := by kernel_rfl
theorem ints_of_trod {H : Type} {enc : TypeId × Value → H} {w : World} {spare : Nat → Bool} {held : Bool} {a : Option Addr} {len cap fuel : Nat} {x : DataW H × List MemPlace}
    (h : DataW.trod enc Tryd.prog w 0 spare held fuel 23 [.slice a len cap] = some x) : ∃ xs, len = xs.length ∧ IvAt w (.slice a len cap) xs (fun k => k < w.heap.size) := by
  rcases open_ints Tryd.underlying23 Tryd.underlying3 cells_int1 h with ⟨hcs, _⟩ | ⟨b, l, c, zs, hcs, _, hl, hm, hz, _, hc, hw⟩
  · simp at hcs
    obtain ⟨rfl, rfl, rfl⟩ := hcs
    exact ⟨[], rfl, none, 0, rfl, Nat.zero_le _, fun _ h => (by cases h), fun h => by simp at h⟩
  · simp at hcs
    obtain ⟨rfl, rfl, rfl⟩ := hcs
    have hlm : len ≤ zs.length := by rw [hz]; split <;> omega
    refine ⟨zs.take len, by rw [List.length_take, Nat.min_eq_left hlm], some b, cap, by rw [List.length_take, Nat.min_eq_left hlm], by rw [List.length_take]; omega, fun x hx => hw x (List.mem_of_mem_take hx), fun hp => ?_⟩
    rw [List.length_take, Nat.min_eq_left hlm] at hp
    obtain ⟨bb, off, spot⟩ := b
    have h0 := hc 0 (by omega)
    have hspot : spot = none := by simpa [Addr.add] using World.cell?_spot h0
    subst hspot
    rw [Addr.add_lit] at h0
    refine ⟨bb, off, rfl, World.block_lt_of_cell? w ⟨bb, off + 0, none⟩ h0, fun j e hj => ?_⟩
    rw [List.getElem?_take] at hj
    split at hj
    · next hjl =>
      have := hc j (by omega)
      rw [Addr.add_lit, List.getD_eq_getElem?_getD, hj] at this
      exact this
    · cases hj
end Go.Proofs.YtpiialjnjfkfeaaDoor
