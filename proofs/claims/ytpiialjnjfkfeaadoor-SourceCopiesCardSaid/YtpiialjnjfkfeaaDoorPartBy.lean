/-
  Parts of a slice of bytes, for seats with numbers (the same as ShaPart's). Conditions: as each says.
-/
import Derived.Test.YtpiialjnjfkfeaaDoorBytMem
namespace Go.Proofs.YtpiialjnjfkfeaaDoor
open Go.RowKit
set_option maxRecDepth 100000
set_option maxHeartbeats 4000000
theorem byte_elem : Tryd.prog.elem 22 = 5 := by simp [Program.elem, Tryd.underlying22]
theorem BsAt.from {W : World} {a : Option Addr} {bs : List Nat} {S : Nat → Prop} (h : BsAt W a bs S) (lo cap : Nat) (hc : bs.length ≤ cap) : BsAt W (if cap = lo then a else a.map (·.add (lo * 1))) (bs.drop lo) S := by
  intro hp
  rw [List.length_drop] at hp
  obtain ⟨b, o, rfl, hS, hx⟩ := h (by omega)
  rw [if_neg (by omega)]
  refine ⟨b, o + lo, by simp [Addr.add_lit], hS, fun j x hj => ?_⟩
  rw [List.getElem?_drop] at hj
  rw [Nat.add_assoc]
  exact hx _ x hj
/-- 's[:k]'. -/
theorem part_h (a : Option Addr) (n cap k : Nat) (bs : List Nat) (hn : n = bs.length) (hk : k ≤ n) (hc : n ≤ cap) : ∃ a', (∀ W, (Instr.slice 22 (.slice a n cap) none (some (.int .i64 (k : Int))) none).run Tryd.prog W = .ok (.slice a' k cap) W) ∧ ∀ W S, BsAt W a bs S → BsAt W a' (bs.take k) S := by
  refine ⟨if cap = 0 then a else a.map (·.add (0 * 1)), fun W => ?_, fun W S h => ?_⟩
  · rw [run_slice_h W 22 _ _ _ (by rw [byte_elem]; exact Tryd.underlying22) .i64 _ (by omega) (by omega), byte_elem, Tryd.sizeOf5]
    simp only [Result.andThen, sliced, Int.toNat_natCast, Nat.sub_zero]
  · have := (h.from 0 cap (by omega)).take k
    rw [List.drop_zero] at this
    exact this
/-- 's[k:]'. -/
theorem part_l (a : Option Addr) (n cap k : Nat) (bs : List Nat) (hn : n = bs.length) (hk : k ≤ n) (hc : n ≤ cap) : ∃ a', (∀ W, (Instr.slice 22 (.slice a n cap) (some (.int .i64 (k : Int))) none none).run Tryd.prog W = .ok (.slice a' (n - k) (cap - k)) W) ∧ ∀ W S, BsAt W a bs S → BsAt W a' (bs.drop k) S := by
  refine ⟨if cap = k then a else a.map (·.add (k * 1)), fun W => ?_, fun W S h => h.from k cap (by omega)⟩
  rw [run_slice_l W 22 _ _ _ (by rw [byte_elem]; exact Tryd.underlying22) .i64 _ (by omega) (by omega), byte_elem, Tryd.sizeOf5]
  simp only [Result.andThen, sliced, Int.toNat_natCast]
/-- 's[i:k]'. -/
theorem part_lh (a : Option Addr) (n cap i k : Nat) (bs : List Nat) (hn : n = bs.length) (hi : i ≤ k) (hk : k ≤ n) (hc : n ≤ cap) : ∃ a', (∀ W, (Instr.slice 22 (.slice a n cap) (some (.int .i64 (i : Int))) (some (.int .i64 (k : Int))) none).run Tryd.prog W = .ok (.slice a' (k - i) (cap - i)) W) ∧ ∀ W S, BsAt W a bs S → BsAt W a' ((bs.drop i).take (k - i)) S := by
  refine ⟨if cap = i then a else a.map (·.add (i * 1)), fun W => ?_, fun W S h => (h.from i cap (by omega)).take (k - i)⟩
  rw [run_slice_lh W 22 _ _ _ (by rw [byte_elem]; exact Tryd.underlying22) .i64 .i64 _ _ (by omega) (by omega) (by omega), byte_elem, Tryd.sizeOf5]
  simp only [Result.andThen, sliced, Int.toNat_natCast]
end Go.Proofs.YtpiialjnjfkfeaaDoor
