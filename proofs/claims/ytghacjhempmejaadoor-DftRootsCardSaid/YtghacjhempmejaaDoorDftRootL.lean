/-
  The roots' words are each nearly the product of the one before and the second one, and of absolute value nearly 1. Closed facts; the statements' near without a change of the world.
-/
import Derived.Test.YtghacjhempmejaaDoorDftAlive
import Derived.Deep.QuietTactic
namespace Go.Proofs.YtghacjhempmejaaDoor
open Go.RowKit Ieee
def oneC : Nat × Nat := (4607182418800017408, 0)
def prodB (x y z : Nat × Nat) : Bool := match cMulBits x.1 x.2 y.1 y.2 with | some p => closeB p z | none => false
def rootOkB (e i : Nat) : Bool := (i == 0 || prodB (rootF e (i - 1)) (rootF e 1) (rootF e i)) && prodB (rootF e i) ((rootF e i).1, neg64 (rootF e i).2) oneC
theorem rootOk_all : (List.range 9).all (fun e => (List.range (pw e)).all (rootOkB e)) = true := by decide +kernel
theorem rootEnd_all : (List.range 9).all (fun e => prodB (rootF e (pw e - 1)) (rootF e (1 % pw e)) oneC && closeB (rootF e 0) oneC) = true := by decide +kernel
theorem prodB_is {x y z : Nat × Nat} (h : prodB x y z = true) : ∃ p : Nat × Nat, cMulBits x.1 x.2 y.1 y.2 = some (p.1, p.2) ∧ Close p z := by
  unfold prodB at h
  split at h
  · rename_i p hp
    exact ⟨p, hp, closeB_is h⟩
  · cases h
theorem Close.symm {x y : Nat × Nat} (h : Close x y) : Close y x := by
  obtain ⟨a, b, c, d, h1, h2, h3, h4⟩ := h
  refine ⟨c, d, a, b, h2, h1, ?_, ?_⟩
  · have := h3.neg; rw [show -(a - c) = c - a by grind] at this; exact this
  · have := h4.neg; rw [show -(b - d) = d - b by grind] at this; exact this
theorem near_same {x y : Nat × Nat} (h : Close x y) (w : World) : Calls Tryd.prog 15 #[.complex .f64 x.1 x.2, .complex .f64 y.1 y.2] w fun e w' => e = .returned (.bool true) ∧ w = w' := by
  obtain ⟨a, b, c, d, h1, h2, h3, h4⟩ := h
  exact near_any h1 h2 h3 h4 w
theorem near_q {x y : Nat × Nat} (h : Close x y) (w : World) (n : Nat) : Calls Tryd.prog 15 #[.complex .f64 x.1 x.2, .complex .f64 y.1 y.2] (w.drewN n) fun e w'' => e = .returned (.bool true) ∧ ∃ m, w'' = w.drewN m :=
  (near_same h (w.drewN n)).mono fun _ _ ⟨he, hw⟩ => ⟨he, n, hw.symm⟩
theorem rootOk {e i : Nat} (he : e < 9) (hi : i < pw e) : (0 < i → ∃ p : Nat × Nat, cMulBits (rootF e (i - 1)).1 (rootF e (i - 1)).2 (rootF e 1).1 (rootF e 1).2 = some (p.1, p.2) ∧ Close (rootF e i) p) ∧ ∃ q : Nat × Nat, cMulBits (rootF e i).1 (rootF e i).2 (rootF e i).1 (neg64 (rootF e i).2) = some (q.1, q.2) ∧ Close q oneC := by
  have h := List.all_eq_true.1 (List.all_eq_true.1 rootOk_all e (List.mem_range.2 he)) i (List.mem_range.2 hi)
  unfold rootOkB at h
  simp only [Bool.and_eq_true, Bool.or_eq_true, beq_iff_eq] at h
  refine ⟨fun h0 => ?_, prodB_is h.2⟩
  rcases h.1 with h1 | h1
  · omega
  · obtain ⟨p, p1, p2⟩ := prodB_is h1
    exact ⟨p, p1, p2.symm⟩
theorem rootEnd {e : Nat} (he : e < 9) : Close (rootF e 0) oneC ∧ ∃ q : Nat × Nat, cMulBits (rootF e (pw e - 1)).1 (rootF e (pw e - 1)).2 (rootF e (1 % pw e)).1 (rootF e (1 % pw e)).2 = some (q.1, q.2) ∧ Close q oneC := by
  have h := List.all_eq_true.1 rootEnd_all e (List.mem_range.2 he)
  simp only [Bool.and_eq_true] at h
  exact ⟨closeB_is h.2, prodB_is h.1⟩
theorem rootsL_get {e k : Nat} (h : k < pw e) : (rootsL e)[k]? = some (rootF e k) := by
  unfold rootsL
  rw [List.getElem?_map, List.getElem?_range h]; rfl
end Go.Proofs.YtghacjhempmejaaDoor
