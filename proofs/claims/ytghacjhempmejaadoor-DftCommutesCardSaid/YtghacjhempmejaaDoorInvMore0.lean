/-
  More of a region's invariant, for seats without numbers of four words: loads from a block that is stored into, stores at an offset.
-/
import Derived.Test.YtghacjhempmejaaDoorInvMem
namespace Go.Proofs.YtghacjhempmejaaDoor
open Go.RowKit
/-- Operation s waits for operation i. -/
def Dep (l : Nat → Bool) (i s : Nat) : Prop := l i = false → l s = false
theorem Dep.start (i s : Nat) : Dep (fun _ => false) i s := fun _ => rfl
theorem Dep.keep {l : Nat → Bool} {i s k : Nat} (h : Dep l i s) (hk : (k == s) = false) : Dep (upd l k) i s := fun h2 => by
  rw [upd_k l hk]
  by_cases e : i = k
  · subst e; rw [upd_same] at h2; cases h2
  · rw [upd_ne l e] at h2; exact h h2
theorem Dep.at {l : Nat → Bool} {i s : Nat} (h : l i = true) : Dep (upd l s) i s := fun h2 => by
  unfold upd at h2
  split at h2
  · cases h2
  · rw [h] at h2; cases h2
theorem setCells_far_at {b c o : Nat} {w : World} {vs : List Value} {x : Obj} (hne : c ≠ b) (h : w.heap[c]? = some x) : (w.setCells b o vs).heap[c]? = some x := (setCells_off b vs o w).heap h hne
theorem setCells_in_at {S : Nat → Prop} {a u : World} {b o : Nat} (h : Off S a u) (hb : b < a.heap.size → S b) (vs : List Value) : Off S a (u.setCells b o vs) :=
  h.trans (setCells_off b vs o u) (fun _ hk e => by subst e; exact hb hk)
theorem Old.putAt {l : Nat → Bool} {s : Nat} {b o : Nat} {W0 w : World} {Z X : Obj} {vs : List Value} (h : Old l s b W0 w Z X) (hX : w.heap[b]? = some Z → (w.setCells b o vs).heap[b]? = some X) (hl : l s = false) :
    Old (upd l s) s b W0 (w.setCells b o vs) Z X :=
  ⟨h.lt, fun h2 => (by rw [upd_same] at h2; cases h2), fun _ => hX (h.was hl)⟩
theorem Old.farAt {l : Nat → Bool} {s : Nat} {b c o : Nat} {W0 w : World} {Z X : Obj} {vs : List Value} (h : Old l s b W0 w Z X) {k : Nat} (hk2 : (k == s) = false) (hne : b ≠ c) : Old (upd l k) s b W0 (w.setCells c o vs) Z X := by
  have e2 := upd_k l hk2
  refine ⟨h.lt, ?_, ?_⟩ <;> rw [e2]
  · exact fun b => setCells_far_at hne (h.was b)
  · exact fun b => setCells_far_at hne (h.now b)
end Go.Proofs.YtghacjhempmejaaDoor
