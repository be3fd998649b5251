/-
  What a region's invariant says of slices of bytes that its calls return. No condition.
-/
import Derived.Test.YtpiialjnjfkfeaaDoorBytMem
import Derived.Test.YtpiialjnjfkfeaaDoorInvSel
namespace Go.Proofs.YtpiialjnjfkfeaaDoor
open Go.RowKit
/-- Slot value u is a slice of the bytes bs once operation i has been carried out. -/
def Mk (l : Nat → Bool) (i : Nat) (u : Value) (w : World) (bs : List Nat) : Prop := l i = true → SvAt w u bs
theorem Mk.start (i : Nat) (u : Value) (w : World) (bs : List Nat) : Mk (fun _ => false) i u w bs := fun h => by cases h
theorem Mk.new {l : Nat → Bool} {i : Nat} {u : Value} {w : World} {bs : List Nat} (h : SvAt w u bs) : Mk (upd l i) i u w bs := fun _ => h
theorem Mk.keep {l : Nat → Bool} {i : Nat} {u : Value} {w w' : World} {bs : List Nat} (h : Mk l i u w bs) (ho : Off (fun _ => False) w w') {k : Nat} (hk : (k == i) = false) : Mk (upd l k) i u w' bs := fun hl => by
  rw [upd_k l hk] at hl; exact (h hl).off ho
/-- The same, until operation d has been carried out. -/
def MkT (l : Nat → Bool) (i d : Nat) (u : Value) (w : World) (bs : List Nat) : Prop := l i = true → l d = false → SvAt w u bs
theorem MkT.start (i d : Nat) (u : Value) (w : World) (bs : List Nat) : MkT (fun _ => false) i d u w bs := fun h => by cases h
theorem MkT.new {l : Nat → Bool} {i d : Nat} {u : Value} {w : World} {bs : List Nat} (h : SvAt w u bs) : MkT (upd l i) i d u w bs := fun _ _ => h
theorem MkT.gone (l : Nat → Bool) (i d : Nat) (u : Value) {w : World} (bs : List Nat) : MkT (upd l d) i d u w bs := fun _ h => by rw [upd_same] at h; cases h
theorem MkT.past {l : Nat → Bool} {i d : Nat} {u : Value} {w : World} {bs : List Nat} (hd : l d = true) {k : Nat} (hk : (k == d) = false) : MkT (upd l k) i d u w bs := fun _ h => by rw [upd_k l hk, hd] at h; cases h
theorem MkT.keep {l : Nat → Bool} {i d : Nat} {u : Value} {w w' : World} {bs : List Nat} (h : MkT l i d u w bs) (ho : Off (fun _ => False) w w') {k : Nat} (hk : (k == i) = false) (hk2 : (k == d) = false) : MkT (upd l k) i d u w' bs := fun hl h2 => by
  rw [upd_k l hk] at hl; rw [upd_k l hk2] at h2; exact (h hl h2).off ho
/-- Slot value u is a slice of n over a new block b, which operation i made. -/
structure MkB (l : Nat → Bool) (i : Nat) (u : Value) (b n : Nat) (W0 w : World) (X : Obj) : Prop where
  ptr : l i = true → u = .slice (some ⟨b, 0, none⟩) n n
  new : l i = true → W0.heap.size ≤ b
  now : l i = true → w.heap[b]? = some X
theorem MkB.start (i : Nat) (u : Value) (b n : Nat) (W0 w : World) (X : Obj) : MkB (fun _ => false) i u b n W0 w X := ⟨fun h => (by cases h), fun h => (by cases h), fun h => (by cases h)⟩
theorem MkB.make {l : Nat → Bool} {i n : Nat} {S : Nat → Prop} {W0 w : World} {X : Obj} (hW : Off S W0 w) : MkB (upd l i) i (.slice (some ⟨w.heap.size, 0, none⟩) n n) w.heap.size n W0 (w.alloc X) X :=
  ⟨fun _ => rfl, fun _ => hW.size, fun _ => heap_new' rfl _⟩
theorem MkB.keep {l : Nat → Bool} {i b n : Nat} {u : Value} {W0 w w' : World} {X : Obj} (h : MkB l i u b n W0 w X) (ho : Off (fun _ => False) w w') {k : Nat} (hk : (k == i) = false) : MkB (upd l k) i u b n W0 w' X := by
  have e := upd_k l hk
  refine ⟨?_, ?_, ?_⟩ <;> rw [e]
  · exact h.ptr
  · exact h.new
  · exact fun a => ho.heap (h.now a) (fun c => c)
theorem MkB.difL {l : Nat → Bool} {i j c n : Nat} {u : Value} {W0 w : World} {X : Obj} (h : MkB l j u c n W0 w X) (hne : (i == j) = false) : Dif (upd l i) i j w.heap.size c := by
  intro _ h2
  rw [upd_k l hne] at h2
  have := heap_lt (h.now h2); omega
theorem MkB.difR {l : Nat → Bool} {i j c n : Nat} {u : Value} {W0 w : World} {X : Obj} (h : MkB l i u c n W0 w X) (hne : (j == i) = false) : Dif (upd l j) i j c w.heap.size := by
  intro h1 _
  rw [upd_k l hne] at h1
  have := heap_lt (h.now h1); omega
theorem Slot.void {l : Nat → Bool} {i j : Nat} {u v : Value} (h : l j = false) (hk : (i == j) = false) : Slot (upd l i) j u v := fun hl => by
  rw [upd_k l hk, h] at hl; cases hl
def Dep (l : Nat → Bool) (i s : Nat) : Prop := l i = false → l s = false
theorem Dep.start (i s : Nat) : Dep (fun _ => false) i s := fun _ => rfl
theorem Dep.keep {l : Nat → Bool} {i s k : Nat} (h : Dep l i s) (hk : (k == s) = false) : Dep (upd l k) i s := fun h2 => by
  rw [upd_k l hk]
  by_cases e : i = k
  · subst e; rw [upd_same] at h2; cases h2
  · rw [upd_ne l e] at h2; exact h h2
theorem Dep.at {l : Nat → Bool} {i s : Nat} (h : l i = true) : Dep (upd l s) i s := fun h2 => by
  unfold upd at h2
  split at h2
  · cases h2
  · rw [h] at h2; cases h2
theorem Dep.via {l : Nat → Bool} {i s : Nat} (h : Dep l i s) (hs : l s = true) : l i = true := by
  cases hi : l i with
  | true => rfl
  | false => rw [h hi] at hs; cases hs
/-- A call that returns a slice of bytes. -/
theorem sv_of_enc {f : FuncId} {args : Array Value} {w : World} {bs : List Nat} (h : Calls Tryd.prog f args w fun e w' => ∃ g, e = .returned (.slice (some ⟨g, 0, none⟩) 32 32) ∧ ByBlk w' g 5 bs ∧ w.heap.size ≤ g ∧ Off (fun _ => False) w w') (hl : bs.length = 32) :
    Calls Tryd.prog f args w fun e w' => ∃ u, e = .returned u ∧ SvAt w' u bs ∧ Off (fun _ => False) w w' :=
  h.mono fun _ _ ⟨_, he, hB, _, hO⟩ => ⟨_, he, ⟨_, _, _, rfl, hl.symm, Nat.le_refl _, BsAt.of_blk hB trivial⟩, hO⟩
theorem bequal_sv {w : World} {u v : Value} {bs : List Nat} (h : SvAt w u bs) (k : SvAt w v bs) : Calls Tryd.prog 14 #[u, v] w fun e w' => e = .returned (.bool true) ∧ Off (fun _ => False) w w' := by
  obtain ⟨a, n, c, rfl, hn, _, hb⟩ := h
  obtain ⟨a', n', c', rfl, hn', _, hb'⟩ := k
  exact bequal_any hb hn hb' hn'
end Go.Proofs.YtpiialjnjfkfeaaDoor
