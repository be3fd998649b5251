/-
  More of what a region's invariant says: loads from a block that the region stores into, stores at an offset, a call that notes events; and tapes as values with the events that calls add. Conditions: the tape has fewer events than the bound that each says.
-/
import Derived.Test.YtclehgconbdkpaaDoorNums
import Derived.Test.YtclehgconbdkpaaDoorTapeCore
namespace Go.Proofs.YtclehgconbdkpaaDoor
open Go.RowKit

/-- Operation s waits for operation i. -/
def Dep (l : Nat → Bool) (i s : Nat) : Prop := l i = false → l s = false
theorem Dep.start (i s : Nat) : Dep (fun _ => false) i s := fun _ => rfl
theorem Dep.keep {l : Nat → Bool} {i s k : Nat} (h : Dep l i s) (hk : (k == s) = false) : Dep (upd l k) i s := fun h2 => by
  rw [upd_k l hk]
  by_cases e : i = k
  · subst e; rw [upd_same] at h2; cases h2
  · rw [upd_ne l e] at h2; exact h h2
theorem Dep.at {l : Nat → Bool} {i s : Nat} (h : l i = true) : Dep (upd l s) i s := fun h2 => by
  unfold upd at h2
  split at h2
  · cases h2
  · rw [h] at h2; cases h2
theorem Old.keepS {l : Nat → Bool} {s : Nat} {b : Nat} {W0 w w' : World} {Z X : Obj} {S : Nat → Prop} (h : Old l s b W0 w Z X) (ho : Off S w w') (hb : ¬ S b) {k : Nat} (hk2 : (k == s) = false) : Old (upd l k) s b W0 w' Z X := by
  have e2 := upd_k l hk2
  refine ⟨h.lt, ?_, ?_⟩ <;> rw [e2]
  · exact fun c => ho.heap (h.was c) hb
  · exact fun c => ho.heap (h.now c) hb
theorem Old.putAt {l : Nat → Bool} {s : Nat} {b o : Nat} {W0 w : World} {Z X : Obj} {vs : List Value} (h : Old l s b W0 w Z X) (hX : w.heap[b]? = some Z → (w.setCells b o vs).heap[b]? = some X) (hl : l s = false) :
    Old (upd l s) s b W0 (w.setCells b o vs) Z X :=
  ⟨h.lt, fun h2 => (by rw [upd_same] at h2; cases h2), fun _ => hX (h.was hl)⟩
theorem Old.farAt {l : Nat → Bool} {s : Nat} {b c o : Nat} {W0 w : World} {Z X : Obj} {vs : List Value} (h : Old l s b W0 w Z X) {k : Nat} (hk2 : (k == s) = false) (hne : b ≠ c) : Old (upd l k) s b W0 (w.setCells c o vs) Z X := by
  have e2 := upd_k l hk2
  refine ⟨h.lt, ?_, ?_⟩ <;> rw [e2]
  · exact fun b => setCells_far_at hne (h.was b)
  · exact fun b => setCells_far_at hne (h.now b)
theorem Blk.farAt {l : Nat → Bool} {i s : Nat} {u : Value} {b c o : Nat} {W0 w : World} {Z X : Obj} {vs : List Value} (h : Blk l i s u b W0 w Z X) {k : Nat} (hk : (k == i) = false) (hk2 : (k == s) = false) (hne : l i = true → b ≠ c) : Blk (upd l k) i s u b W0 (w.setCells c o vs) Z X := by
  have e1 := upd_k l hk
  have e2 := upd_k l hk2
  refine ⟨?_, ?_, ?_, ?_, ?_⟩ <;> rw [e1] <;> try rw [e2]
  · exact h.ptr
  · exact h.new
  · exact fun a b => setCells_far_at (hne a) (h.was a b)
  · exact fun a b => setCells_far_at (hne a) (h.now a b)
  · exact h.dep

/-- The tape q, which may be nil, holds the events es; what it lies in is within S, and lies there by now. -/
def Tp (w : World) (q : Option Addr) (es : List Ev) (S : Nat → Prop) : Prop := TapeV w (.pointer q) es S ∧ ∀ k, S k → k < w.heap.size
/-- The events of a tape to which others are added; a nil tape keeps none. -/
def ext (q : Option Addr) (es ls : List Ev) : List Ev := if q = none then es else es ++ ls
theorem ext_nil (q : Option Addr) (es : List Ev) : ext q es [] = es := by unfold ext; split <;> simp
theorem ext_ext (q : Option Addr) (es ls ms : List Ev) : ext q (ext q es ls) ms = ext q es (ls ++ ms) := by unfold ext; split <;> simp
theorem ext_le (q : Option Addr) (es ls : List Ev) : (ext q es ls).length ≤ es.length + ls.length := by unfold ext; split <;> simp
/-- What a call that notes the events ls leaves. -/
def Noted (B : Nat) (q : Option Addr) (es ls : List Ev) (S : Nat → Prop) (w' : World) : Prop := ∃ S', Tp w' q (ext q es ls) S' ∧ ∀ k, S' k → S k ∨ B ≤ k
theorem Tp.off {w w' : World} {q : Option Addr} {es : List Ev} {S S2 : Nat → Prop} (h : Tp w q es S) (ho : Off S2 w w') (hd : ∀ k, S2 k → ¬ S k) : Tp w' q es S :=
  ⟨h.1.off ho (fun k _ hs c => hd k c hs), fun k hk => Nat.lt_of_lt_of_le (h.2 k hk) ho.size⟩
theorem Tp.off0 {w w' : World} {q : Option Addr} {es : List Ev} {S : Nat → Prop} (h : Tp w q es S) (ho : Off (fun _ => False) w w') : Tp w' q es S := h.off ho (fun _ c => c.elim)
theorem Tp.drew {w : World} {q : Option Addr} {es : List Ev} {S : Nat → Prop} (h : Tp w q es S) : Tp w.drew q es S := h.off0 (Off.refl _ w).drew
theorem Tp.noted {w : World} {q : Option Addr} {es : List Ev} {S : Nat → Prop} (h : Tp w q es S) (B : Nat) : Noted B q es [] S w := ⟨S, by rw [ext_nil]; exact h, fun _ c => .inl c⟩
theorem Noted.off {B : Nat} {w w' : World} {q : Option Addr} {es ls : List Ev} {S S2 : Nat → Prop} (h : Noted B q es ls S w) (ho : Off S2 w w') (hd : ∀ k, S2 k → ¬ S k ∧ k < B) : Noted B q es ls S w' := by
  obtain ⟨S', h1, h2⟩ := h
  exact ⟨S', h1.off ho (fun k hk c => (h2 k c).elim (hd k hk).1 (fun hb => by have := (hd k hk).2; omega)), h2⟩
/-- A tape that is nil holds nothing. -/
theorem Tp.none (w : World) : Tp w none [] (fun _ => False) := ⟨.inl ⟨rfl, rfl⟩, fun _ c => c.elim⟩

theorem note_ext (q : Option Addr) (es : List Ev) (S : Nat → Prop) (w : World) (h : Tp w q es S) (hl : es.length < 100000) (e : Ev) :
    Calls Tryd.prog 46 #[.pointer q, .int .i64 e.1, .int .i64 e.2.1, .int .i64 e.2.2] w fun r w' => r = .returned (.tuple #[]) ∧ Noted w.heap.size q es [e] S w' ∧ Off S w w' := by
  obtain ⟨ht, hs⟩ := h
  rcases ht with ⟨hq, rfl⟩ | ⟨b, hq, ht⟩
  · obtain rfl : q = none := by simpa using hq
    refine (note_nil e.1 e.2.1 e.2.2 w).mono ?_
    rintro r w' ⟨rfl, rfl⟩
    exact ⟨rfl, ⟨S, ⟨.inl ⟨rfl, by simp [ext]⟩, hs⟩, fun _ c => .inl c⟩, Off.refl _ _⟩
  · obtain rfl : q = some ⟨b, 0, none⟩ := by simpa using hq
    refine (note_any b es S w ht hl e).mono ?_
    rintro r w' ⟨rfl, h1, h2⟩
    refine ⟨rfl, ⟨fun k => (S k ∨ w.heap.size ≤ k) ∧ k < w'.heap.size, ⟨.inr ⟨b, rfl, ?_⟩, fun k c => c.2⟩, fun k c => c.1⟩, h2⟩
    have e1 : ext (some ⟨b, 0, none⟩) es [e] = es ++ [e] := by simp [ext]
    rw [e1]
    exact TapeG.mono h1 (fun k hk c => ⟨c, hk⟩)

/-- A region's call that notes events: the tape before and behind it. -/
structure TpI (l : Nat → Bool) (i : Nat) (W0 w : World) (q : Option Addr) (es ls : List Ev) (S : Nat → Prop) : Prop where
  was : l i = false → Tp w q es S
  now : l i = true → Noted W0.heap.size q es ls S w
theorem TpI.start {W0 : World} {q : Option Addr} {es : List Ev} {S : Nat → Prop} (h : Tp W0 q es S) (i : Nat) (W1 : World) (ls : List Ev) : TpI (fun _ => false) i W1 W0.drew q es ls S := ⟨fun _ => h.drew, fun c => by cases c⟩
theorem TpI.keep {l : Nat → Bool} {i : Nat} {W0 w w' : World} {q : Option Addr} {es ls : List Ev} {S : Nat → Prop} (h : TpI l i W0 w q es ls S) (ho : Off (fun _ => False) w w') {k : Nat} (hk : (k == i) = false) : TpI (upd l k) i W0 w' q es ls S := by
  refine ⟨?_, ?_⟩ <;> rw [upd_k l hk]
  · exact fun c => (h.was c).off0 ho
  · exact fun c => (h.now c).off ho (fun _ c => c.elim)
theorem TpI.same {l : Nat → Bool} {i : Nat} {W0 w : World} {q : Option Addr} {es ls : List Ev} {S : Nat → Prop} (h : TpI l i W0 w q es ls S) {k : Nat} (hk : (k == i) = false) : TpI (upd l k) i W0 w q es ls S := h.keep (Off.refl _ w) hk
theorem TpI.put {l : Nat → Bool} {i : Nat} {W0 w : World} {q : Option Addr} {es ls : List Ev} {S : Nat → Prop} (h : TpI l i W0 w q es ls S) {k : Nat} (hk : (k == i) = false) {b o : Nat} {vs : List Value} (hb : ¬ S b) (hlt : b < W0.heap.size) : TpI (upd l k) i W0 (w.setCells b o vs) q es ls S := by
  have ho := setCells_off b vs o w
  refine ⟨?_, ?_⟩ <;> rw [upd_k l hk]
  · exact fun c => (h.was c).off ho (fun k e hs => by subst e; exact hb hs)
  · exact fun c => (h.now c).off ho (fun k e => by subst e; exact ⟨hb, hlt⟩)
theorem TpI.note {l : Nat → Bool} {i B : Nat} {W0 w : World} {q : Option Addr} {es ls : List Ev} {S : Nat → Prop} (h : Noted B q es ls S w) (hB : W0.heap.size ≤ B) : TpI (upd l i) i W0 w q es ls S := by
  refine ⟨fun c => (by rw [upd_same] at c; cases c), fun _ => ?_⟩
  obtain ⟨S', h1, h2⟩ := h
  exact ⟨S', h1, fun k c => (h2 k c).imp id (fun d => Nat.le_trans hB d)⟩
end Go.Proofs.YtclehgconbdkpaaDoor
