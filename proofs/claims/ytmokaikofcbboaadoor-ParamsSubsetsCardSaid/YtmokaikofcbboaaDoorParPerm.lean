/-
  Lists of shares: permutations and parts of accepted ones; parts of a slice of shares. Plain facts.
-/
import Derived.Test.YtmokaikofcbboaaDoorShrRow
namespace Go.Proofs.YtmokaikofcbboaaDoor
open Go.RowKit
set_option maxRecDepth 100000
set_option maxHeartbeats 4000000
theorem firstE_perm {l m : List Sh} (h : l.Perm m) (h0 : firstE l = 0) : firstE m = 0 :=
  firstE_zero.2 (fun s hs => firstE_zero.1 h0 s (h.mem_iff.2 hs))
theorem shsN_perm {l m : List Sh} (h : l.Perm m) (h0 : firstE l = 0) : shsN m = shsN l := by
  have h1 := firstE_perm h h0
  have h2 : OneH m ↔ OneH l := by
    unfold OneH
    constructor
    · intro x s hs t ht; exact x s (h.mem_iff.1 hs) t (h.mem_iff.1 ht)
    · intro x s hs t ht; exact x s (h.mem_iff.2 hs) t (h.mem_iff.2 ht)
  have h3 : (ixs m).Nodup ↔ (ixs l).Nodup := (h.map Sh.ix).nodup_iff.symm
  have h4 : (m = [] ∨ ∃ s ∈ m, (m.length : Int) < s.th) ↔ (l = [] ∨ ∃ s ∈ l, (l.length : Int) < s.th) := by
    rw [h.length_eq]
    constructor
    · rintro (rfl | ⟨s, hs, hl⟩)
      · exact .inl h.eq_nil
      · exact .inr ⟨s, h.mem_iff.2 hs, hl⟩
    · rintro (rfl | ⟨s, hs, hl⟩)
      · exact .inl h.symm.eq_nil
      · exact .inr ⟨s, h.mem_iff.1 hs, hl⟩
  unfold shsN
  rw [h0, h1]
  simp only [h2, h3, h4]
theorem shN_th {s : Sh} (h : shN s = 0) : 1 ≤ s.th := by
  unfold shN at h
  split at h
  · exact absurd h (by decide)
  · split at h
    · exact absurd h (by decide)
    · omega
theorem shsN_ok {l : List Sh} (h : shsN l = 0) : firstE l = 0 ∧ OneH l ∧ (ixs l).Nodup ∧ l ≠ [] := by
  unfold shsN at h
  split at h
  · next c => exact absurd h c
  · next c1 =>
    split at h
    · exact absurd h (by decide)
    · next c2 =>
      split at h
      · exact absurd h (by decide)
      · next c3 =>
        split at h
        · exact absurd h (by decide)
        · next c4 => exact ⟨by simpa using c1, by simpa using c2, by simpa using c3, fun e => c4 (.inl e)⟩
theorem shsN_sub {l m : List Sh} {s0 : Sh} (h : shsN l = 0) (hm : m.Sublist l) (h0 : l[0]? = some s0) : shsN m = if (m.length : Int) < s0.th then 16 else 0 := by
  obtain ⟨e1, e2, e3, e4⟩ := shsN_ok h
  have f1 : firstE m = 0 := firstE_zero.2 (fun s hs => firstE_zero.1 e1 s (hm.subset hs))
  have f2 : OneH m := fun s hs t ht => e2 s (hm.subset hs) t (hm.subset ht)
  have f3 : (ixs m).Nodup := e3.sublist (hm.map Sh.ix)
  have m0 := List.mem_of_getElem? h0
  rcases Nat.eq_zero_or_pos m.length with hz | hp
  · obtain rfl := List.eq_nil_of_length_eq_zero hz
    have := shN_th (firstE_zero.1 e1 s0 m0)
    rw [shsN_nil, if_pos (by simp; omega)]
  · obtain ⟨t, ht⟩ : ∃ t, m[0]? = some t := ⟨m[0], List.getElem?_eq_getElem hp⟩
    rw [shsN_end f1 f2 f3 ht]
    rw [(e2 t (hm.subset (List.mem_of_getElem? ht)) s0 m0).2.1]
theorem SvsAt.wide {w : World} {v : Value} {L : List ShV} {S S' : Nat → Prop} (h : SvsAt w v L S) (hs : ∀ k, k < w.heap.size → S k → S' k) : SvsAt w v L S' := by
  obtain ⟨a, cap, hv, hc, hx⟩ := h
  refine ⟨a, cap, hv, hc, fun hp => ?_⟩
  obtain ⟨b, off, ha, hS, hat⟩ := hx hp
  have c0 := hat 0 (L[0]'hp) 0 _ (List.getElem?_eq_getElem _) rfl
  exact ⟨b, off, ha, hs b (World.block_lt_of_cell? w _ c0) hS, hat⟩
theorem PlAt.wide {w : World} {x : ShV} {S S' : Nat → Prop} (h : PlAt w x S) (hs : ∀ k, k < w.heap.size → S k → S' k) : PlAt w x S' := ⟨h.1, h.2.1, h.2.2.wide hs⟩
/-- A row of shares of the call's own, whose payloads are older, is a list of shares. -/
theorem RowS.shs {B : Nat} {w W : World} {v : Value} {L : List ShV} (h : RowS B W v L) (hm : L.length ≤ maxLen) (hp : ∀ x ∈ L, PlAt w x (fun k => k < w.heap.size)) {S : Nat → Prop} (ho : Off S w W) (hS : ∀ k, k < w.heap.size → ¬ S k) : ShsAt W v (L.map ShV.sh) (fun _ => True) :=
  (h.svs.wide (S' := fun _ => True) (fun _ _ _ => trivial)).shs hm (fun x hx => ((hp x hx).off ho (fun k _ hk => hS k hk)).wide (fun _ _ _ => trivial)) (fun _ _ _ => trivial)
theorem RowS.form {B : Nat} {W : World} {v : Value} {L : List ShV} (h : RowS B W v L) (hp : 0 < L.length) : ∃ g cap, v = .slice (some ⟨g, 0, none⟩) L.length cap ∧ B ≤ g ∧ g < W.heap.size := by
  rcases h.2 with ⟨rfl, hn⟩ | ⟨g, cap, cur, rfl, hBg, hgc, _⟩
  · omega
  · exact ⟨g, cap, rfl, hBg, heap_lt hgc⟩
theorem share_elem : Tryd.prog.elem 33 = 31 := by simp [Program.elem, Tryd.underlying33]
theorem SvsAt.from {W : World} {a : Option Addr} {n cap : Nat} {L : List ShV} {S : Nat → Prop} (h : SvsAt W (.slice a n cap) L S) (lo : Nat) (hlo : lo ≤ n) : SvsAt W (.slice (if cap = lo then a else a.map (·.add (lo * 5))) (n - lo) (cap - lo)) (L.drop lo) S := by
  obtain ⟨a', cap', e, hc, hx⟩ := h
  simp at e
  obtain ⟨rfl, rfl, rfl⟩ := e
  refine ⟨_, cap - lo, by rw [List.length_drop], by rw [List.length_drop]; omega, fun hp => ?_⟩
  rw [List.length_drop] at hp
  obtain ⟨b, o, rfl, hS, hat⟩ := hx (by omega)
  rw [if_neg (by omega)]
  refine ⟨b, o + lo * 5, by simp [Addr.add_lit], hS, fun j x k u hj hu => ?_⟩
  rw [List.getElem?_drop] at hj
  have := hat _ x k u hj hu
  rw [show o + lo * 5 + j * 5 + k = o + (lo + j) * 5 + k by omega]
  exact this
theorem SvsAt.upto {W : World} {a : Option Addr} {n cap : Nat} {L : List ShV} {S : Nat → Prop} (h : SvsAt W (.slice a n cap) L S) (k : Nat) (hk : k ≤ n) : SvsAt W (.slice a k cap) (L.take k) S := by
  obtain ⟨a', cap', e, hc, hx⟩ := h
  simp at e
  obtain ⟨rfl, rfl, rfl⟩ := e
  have hl : (L.take k).length = k := by rw [List.length_take]; omega
  refine ⟨a, cap, by rw [hl], by rw [hl]; omega, fun hp => ?_⟩
  obtain ⟨b, o, ha, hS, hat⟩ := hx (by rw [hl] at hp; omega)
  refine ⟨b, o, ha, hS, fun j x k' u hj hu => ?_⟩
  have hjk := (List.getElem?_eq_some_iff.1 hj).1
  rw [hl] at hjk
  rw [List.getElem?_take, if_pos hjk] at hj
  exact hat j x k' u hj hu
/-- 's[:k]'. -/
theorem shs_h (a : Option Addr) (n cap k : Nat) (hk : k ≤ n) (hc : n ≤ cap) : ∃ a', (∀ W, (Instr.slice 33 (.slice a n cap) none (some (.int .i64 (k : Int))) none).run Tryd.prog W = .ok (.slice a' k cap) W) ∧ ∀ W S L, SvsAt W (.slice a n cap) L S → SvsAt W (.slice a' k cap) (L.take k) S := by
  refine ⟨if cap = 0 then a else a.map (·.add (0 * 5)), fun W => ?_, fun W S L h => ?_⟩
  · rw [run_slice_h W 33 _ _ _ (by rw [share_elem]; exact Tryd.underlying33) .i64 _ (by omega) (by omega), share_elem, Tryd.sizeOf31]
    simp only [Result.andThen, sliced, Int.toNat_natCast, Nat.sub_zero]
  · have := (h.from 0 (Nat.zero_le _)).upto k (by omega)
    rw [List.drop_zero] at this
    exact this
/-- 's[k:]'. -/
theorem shs_l (a : Option Addr) (n cap k : Nat) (hk : k ≤ n) (_hc : n ≤ cap) : ∃ a', (∀ W, (Instr.slice 33 (.slice a n cap) (some (.int .i64 (k : Int))) none none).run Tryd.prog W = .ok (.slice a' (n - k) (cap - k)) W) ∧ ∀ W S L, SvsAt W (.slice a n cap) L S → SvsAt W (.slice a' (n - k) (cap - k)) (L.drop k) S := by
  refine ⟨if cap = k then a else a.map (·.add (k * 5)), fun W => ?_, fun W S L h => h.from k hk⟩
  rw [run_slice_l W 33 _ _ _ (by rw [share_elem]; exact Tryd.underlying33) .i64 _ (by omega) (by omega), share_elem, Tryd.sizeOf31]
  simp only [Result.andThen, sliced, Int.toNat_natCast]
end Go.Proofs.YtmokaikofcbboaaDoor
