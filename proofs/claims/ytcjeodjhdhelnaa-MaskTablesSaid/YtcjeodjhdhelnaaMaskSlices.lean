/-
  Contracts of slices.Clone and slices.Equal at lists of words, over this seat's translation: the clone holds the same words in memory of its own, and Equal says whether two lists are the same. Conditions: the lists are words; their cells lie in memory as the slices say.
-/
import Derived.Test.YtcjeodjhdhelnaaMaskMore
import Derived.Lib.Walk
import Derived.OpenShut
import Derived.Lib.SliceRun
import Derived.Deep.LoopGhost
import Derived.Deep.Draws
namespace Go.Proofs.Ytcjeodjhdhelnaa
open Go.RowKit

theorem words_of_own {w : World} {base : Nat} {T : TypeId} {v : Value} {zs : List Int} (h : w.ownsRow base T 1 v zs.length (zs.map (Value.int .u64))) (hw : ∀ n ∈ zs, Word n) (hl : zs.length ≤ 17592186044416) : WordsB w.heap.size w v zs := by
  obtain ⟨_, h | ⟨g, cap, cur, rfl, hb, hh, hn, _, hs, ht⟩⟩ := h
  · obtain ⟨rfl, h0⟩ := h
    refine ⟨none, 0, by rw [h0], hl, hw, fun h => by omega⟩
  · refine ⟨_, _, rfl, hl, hw, fun _ => ⟨g, 0, rfl, (Array.getElem?_eq_some_iff.1 hh).1, fun j hj => ?_⟩⟩
    have e : cur[0 + j]? = some (.int .u64 (nth zs j)) := by
      have h1 : (zs.map (Value.int .u64))[j]? = some (.int .u64 (nth zs j)) := by
        unfold nth
        rw [List.getElem?_map, List.getElem?_eq_getElem hj]; rfl
      rw [← ht, List.getElem?_take] at h1
      split at h1
      · rw [Nat.zero_add]; simpa using h1
      · cases h1
    simp only [World.cell?, hh]
    exact e

/-- A slice of words that came in, as the row's step reads it. -/
theorem wordsB_of_row {w : World} {a : Option Addr} {len cap : Nat} {zs : List Int} (hl : len ≤ 17592186044416)
    (h : (a = none ∧ len = 0 ∧ cap = 0 ∧ zs = []) ∨ ∃ x, a = some x ∧ len ≤ cap ∧ cap ≤ maxLen ∧ zs.length = cap ∧ (∀ i, i < zs.length → w.cell? (x.add i) = some (.int .u64 (zs.getD i 0))) ∧ ∀ n ∈ zs, (Lit.int .u64 n).wf = true) :
    WordsB w.heap.size w (.slice a len cap) (zs.take len) := by
  rcases h with ⟨rfl, rfl, rfl, rfl⟩ | ⟨x, rfl, h1, h2, h3, h4, h5⟩
  · exact ⟨none, 0, rfl, by simp, by simp, fun h => by simp at h⟩
  · have e : (zs.take len).length = len := by rw [List.length_take]; omega
    refine ⟨some x, cap, by rw [e], by omega, ?_, fun hp => ?_⟩
    · intro n hn
      have := bounds_u64 (h5 n (List.mem_of_mem_take hn))
      exact ⟨this.1, by omega⟩
    · obtain ⟨b, off, rfl, hc⟩ := ints_at h4 (by omega)
      refine ⟨b, off, rfl, World.block_lt_of_cell? w _ (hc 0 (by omega)), fun j hj => ?_⟩
      rw [hc j (by omega)]
      unfold nth
      rw [List.getElem?_take_of_lt (by omega)]
      simp

theorem clone_info : (Try.prog.info? 22).map (fun i => (i.zero, i.size, i.bytes)) = some (some (.int .u64 0), 1, 8) := by kernel_rfl

set_option maxHeartbeats 2000000 in
set_option maxRecDepth 100000 in
theorem clone_some (x : Addr) (cap : Nat) (zs : List Int) (w : World) (hI : WordsB w.heap.size w (.slice (some x) zs.length cap) zs) :
    Calls Try.prog 12 #[.slice (some x) zs.length cap] w fun e w' => ∃ v', e = .returned v' ∧ WordsB w'.heap.size w' v' zs ∧ Below w.heap.size w w' := by
  obtain ⟨a, cap', ha, hl, hws, hc⟩ := hI
  obtain rfl : a = some x := by simp at ha; exact ha.1.symm
  clear ha
  have A : Aside (∀ j u, (zs.map (Value.int .u64))[j]? = some u → w.cell? (x.add j) = some u) := fun j u hj => by
    rw [List.getElem?_map] at hj
    by_cases h : j < zs.length
    · obtain ⟨b, off, hx, hb, hcc⟩ := hc (by omega)
      obtain rfl : x = ⟨b, off, none⟩ := by simpa using hx
      rw [List.getElem?_eq_getElem h] at hj
      have := hcc j h
      unfold nth at this
      rw [List.getElem?_eq_getElem h] at this
      rw [Addr.add_lit, this]
      simpa using hj
    · rw [List.getElem?_eq_none (by omega)] at hj; cases hj
  clear hc
  obtain ⟨i0, hi, hz0, hz1, hz2⟩ := info_parts clone_info
  have q22 : ∀ (w : World) (a : Option Addr) (n c n' c' : Nat), (binOp .eql 27 (.slice a n c) (.slice none n' c')).run Try.prog w = .ok (.bool a.isNone) w := fun w a n c n' c' => Lib.run_eql_slice_nil w _ _ a n c n' c' Try.underlying27
  go_enter Try.func12, Try.ntmps12
  go_wp2_with (at_builtin; refine wpList_append_own _ rfl _ _ 27 rfl w.heap.size 22 i0 (.int .u64 0) 1 8 Try.underlying27 hi hz0 hz1 hz2 rfl (by decide) _ _ _ rfl (World.ownsRow_made w #[] 0 (Nat.le_refl _) (Nat.zero_le _) (by simp)) x zs.length cap (zs.map (Value.int .u64)) rfl ?qc1 ?qc2 ?qc3 ?qc4 ?qc5 ?qc6 ?_)
  case qc1 => simp
  case qc2 =>
    intro j u hj
    exact Lib.cell?_alloc_some _ (A.out j u hj)
  case qc3 =>
    intro u hu
    obtain ⟨y, _, rfl⟩ := List.mem_map.1 hu
    rfl
  case qc4 => unfold maxLen; omega
  case qc5 => omega
  case qc6 => simp
  intro v' w1 hown hgrow hnil
  go_wp2
  go_ret
  refine ⟨v', rfl, words_of_own (by simpa using hown) hws hl, ?_⟩
  exact ((Below.refl _ w).alloc (Nat.le_refl _) _).grown hgrow (by simp) (by intro k hk; simp [Value.ownBlock] at hk; omega)

set_option maxHeartbeats 1000000 in
theorem clone_none (n c : Nat) (w : World) :
    Calls Try.prog 12 #[.slice none n c] w fun e w' => e = .returned (.slice none 0 0) ∧ w = w' := by
  have q22 : ∀ (w : World) (a : Option Addr) (n c n' c' : Nat), (binOp .eql 27 (.slice a n c) (.slice none n' c')).run Try.prog w = .ok (.bool a.isNone) w := fun w a n c n' c' => Lib.run_eql_slice_nil w _ _ a n c n' c' Try.underlying27
  go_enter Try.func12, Try.ntmps12
  go_wp2
  go_ret
  exact ⟨rfl, rfl⟩

theorem clone_any (sv : Value) (zs : List Int) (w : World) (hI : WordsB w.heap.size w sv zs) :
    Calls Try.prog 12 #[sv] w fun e w' => ∃ v', e = .returned v' ∧ WordsB w'.heap.size w' v' zs ∧ Below w.heap.size w w' := by
  have hI' := hI
  obtain ⟨a, cap, rfl, hl, hws, hc⟩ := hI
  cases a with
  | some x => exact clone_some x cap zs w hI'
  | none =>
    refine (clone_none _ _ w).mono ?_
    rintro e w' ⟨rfl, rfl⟩
    have h0 : zs.length = 0 := by
      rcases Nat.eq_zero_or_pos zs.length with h | h
      · exact h
      · obtain ⟨b, off, h2, _⟩ := hc h
        cases h2
    exact ⟨_, rfl, ⟨none, 0, by rw [h0], hl, hws, fun h => by omega⟩, Below.refl _ _⟩

theorem list_eq_nth {xs ys : List Int} (hl : xs.length = ys.length) (h : ∀ j, j < xs.length → nth xs j = nth ys j) : xs = ys := by
  apply List.ext_getElem hl
  intro i h1 h2
  have := h i h1
  unfold nth at this
  rw [List.getElem?_eq_getElem h1, List.getElem?_eq_getElem h2] at this
  exact this

/-- Whether two lists are the same, as a Bool. -/
def sameB (xs ys : List Int) : Bool := decide (xs = ys)

set_option maxHeartbeats 2000000 in
set_option maxRecDepth 100000 in
theorem slicesequal_any (sx sy : Value) (xs ys : List Int) (w : World) (hx : Words w sx xs) (hy : Words w sy ys) :
    Calls Try.prog 15 #[sx, sy] w fun e w' => e = .returned (.bool (sameB xs ys)) ∧ ∃ q, w' = w.drewN q := by
  obtain ⟨a, cap, rfl, hl, hws, hc⟩ := hx
  obtain ⟨b, cap2, rfl, hl2, hws2, hc2⟩ := hy
  by_cases hnm : xs.length = ys.length
  · have HL := Lib.hid hnm
    rw [← hnm]
    rw [← hnm] at hc2
    clear hnm hl2
    go_enter Try.func15, Try.ntmps15
    go_wp2
    go_loopg [13] xs.length (fun g s13 wr => ∃ k q : Nat, k ≤ xs.length ∧ xs.length - k ≤ g ∧ s13 = .int .i64 k ∧ wr = w.drewN q ∧ Aside (∀ j, j < k → nth xs j = nth ys j))
    case atStart => exact ⟨0, 0, Nat.zero_le _, by omega, rfl, rfl, fun j hj => absurd hj (Nat.not_lt_zero _)⟩
    case round =>
      obtain ⟨k, q, hk, hg, rfl, rfl, A⟩ := hrel
      by_cases hlt : k < xs.length
      · obtain ⟨b1, o1, rfl, hd1⟩ := hc (by omega)
        obtain ⟨b2, o2, rfl, hd2⟩ := hc2 (by omega)
        have g1 := hd1 k hlt
        have g2 := hd2 k hlt
        clear hc hc2 hd1 hd2
        by_cases hxy : nth xs k = nth ys k
        · have ht : (nth xs k != nth ys k) = false := by simp [hxy]
          have HX := Lib.hid hxy
          clear hxy
          go_wp2_with fail
          go_region
          go_wp2
          go_roundg (xs.length - (k + 1))
          case measure => omega
          case rel =>
            refine ⟨k + 1, q + 1, by omega, by omega, by go_num, rfl, (show Aside _ from fun j hj => ?_)⟩
            by_cases e : j = k
            · subst e
              exact HX.out
            · exact A.out j (by omega)
        · have ht : (nth xs k != nth ys k) = true := by simp [hxy]
          have HX := Lib.hid hxy
          clear hxy
          go_wp2_with fail
          go_region
          go_wp2
          go_ret
          refine ⟨?_, q + 1, rfl⟩
          have : sameB xs ys = false := by
            unfold sameB
            rw [decide_eq_false_iff_not]
            intro e
            exact HX.out (by rw [e])
          rw [this]
          rfl
      · have : k = xs.length := by omega
        subst this
        clear hc hc2
        go_wp2
        go_ret
        refine ⟨?_, q, rfl⟩
        have : sameB xs ys = true := by
          unfold sameB
          rw [decide_eq_true_iff]
          exact list_eq_nth HL.out A.out
        rw [this]
        rfl
  · have hnm' : ¬ (xs.length : Int) = (ys.length : Int) := by omega
    have hs : sameB xs ys = false := by
      unfold sameB
      rw [decide_eq_false_iff_not]
      intro e
      exact hnm (by rw [e])
    rw [hs]
    clear hc hc2 hs
    go_enter Try.func15, Try.ntmps15
    go_wp2
    go_ret
    exact ⟨rfl, 0, rfl⟩
end Go.Proofs.Ytcjeodjhdhelnaa
