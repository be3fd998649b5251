/-
  Rows of shares of the call's own: shares put behind, slices.Grow, slices.Concat and slices.Reverse of shares. Condition: the lists are short.
-/
import Derived.Test.YtclehgconbdkpaaDoorParGrp
import Derived.Test.YtclehgconbdkpaaDoorRowsEl
import Derived.Maps.AppendAt
import Derived.Lib.AppendZeros
import Derived.Laws.OwnMore
import Derived.Laws.Cover3
namespace Go.Proofs.YtclehgconbdkpaaDoor
open Go.RowKit
attribute [local go_sem ↓] Go.wp_at_zero Go.wp_at_succ
set_option maxRecDepth 100000
set_option maxHeartbeats 4000000
/-- A share with the slice of its payload. -/
structure ShV where
  sh : Sh
  pa : Option Addr
  pc : Nat
def ShV.cells (x : ShV) : List Value := [.int .i64 x.sh.fd, .int .i64 x.sh.th, .int .i64 x.sh.ix, .int .i64 x.sh.ln, .slice x.pa x.sh.pl.length x.pc]
def flat5 : List ShV → List Value
  | [] => []
  | x :: r => x.cells ++ flat5 r
theorem flat5_length : ∀ l : List ShV, (flat5 l).length = l.length * 5
  | [] => rfl
  | _ :: r => by simp only [flat5, ShV.cells, List.length_append, List.length_cons, List.length_nil, flat5_length r]; omega
theorem flat5_append : ∀ l m : List ShV, flat5 (l ++ m) = flat5 l ++ flat5 m
  | [], _ => rfl
  | x :: r, m => by simp only [List.cons_append, flat5, flat5_append r m, List.append_assoc]
theorem flat5_get : ∀ (l : List ShV) (j k : Nat) (x : ShV), l[j]? = some x → k < 5 → (flat5 l)[j * 5 + k]? = x.cells[k]?
  | [], j, k, x, h, _ => by simp at h
  | y :: r, 0, k, x, h, hk => by
    simp at h; subst h
    rw [Nat.zero_mul, Nat.zero_add]
    exact List.getElem?_append_left (by simpa [ShV.cells] using hk)
  | y :: r, j + 1, k, x, h, hk => by
    have h' := flat5_get r j k x (by simpa using h) hk
    show (y.cells ++ flat5 r)[(j + 1) * 5 + k]? = _
    rw [List.getElem?_append_right (by simp [ShV.cells]; omega), show (j + 1) * 5 + k - y.cells.length = j * 5 + k by simp [ShV.cells]; omega]
    exact h'
theorem flat5_one : ∀ l : List ShV, ∀ u ∈ flat5 l, u.oneCell' = true
  | [], u, h => by cases h
  | x :: r, u, h => by
    rcases List.mem_append.1 h with h | h
    · simp only [ShV.cells, List.mem_cons, List.not_mem_nil, or_false] at h
      rcases h with rfl | rfl | rfl | rfl | rfl <;> rfl
    · exact flat5_one r u h
/-- Five cells set. -/
def set5 (l : List Value) (o : Nat) (x : ShV) : List Value := ((((l.set o (.int .i64 x.sh.fd)).set (o + 1) (.int .i64 x.sh.th)).set (o + 2) (.int .i64 x.sh.ix)).set (o + 3) (.int .i64 x.sh.ln)).set (o + 4) (.slice x.pa x.sh.pl.length x.pc)
theorem flat5_set : ∀ (l : List ShV) (j : Nat) (x : ShV), j < l.length → flat5 (l.set j x) = set5 (flat5 l) (j * 5) x
  | [], j, x, h => by simp at h
  | y :: r, 0, x, _ => by
    simp [flat5, set5, ShV.cells]
  | y :: r, j + 1, x, h => by
    have h' := flat5_set r j x (by simpa using h)
    rw [List.set_cons_succ]
    show y.cells ++ flat5 (r.set j x) = set5 (y.cells ++ flat5 r) ((j + 1) * 5) x
    rw [h']
    have g : ∀ (t : List Value) (o : Nat) (u : Value), (y.cells ++ t).set (o + 5) u = y.cells ++ t.set o u := fun t o u => by
      rw [List.set_append_right _ _ (by simp [ShV.cells])]; rfl
    unfold set5
    rw [show (j + 1) * 5 = j * 5 + 5 by omega, show j * 5 + 5 + 1 = j * 5 + 1 + 5 by omega, show j * 5 + 5 + 2 = j * 5 + 2 + 5 by omega, show j * 5 + 5 + 3 = j * 5 + 3 + 5 by omega, show j * 5 + 5 + 4 = j * 5 + 4 + 5 by omega, g, g, g, g, g]
/-- A share's payload lies in memory, within S. -/
def PlAt (w : World) (x : ShV) (S : Nat → Prop) : Prop := x.sh.ok ∧ x.sh.pl.length ≤ x.pc ∧ VsAt w (.slice x.pa x.sh.pl.length x.pc) x.sh.pl S
theorem PlAt.off {w w' : World} {x : ShV} {S S' : Nat → Prop} (h : PlAt w x S) (ho : Off S' w w') (hd : ∀ k, k < w.heap.size → S k → ¬ S' k) : PlAt w' x S := ⟨h.1, h.2.1, h.2.2.off ho hd⟩
/-- The slice holds the shares L. -/
def SvsAt (w : World) (v : Value) (L : List ShV) (S : Nat → Prop) : Prop :=
  ∃ a cap, v = .slice a L.length cap ∧ L.length ≤ cap ∧ (0 < L.length → ∃ b off, a = some ⟨b, off, none⟩ ∧ S b ∧ ∀ j x k u, L[j]? = some x → x.cells[k]? = some u → w.cell? ⟨b, off + j * 5 + k, none⟩ = some u)
theorem VsAt.wide {w : World} {v : Value} {xs : List Nat} {S S' : Nat → Prop} (h : VsAt w v xs S) (hs : ∀ k, k < w.heap.size → S k → S' k) : VsAt w v xs S' := by
  obtain ⟨a, cap, hv, h1, h2, h4⟩ := h
  refine ⟨a, cap, hv, h1, h2, fun hp => ?_⟩
  obtain ⟨b, off, ha, hS, hc⟩ := h4 hp
  obtain ⟨e, he⟩ : ∃ e, xs[0]? = some e := ⟨xs[0], List.getElem?_eq_getElem hp⟩
  exact ⟨b, off, ha, hs b (World.block_lt_of_cell? w _ (hc 0 e he).1) hS, hc⟩
theorem cells5_of {w : World} {b o : Nat} {x : ShV} (h0 : w.cell? ⟨b, o, none⟩ = some (.int .i64 x.sh.fd)) (h1 : w.cell? ⟨b, o + 1, none⟩ = some (.int .i64 x.sh.th)) (h2 : w.cell? ⟨b, o + 2, none⟩ = some (.int .i64 x.sh.ix)) (h3 : w.cell? ⟨b, o + 3, none⟩ = some (.int .i64 x.sh.ln)) (h4 : w.cell? ⟨b, o + 4, none⟩ = some (.slice x.pa x.sh.pl.length x.pc)) {k : Nat} {u : Value} (hu : x.cells[k]? = some u) : w.cell? ⟨b, o + k, none⟩ = some u := by
  match k, hu with
  | 0, hu => simp [ShV.cells] at hu; subst hu; exact h0
  | 1, hu => simp [ShV.cells] at hu; subst hu; exact h1
  | 2, hu => simp [ShV.cells] at hu; subst hu; exact h2
  | 3, hu => simp [ShV.cells] at hu; subst hu; exact h3
  | 4, hu => simp [ShV.cells] at hu; subst hu; exact h4
  | n + 5, hu => simp [ShV.cells] at hu
/-- Shares in memory, with the slices of their payloads. -/
theorem ShsAt.lift {w : World} {a : Option Addr} {n cap : Nat} {l : List Sh} {S : Nat → Prop} (h : ShsAt w (.slice a n cap) l S) :
    ∃ L : List ShV, L.map ShV.sh = l ∧ n = L.length ∧ n ≤ maxLen ∧ SvsAt w (.slice a n cap) L S ∧ ∀ x ∈ L, PlAt w x S := by
  obtain ⟨a', cap', e, hc, h1, h2, h4⟩ := h
  simp at e
  obtain ⟨rfl, rfl, rfl⟩ := e
  rcases Nat.eq_zero_or_pos l.length with h0 | hp
  · obtain rfl : l = [] := List.eq_nil_of_length_eq_zero h0
    exact ⟨[], rfl, rfl, h1, ⟨a, cap, rfl, hc, fun h => by simp at h⟩, fun _ h => by cases h⟩
  · obtain ⟨b, off, ha, hS, hat⟩ := h4 hp
    have H : ∀ j, j < l.length → ∃ x : ShV, l[j]? = some x.sh ∧ (∀ k u, x.cells[k]? = some u → w.cell? ⟨b, off + j * 5 + k, none⟩ = some u) ∧ PlAt w x S := by
      intro j hj
      have hx : l[j]? = some l[j] := List.getElem?_eq_getElem hj
      obtain ⟨c0, c1, c2, c3, pa, pc, c4, hpc, hV⟩ := hat j _ hx
      exact ⟨⟨l[j], pa, pc⟩, hx, fun k u hu => cells5_of (x := ⟨l[j], pa, pc⟩) c0 c1 c2 c3 c4 hu, h2 _ (List.getElem_mem _), hpc, hV⟩
    obtain ⟨f, hf⟩ : ∃ f : Nat → ShV, ∀ j, j < l.length → l[j]? = some (f j).sh ∧ (∀ k u, (f j).cells[k]? = some u → w.cell? ⟨b, off + j * 5 + k, none⟩ = some u) ∧ PlAt w (f j) S :=
      ⟨fun j => if h : j < l.length then (H j h).choose else ⟨⟨0, 0, 0, 0, []⟩, none, 0⟩, fun j h => by simp only [h, dif_pos]; exact (H j h).choose_spec⟩
    have hlen : ((List.range l.length).map f).length = l.length := by simp
    refine ⟨(List.range l.length).map f, ?_, hlen.symm, h1, ⟨a, cap, by rw [hlen], by rw [hlen]; exact hc, fun _ => ⟨b, off, ha, hS, fun j x k u hx hu => ?_⟩⟩, fun x hx => ?_⟩
    · apply List.ext_getElem?
      intro j
      rw [List.map_map, List.getElem?_map]
      by_cases hj : j < l.length
      · rw [List.getElem?_eq_getElem (by simpa using hj), (hf j hj).1]; simp
      · rw [List.getElem?_eq_none (by simp; omega), List.getElem?_eq_none (by omega)]; rfl
    · rw [List.getElem?_map] at hx
      obtain ⟨i, hi, rfl⟩ := Option.map_eq_some_iff.1 hx
      have hj : j < l.length := by have := (List.getElem?_eq_some_iff.1 hi).1; simpa using this
      obtain rfl : i = j := by have := (List.getElem?_eq_some_iff.1 hi).2; simpa using this.symm
      exact (hf i hj).2.1 k u hu
    · obtain ⟨i, hi, rfl⟩ := List.mem_map.1 hx
      exact (hf i (List.mem_range.1 hi)).2.2
theorem SvsAt.shs {w : World} {v : Value} {L : List ShV} {S S' : Nat → Prop} (h : SvsAt w v L S) (hm : L.length ≤ maxLen) (hp : ∀ x ∈ L, PlAt w x S) (hs : ∀ k, k < w.heap.size → S k → S' k) : ShsAt w v (L.map ShV.sh) S' := by
  obtain ⟨a, cap, rfl, hc, hx⟩ := h
  refine ⟨a, cap, by simp, by simpa using hc, by simpa using hm, fun s hs' => ?_, fun hpos => ?_⟩
  · obtain ⟨x, hx', rfl⟩ := List.mem_map.1 hs'
    exact (hp x hx').1
  · obtain ⟨b, off, ha, hS, hat⟩ := hx (by simpa using hpos)
    have c0 := hat 0 (L[0]'(by simpa using hpos)) 0 _ (List.getElem?_eq_getElem _) rfl
    refine ⟨b, off, ha, hs b (World.block_lt_of_cell? w _ c0) hS, fun j s hj => ?_⟩
    rw [List.getElem?_map] at hj
    obtain ⟨x, hxj, rfl⟩ := Option.map_eq_some_iff.1 hj
    have hP := hp x (List.mem_of_getElem? hxj)
    exact ⟨hat j x 0 _ hxj rfl, hat j x 1 _ hxj rfl, hat j x 2 _ hxj rfl, hat j x 3 _ hxj rfl, x.pa, x.pc, hat j x 4 _ hxj rfl, hP.2.1, hP.2.2.wide hs⟩
theorem SvsAt.off {w w' : World} {v : Value} {L : List ShV} {S S' : Nat → Prop} (h : SvsAt w v L S) (ho : Off S' w w') (hd : ∀ k, k < w.heap.size → S k → ¬ S' k) : SvsAt w' v L S := by
  obtain ⟨a, cap, hv, hc, hx⟩ := h
  refine ⟨a, cap, hv, hc, fun hp => ?_⟩
  obtain ⟨b, off, ha, hS, hat⟩ := hx hp
  refine ⟨b, off, ha, hS, fun j x k u hj hu => ?_⟩
  have he := hat j x k u hj hu
  exact ho.cell he (hd b (World.block_lt_of_cell? w _ he) hS)
/-- A row of shares of the call's own. -/
def RowS (B : Nat) (W : World) (v : Value) (L : List ShV) : Prop := W.ownsRow B 69 5 v L.length (flat5 L)
theorem RowS.svs {B : Nat} {W : World} {v : Value} {L : List ShV} (h : RowS B W v L) : SvsAt W v L (fun k => B ≤ k ∧ k < W.heap.size) := by
  have h' := h
  rcases h.2 with ⟨rfl, hn⟩ | ⟨g, cap, cur, rfl, hBg, hgc, hnc, hcm, hcs, htake⟩
  · refine ⟨none, 0, by rw [hn], by omega, fun hp => by omega⟩
  · refine ⟨_, cap, rfl, by omega, fun _ => ⟨g, 0, rfl, ⟨hBg, heap_lt hgc⟩, fun j x k u hj hu => ?_⟩⟩
    have hlt := (List.getElem?_eq_some_iff.1 hj).1
    have hk : k < 5 := by have := (List.getElem?_eq_some_iff.1 hu).1; simpa [ShV.cells] using this
    have hc := World.ownsRow.cellAt h' (j * 5 + k) (by omega)
    rw [show 0 + j * 5 + k = j * 5 + k by omega, hc, flat5_get L j k x hj hk, hu]
theorem RowS.off {B : Nat} {W W' : World} {v : Value} {L : List ShV} (h : RowS B W v L) (ho : Off (fun _ => False) W W') : RowS B W' v L := own_off h ho
theorem RowS.base {B B' : Nat} {W : World} {v : Value} {L : List ShV} (h : RowS B W v L) (hb : B' ≤ B) : RowS B' W v L :=
  ⟨h.1, h.2.imp id (fun ⟨g, cap, cur, e, hB, r⟩ => ⟨g, cap, cur, e, Nat.le_trans hb hB, r⟩)⟩
theorem share_info : (Tryd.prog.info? 69).map (fun i => (i.zero, i.size, i.bytes)) = some (some (.agg #[.int .i64 0, .int .i64 0, .int .i64 0, .int .i64 0, .slice none 0 0]), 5, 56) := by kernel_rfl
/-- Shares, or none, put behind a row of shares of the call's own. -/
theorem app_shs {w W : World} {v : Value} {L M : List ShV} (hO : Off (fun _ => False) w W) (h1 : RowS w.heap.size W v L) {sv : Value} {S : Nat → Prop} (h2 : SvsAt W sv M S) (hk : L.length + M.length ≤ 100000) :
    ∃ v' w', (Builtin.append_ #[38, 38] 38 #[v, sv]).run Tryd.prog W = .ok v' w' ∧ RowS w.heap.size w' v' (L ++ M) ∧ Off (fun _ => False) w w' := by
  obtain ⟨i0, hi, hz0, hz1, hz2⟩ := info_parts share_info
  obtain ⟨a, cap, rfl, hl, hat⟩ := h2
  rcases Nat.eq_zero_or_pos M.length with h0 | hp
  · obtain rfl : M = [] := List.eq_nil_of_length_eq_zero h0
    refine ⟨v, W, ?_, by rw [List.append_nil]; exact h1, hO⟩
    have ht := Tryd.underlying38
    rcases h1.2 with ⟨rfl, hn⟩ | ⟨g, cp, cur, rfl, _, _, hnc, _⟩
    · cases a <;> simp [Builtin.append_, run_underlying ht, sizeOf, typeInfo, hi, Builtin.lenOf, Builtin.firstCells, loadCells, loadCellsFrom]
    · cases a <;> simp [Builtin.append_, run_underlying ht, sizeOf, typeInfo, hi, Builtin.lenOf, Builtin.firstCells, hnc, storeCells, loadCells, loadCellsFrom]
  · obtain ⟨b, off, rfl, _, hc⟩ := hat hp
    obtain ⟨v', w', hr, ho, hg, _, hb⟩ := run_append_own_at (P := Tryd.prog) W w.heap.size 38 38 69 i0 _ 5 56 Tryd.underlying38 hi hz0 hz1 hz2 rfl (by decide) v L.length _ h1 ⟨b, off, none⟩ M.length cap (flat5 M) (by rw [flat5_length]) (fun j u hj => by
      have hjl : j < (flat5 M).length := (List.getElem?_eq_some_iff.1 hj).1
      rw [flat5_length] at hjl
      obtain ⟨x, hx⟩ : ∃ x, M[j / 5]? = some x := ⟨_, List.getElem?_eq_getElem (by omega)⟩
      have hg := flat5_get M (j / 5) (j % 5) x hx (by omega)
      rw [show j / 5 * 5 + j % 5 = j by omega, hj] at hg
      have := hc _ x _ u hx hg.symm
      rw [Addr.add_lit]
      rw [show off + j / 5 * 5 + j % 5 = off + j by omega] at this
      exact this) (flat5_one M) (by unfold maxLen; omega) (by omega) hO.size
    refine ⟨v', w', hr, ?_, grown_off hO (Nat.le_refl _) h1 hg⟩
    unfold RowS
    rw [flat5_append, List.length_append]
    exact ho
end Go.Proofs.YtclehgconbdkpaaDoor
