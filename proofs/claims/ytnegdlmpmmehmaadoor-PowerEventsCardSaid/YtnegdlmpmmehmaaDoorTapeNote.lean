/-
  Contracts of (*Tape).Note, Len and at over this seat's translation: Note appends the event, Len returns the number of events, at the event at a position. Conditions: the tape lies in memory as TapeAt says and has fewer than 100000 events.
-/
import Derived.Test.YtnegdlmpmmehmaaDoorTapeMem
import Derived.Lib.Hide
namespace Go.Proofs.YtnegdlmpmmehmaaDoor
open Go.RowKit

theorem blk_info : (Tryd.prog.info? 83).map (fun i => i.zero) = some (some (.agg (Array.replicate 192 (.int .i64 0)))) := by kernel_rfl
theorem zero_blk : ∃ Z : Array Value, Z.size = 192 ∧ (∀ w, (zeroValue 83).run Tryd.prog w = .ok (.agg Z) w) := by
  obtain ⟨i, hi, hz⟩ := Option.map_eq_some_iff.1 blk_info
  exact ⟨Array.replicate 192 (.int .i64 0), Array.size_replicate, fun w => by simp [zeroValue, typeInfo, hi, hz]⟩
theorem pblk_info : (Tryd.prog.info? 81).map (fun i => (i.zero, i.size, i.bytes)) = some (some (.pointer none), 1, 8) := by kernel_rfl

/-- The facts that Note's second half asks of a block of events. -/
theorem blk_cells {w : World} {eb o : Nat} {c : Array Value} {T : TypeId} (h : w.heap[eb]? = some (.cells c T (0, 0))) (ho : o + 2 < c.size) :
    ∃ v0 v1 v2 : Value, w.cell? ⟨eb, o, none⟩ = some v0 ∧ w.cell? ⟨eb, o + 1, none⟩ = some v1 ∧ w.cell? ⟨eb, o + 2, none⟩ = some v2 :=
  ⟨c[o]'(by omega), c[o + 1]'(by omega), c[o + 2]'(by omega), (cell_of_heap h _).trans (Array.getElem?_eq_getElem _), (cell_of_heap h _).trans (Array.getElem?_eq_getElem _), (cell_of_heap h _).trans (Array.getElem?_eq_getElem _)⟩

set_option maxHeartbeats 1000000 in
theorem note_room (b : Nat) (es : List Ev) (S : Nat → Prop) (w : World) (h : TapeAt w b es S) (hl : es.length < 100000) (hr : es.length % 64 ≠ 0) (e : Ev) :
    Calls Tryd.prog 29 #[.pointer (some ⟨b, 0, none⟩), .int .i64 e.1, .int .i64 e.2.1, .int .i64 e.2.2] w fun r w' => r = .returned (.tuple #[]) ∧ TapeAt w' b (es ++ [e]) S ∧ Off S w w' := by
  have hn : need es.length = es.length / 64 + 1 := by unfold need; omega
  unfold TapeAt at h
  rw [hn] at h
  obtain ⟨g, cap, eb, c, hb, c2, hc, hz, hbe, hfin⟩ := h.room
  obtain ⟨m, hm⟩ : ∃ m, m = es.length := ⟨_, rfl⟩
  rw [← hm] at hfin hb c2 hl hr
  have HF := Lib.hid (hfin e ((m : Int) + 1) rfl)
  have hr' : ((m : Int) % 64 == 0) = false := by simp; omega
  have c0 : w.cell? ⟨b, 0, none⟩ = some (.slice (some ⟨g, 0, none⟩) (m / 64 + 1) cap) := cell_of_heap hb 0
  have c1 : w.cell? ⟨b, 1, none⟩ = some (.int .i64 m) := cell_of_heap hb 1
  have f1 : w.frozen? ⟨b, 1, none⟩ = false := frozen_of_heap hb 1
  obtain ⟨v0, v1, v2, e0, e1, e2⟩ := blk_cells (o := m % 64 * 3) hc (by omega)
  have g0 := frozen_of_heap hc (m % 64 * 3)
  have g1 := frozen_of_heap hc (m % 64 * 3 + 1)
  have g2 := frozen_of_heap hc (m % 64 * 3 + 2)
  obtain ⟨nb, hnb⟩ : ∃ nb, nb = m / 64 + 1 := ⟨_, rfl⟩
  rw [← hnb] at c0
  have hqn : m / 64 < nb := by omega
  have hnl : nb ≤ 100000 := by omega
  obtain ⟨ek, ea, eo⟩ := e
  clear hfin hc hz hb h hm hn hnb
  go_enter Tryd.func29, Tryd.ntmps29
  go_wp2
  go_region
  go_wp2
  go_end0
  exact ⟨rfl, HF.out⟩

set_option maxHeartbeats 2000000 in
theorem note_full (b : Nat) (es : List Ev) (S : Nat → Prop) (w : World) (h : TapeAt w b es S) (hl : es.length < 100000) (hr : es.length % 64 = 0) (e : Ev) :
    Calls Tryd.prog 29 #[.pointer (some ⟨b, 0, none⟩), .int .i64 e.1, .int .i64 e.2.1, .int .i64 e.2.2] w fun r w' => r = .returned (.tuple #[]) ∧ TapeAt w' b (es ++ [e]) (fun k => S k ∨ w.heap.size ≤ k) ∧ Off S w w' := by
  have hn : need es.length = es.length / 64 := by unfold need; omega
  unfold TapeAt at h
  rw [hn] at h
  obtain ⟨sv, ebs, h1, h2, h3, h4, h5, h6, h7, h8⟩ := h
  obtain ⟨a0, n0, cap0, rfl⟩ : ∃ (a0 : Option Addr) (n0 cap0 : Nat), sv = .slice a0 n0 cap0 := by
    rcases h3.2 with ⟨rfl, _⟩ | ⟨g, cap, cur, rfl, _⟩ <;> exact ⟨_, _, _, rfl⟩
  obtain ⟨Z, hZ, hzero⟩ := zero_blk
  have hZn : ¬ Z = #[] := by rintro rfl; simp at hZ
  obtain ⟨i0, hi, hz0, hz1, hz2⟩ := info_parts pblk_info
  have hstep := fun (w1 : World) (v' : Value) (o : Obj) hown hg hv => more_step (w := w) (w1 := w1) (v' := v') (o := o) hZ h1 h2 h3 h4 h5 h6 h7 h8 hown hg hv
  have hm : ((es.length : Int) % 64 == 0) = true := by simp; omega
  have HS := Lib.hid hstep
  have hnb := Lib.hid (show es.length / 64 + 1 ≤ 1000000 by omega)
  have c0 : w.cell? ⟨b, 0, none⟩ = some (.slice a0 n0 cap0) := cell_of_heap h1 0
  have c1 : w.cell? ⟨b, 1, none⟩ = some (.int .i64 es.length) := cell_of_heap h1 1
  have hlt := heap_lt h1
  have H3 := Lib.hid h3
  clear hstep h1 h4 h5 h6 h7 h8 hn h3
  obtain ⟨m, hm'⟩ : ∃ m, m = es.length := ⟨_, rfl⟩
  rw [← hm'] at hm c1 hl hr hnb HS H3
  have HM := Lib.hid hm'
  clear hm'
  obtain ⟨ek, ea, eo⟩ := e
  go_enter Tryd.func29, Tryd.ntmps29
  go_wp2_with (at_builtin; refine wpList_append_mine _ rfl _ _ 72 rfl 81 i0 (.pointer none) 8 Tryd.underlying72 hi hz0 hz1 hz2 rfl _ _ _ rfl ((H3.out.alloc _).alloc _) ⟨w.heap.size + 1, 0, none⟩ 1 (.pointer (some ⟨w.heap.size, 0, none⟩)) rfl ?q2 rfl hnb.out (by decide) ?_)
  case q2 => simp [go_sem]
  intro v' w1 hown hgrow hv
  obtain ⟨hb1, ⟨g, cap, rfl, hgb⟩, hT, hO⟩ := HS.out w1 v' _ hown hgrow (by simpa using hv)
  have hlen : es.length = m := HM.out.symm
  have hnb2 : m / 64 + 1 = es.length / 64 + 1 := by rw [hlen]
  rw [hnb2] at hT
  obtain ⟨g', cap', eb, c, hb, c2, hc, hz, hbe, hfin⟩ := hT.room
  rw [hlen] at hb c2 hfin
  have HF := Lib.hid (hfin (ek, ea, eo) ((m : Int) + 1) rfl)
  have HO := Lib.hid hO
  have hset := heap_set hb1 0 (.slice (some ⟨g, 0, none⟩) (m / 64 + 1) cap)
  rw [hb] at hset
  obtain ⟨rfl, rfl⟩ : g' = g ∧ cap' = cap := by simpa using hset
  have s : ∀ k o, k ≠ b → (w1.setCell ⟨b, 0, none⟩ (.slice (some ⟨g', 0, none⟩) (m / 64 + 1) cap')).cell? ⟨k, o, none⟩ = w1.cell? ⟨k, o, none⟩ := fun k o hk => World.cell?_of_block (a := ⟨k, o, none⟩) (Below.heap_setCell _ _ _ _ hk)
  have c0 : w1.cell? ⟨b, 0, none⟩ = some (.slice a0 n0 cap0) := cell_of_heap hb1 0
  have c1 : w1.cell? ⟨b, 1, none⟩ = some (.int .i64 m) := cell_of_heap hb1 1
  have f0 : w1.frozen? ⟨b, 0, none⟩ = false := frozen_of_heap hb1 0
  have f1 : w1.frozen? ⟨b, 1, none⟩ = false := frozen_of_heap hb1 1
  rw [s _ _ hgb] at c2
  have hc1 : w1.heap[eb]? = some (.cells c 83 (0, 0)) := by rw [← hc]; exact (Below.heap_setCell _ _ _ _ (Ne.symm hbe)).symm
  obtain ⟨v0, v1, v2, e0, e1, e2⟩ := blk_cells (o := m % 64 * 3) hc1 (by omega)
  have g0 := frozen_of_heap hc1 (m % 64 * 3)
  have g1 := frozen_of_heap hc1 (m % 64 * 3 + 1)
  have g2 := frozen_of_heap hc1 (m % 64 * 3 + 2)
  obtain ⟨nb, hnb'⟩ : ∃ nb, nb = m / 64 + 1 := ⟨_, rfl⟩
  rw [← hnb'] at HF HO ⊢
  have hqn : m / 64 < nb := by omega
  have hnl : nb ≤ 100000 := by omega
  have hgb2 := Ne.symm hgb
  have hbe2 := Ne.symm hbe
  clear hb1 hT hO hb hc hz hfin hset s hc1 hnb' hnb2 hlen hown hgrow hv HS H3 hi hz0 hz1 hz2 hr hm
  go_wp2
  go_region
  go_wp2
  go_end0
  exact ⟨rfl, HF.out.1, HO.out.trans HF.out.2 (fun k hk c => c.elim id (fun h => absurd hk (by omega)))⟩

theorem note_any (b : Nat) (es : List Ev) (S : Nat → Prop) (w : World) (h : TapeAt w b es S) (hl : es.length < 100000) (e : Ev) :
    Calls Tryd.prog 29 #[.pointer (some ⟨b, 0, none⟩), .int .i64 e.1, .int .i64 e.2.1, .int .i64 e.2.2] w fun r w' => r = .returned (.tuple #[]) ∧ TapeAt w' b (es ++ [e]) (fun k => S k ∨ w.heap.size ≤ k) ∧ Off S w w' := by
  by_cases hr : es.length % 64 = 0
  · exact note_full b es S w h hl hr e
  · exact (note_room b es S w h hl hr e).mono fun r w' ⟨h1, h2, h3⟩ => ⟨h1, TapeG.mono h2 (fun _ _ => .inl), h3⟩

set_option maxHeartbeats 400000 in
theorem note_nil (x y z : Int) (w : World) :
    Calls Tryd.prog 29 #[.pointer none, .int .i64 x, .int .i64 y, .int .i64 z] w fun r w' => r = .returned (.tuple #[]) ∧ w = w' := by
  go_enter Tryd.func29, Tryd.ntmps29
  go_wp2
  first | (go_end0; exact ⟨rfl, rfl⟩) | (refine bodyPost_ret (results_none rfl _ _ _) rfl ?_; exact ⟨rfl, rfl⟩)

/-- A tape as a value: nil, which is empty, or a tape in memory. -/
def TapeV (w : World) (v : Value) (es : List Ev) (S : Nat → Prop) : Prop := (v = .pointer none ∧ es = []) ∨ ∃ b, v = .pointer (some ⟨b, 0, none⟩) ∧ TapeAt w b es S
theorem TapeV.off {w w' : World} {v : Value} {es : List Ev} {S S' : Nat → Prop} (h : TapeV w v es S) (ho : Off S' w w') (hd : ∀ k, k < w.heap.size → S k → ¬ S' k) : TapeV w' v es S := by
  rcases h with h | ⟨b, hv, ht⟩
  · exact .inl h
  · exact .inr ⟨b, hv, ht.off ho hd⟩
theorem TapeV.mono {w : World} {v : Value} {es : List Ev} {S S' : Nat → Prop} (h : TapeV w v es S) (hs : ∀ k, k < w.heap.size → S k → S' k) : TapeV w v es S' := by
  rcases h with h | ⟨b, hv, ht⟩
  · exact .inl h
  · exact .inr ⟨b, hv, ht.mono hs⟩

set_option maxHeartbeats 400000 in
theorem len_some (b : Nat) (n : Int) (w : World) (h : w.cell? ⟨b, 1, none⟩ = some (.int .i64 n)) :
    Calls Tryd.prog 58 #[.pointer (some ⟨b, 0, none⟩)] w fun r w' => r = .returned (.int .i64 n) ∧ w = w' := by
  go_enter Tryd.func58, Tryd.ntmps58
  go_wp2
  go_ret
  exact ⟨rfl, rfl⟩
set_option maxHeartbeats 400000 in
theorem len_nil (w : World) :
    Calls Tryd.prog 58 #[.pointer none] w fun r w' => r = .returned (.int .i64 0) ∧ w = w' := by
  go_enter Tryd.func58, Tryd.ntmps58
  go_wp2
  go_ret
  exact ⟨rfl, rfl⟩
theorem len_any (v : Value) (es : List Ev) (S : Nat → Prop) (w : World) (h : TapeV w v es S) :
    Calls Tryd.prog 58 #[v] w fun r w' => r = .returned (.int .i64 (es.length : Int)) ∧ w = w' := by
  rcases h with ⟨rfl, rfl⟩ | ⟨b, rfl, ht⟩
  · exact len_nil w
  · obtain ⟨sv, _, h1, _⟩ := ht.bh
    exact len_some b _ w h1

/-- What a tape's reader meets at position i. -/
theorem TapeG.look {w : World} {b nb : Nat} {es : List Ev} {S : Nat → Prop} (h : TapeG w b es S nb) {i : Nat} {e : Ev} (hi : es[i]? = some e) :
    ∃ g cap eb : Nat, w.cell? ⟨b, 0, none⟩ = some (.slice (some ⟨g, 0, none⟩) nb cap) ∧ w.cell? ⟨g, i / 64, none⟩ = some (.pointer (some ⟨eb, 0, none⟩)) ∧ i / 64 < nb ∧ evAt w eb (i % 64 * 3) e := by
  obtain ⟨sv, ebs, h1, h2, h3, h4, h5, h6, h7, h8⟩ := h
  obtain ⟨eb, he, hv⟩ := h8 i e hi
  have hlt := (List.getElem?_eq_some_iff.1 he).1
  have h3' := h3
  obtain ⟨hl, ⟨rfl, h0⟩ | ⟨g, cap, cur, rfl, _, hg, hn, hm, hs, ht⟩⟩ := h3
  · omega
  · refine ⟨g, cap, eb, cell_of_heap h1 0, ?_, by omega, hv⟩
    have hx : (ebs.map ptr)[i / 64]? = some (ptr eb) := by rw [List.getElem?_map, he]; rfl
    have := h3'.cells (g := g) (by simp [Value.ownBlock]) _ _ hx
    rw [Addr.add_lit] at this
    simpa [ptr] using this

theorem ev_info : (Tryd.prog.info? 76).map (fun i => (i.zero, i.size, i.bytes)) = some (some (.agg #[.int .i64 0, .int .i64 0, .int .i64 0]), 3, 24) := by kernel_rfl

set_option maxHeartbeats 1000000 in
theorem at_cells (b : Nat) (i : Nat) (e : Ev) (g cap nb eb : Nat) (w : World) (hi : i < 200000) (c0 : w.cell? ⟨b, 0, none⟩ = some (.slice (some ⟨g, 0, none⟩) nb cap)) (c1 : w.cell? ⟨g, i / 64, none⟩ = some (.pointer (some ⟨eb, 0, none⟩))) (hn : i / 64 < nb) (hnb : nb < 200000) (hv : evAt w eb (i % 64 * 3) e) :
    Calls Tryd.prog 68 #[.pointer (some ⟨b, 0, none⟩), .int .i64 (i : Int)] w fun r w' => r = .returned e.v ∧ Off (fun _ => False) w w' := by
  obtain ⟨e0, e1, e2⟩ := hv
  obtain ⟨ek, ea, eo⟩ := e
  have b0 : b < w.heap.size := World.block_lt_of_cell? w _ c0
  have b1 : g < w.heap.size := World.block_lt_of_cell? w _ c1
  have b2 : eb < w.heap.size := World.block_lt_of_cell? w _ e0
  go_enter Tryd.func68, Tryd.ntmps68
  go_wp2
  exact bodyPost_ret (v := .agg #[.int .i64 ek, .int .i64 ea, .int .i64 eo]) (by simp [results, Tryd.results68, go_sem]) rfl ⟨rfl, (Off.refl _ w).alloc _⟩

theorem at_any (b : Nat) (es : List Ev) (S : Nat → Prop) (w : World) (h : TapeAt w b es S) (hl : es.length ≤ 100000) (i : Nat) (e : Ev) (hi : es[i]? = some e) :
    Calls Tryd.prog 68 #[.pointer (some ⟨b, 0, none⟩), .int .i64 (i : Int)] w fun r w' => r = .returned e.v ∧ Off (fun _ => False) w w' := by
  obtain ⟨g, cap, eb, c0, c1, hn, hv⟩ := TapeG.look h hi
  have hlt := (List.getElem?_eq_some_iff.1 hi).1
  exact at_cells b i e g cap _ eb w (by omega) c0 c1 hn (by unfold need; omega) hv
end Go.Proofs.YtnegdlmpmmehmaaDoor
