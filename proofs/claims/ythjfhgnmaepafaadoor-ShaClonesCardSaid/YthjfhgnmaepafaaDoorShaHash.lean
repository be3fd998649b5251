/-
  A hash in memory: its state, its block, its length; what bytes it stands for. Contracts of New, Len, join. Conditions: as each says.
-/
import Derived.Test.YthjfhgnmaepafaaDoorShaMix
namespace Go.Proofs.YthjfhgnmaepafaaDoor
open Go.RowKit
set_option maxRecDepth 100000
set_option maxHeartbeats 4000000
set_option linter.unusedSimpArgs false
/-- The state after the whole blocks of bs. -/
def stV (bs : List Nat) : W8 := foldB kL hV bs (bs.length / 64)
theorem stV_ok (bs : List Nat) : (stV bs).ok := foldB_ok hV_ok bs _
/-- The hash at p: state, block, length. -/
def Raw (w : World) (p : Nat) (s : W8) (blk : List Nat) (n : Nat) : Prop := blk.length = 64 ∧ HBlk w p 46 s.list (blk.map u8v ++ [.int .i64 (n : Int)])
/-- The hash at p stands for the bytes bs. -/
def HashAt (w : World) (p : Nat) (bs : List Nat) : Prop := Sm bs ∧ ∃ blk, Sm blk ∧ Raw w p (stV bs) blk bs.length ∧ blk.take (bs.length % 64) = bs.drop (64 * (bs.length / 64))
theorem Raw.off {w w' : World} {p : Nat} {s : W8} {blk : List Nat} {n : Nat} {S : Nat → Prop} (h : Raw w p s blk n) (ho : Off S w w') (hb : ¬ S p) : Raw w' p s blk n := ⟨h.1, h.2.off ho hb⟩
theorem HashAt.off {w w' : World} {p : Nat} {bs : List Nat} {S : Nat → Prop} (h : HashAt w p bs) (ho : Off S w w') (hb : ¬ S p) : HashAt w' p bs := by
  obtain ⟨hs, blk, h1, h2, h3⟩ := h
  exact ⟨hs, blk, h1, h2.off ho hb, h3⟩
theorem HashAt.lt {w : World} {p : Nat} {bs : List Nat} (h : HashAt w p bs) : p < w.heap.size := by
  obtain ⟨_, blk, _, h2, _⟩ := h
  exact heap_lt h2.2
theorem Raw.len {w : World} {p : Nat} {s : W8} {blk : List Nat} {n : Nat} (h : Raw w p s blk n) : w.cell? ⟨p, 72, none⟩ = some (.int .i64 (n : Int)) := by
  have hl := h.1
  rw [cell_of_heap h.2, List.getElem?_toArray, List.getElem?_append_right (by simp [W8.list]), List.length_map, show s.list.length = 8 from rfl, List.getElem?_append_right (by rw [List.length_map, hl]; decide), List.length_map, hl]
  rfl
theorem Raw.byte {w : World} {p : Nat} {s : W8} {blk : List Nat} {n : Nat} (h : Raw w p s blk n) {j x : Nat} (hj : blk[j]? = some x) : w.cell? ⟨p, 8 + j, none⟩ = some (u8v x) := by
  have hlt := (List.getElem?_eq_some_iff.1 hj).1
  rw [cell_of_heap h.2, List.getElem?_toArray, List.getElem?_append_right (by simp [W8.list]), List.length_map, show s.list.length = 8 from rfl, Nat.add_sub_cancel_left, List.getElem?_append_left (by rw [List.length_map]; exact hlt), List.getElem?_map, hj]
  rfl
theorem Raw.setLen {w : World} {p : Nat} {s : W8} {blk : List Nat} {n : Nat} (h : Raw w p s blk n) (m : Nat) : Raw (w.setCell ⟨p, 72, none⟩ (.int .i64 (m : Int))) p s blk m := by
  refine ⟨h.1, ?_⟩
  have := heap_set h.2 72 (Value.int .i64 (m : Int))
  unfold HBlk
  rw [this]
  congr 2
  apply Array.ext'
  rw [Array.toList_setIfInBounds]
  show (s.list.map u32v ++ (blk.map u8v ++ [Value.int .i64 (n : Int)])).set 72 _ = _
  rw [List.set_append_right _ _ (by simp [W8.list]), List.length_map, show s.list.length = 8 from rfl, List.set_append_right _ _ (by rw [List.length_map, h.1]; decide), List.length_map, h.1]
  rfl
theorem Raw.fill {w : World} {p : Nat} {s : W8} {blk : List Nat} {n : Nat} (h : Raw w p s blk n) (r : Nat) (ys : List Nat) (hr : r + ys.length ≤ 64) : Raw (w.setCells p (8 + r) (ys.map u8v)) p s (blk.take r ++ ys ++ blk.drop (r + ys.length)) n := by
  have hl := h.1
  refine ⟨by simp; omega, ?_⟩
  have e : s.list.map u32v ++ (blk.map u8v ++ [.int .i64 (n : Int)]) = (s.list.map u32v ++ (blk.take r).map u8v) ++ ((blk.drop r).take ys.length).map u8v ++ ((blk.drop (r + ys.length)).map u8v ++ [.int .i64 (n : Int)]) := by
    have : blk = blk.take r ++ ((blk.drop r).take ys.length ++ blk.drop (r + ys.length)) := by
      rw [← List.drop_drop, List.take_append_drop, List.take_append_drop]
    conv => lhs; rw [this]
    simp [List.append_assoc]
  have h2 := h.2
  unfold HBlk at h2 ⊢
  rw [e] at h2
  have := setCells_mid (ys.map u8v) (s.list.map u32v ++ (blk.take r).map u8v) (((blk.drop r).take ys.length).map u8v) ((blk.drop (r + ys.length)).map u8v ++ [.int .i64 (n : Int)]) w (8 + r) (by simp [W8.list]; omega) (by simp; omega) h2
  rw [this]
  simp [List.append_assoc]
/-- What one round of Write leaves, if the block is not full. -/
theorem fill_part {bs blk ys : List Nat} {r q : Nat} (hr : r = bs.length % 64) (hq : q = bs.length / 64) (hb : blk.length = 64) (ht : blk.take r = bs.drop (64 * q)) (hy : r + ys.length < 64) :
    stV (bs ++ ys) = stV bs ∧ (blk.take r ++ ys ++ blk.drop (r + ys.length)).take ((bs ++ ys).length % 64) = (bs ++ ys).drop (64 * ((bs ++ ys).length / 64)) := by
  have e1 : (bs ++ ys).length / 64 = q := by rw [List.length_append]; omega
  have e2 : (bs ++ ys).length % 64 = r + ys.length := by rw [List.length_append]; omega
  have hl : (blk.take r).length = r := by rw [List.length_take]; omega
  constructor
  · unfold stV
    rw [e1, ← hq]
    exact foldB_app kL hV bs ys q (by omega)
  · rw [e1, e2, List.drop_append_of_le_length (by omega), ← ht, List.take_append_of_le_length (by rw [List.length_append, hl]; exact Nat.le_refl _)]
    rw [List.take_of_length_le (by rw [List.length_append, hl]; exact Nat.le_refl _)]
/-- .. and if it is full. -/
theorem fill_full {bs blk ys : List Nat} {r q : Nat} (hr : r = bs.length % 64) (hq : q = bs.length / 64) (hb : blk.length = 64) (ht : blk.take r = bs.drop (64 * q)) (hy : r + ys.length = 64) :
    stV (bs ++ ys) = blkV (stV bs) kL (blk.take r ++ ys ++ blk.drop (r + ys.length)) ∧ (bs ++ ys).length % 64 = 0 ∧ (bs ++ ys).drop (64 * ((bs ++ ys).length / 64)) = [] := by
  have e1 : (bs ++ ys).length / 64 = q + 1 := by rw [List.length_append]; omega
  have e2 : (bs ++ ys).length % 64 = 0 := by rw [List.length_append]; omega
  have hl : (blk.take r).length = r := by rw [List.length_take]; omega
  refine ⟨?_, e2, List.drop_eq_nil_of_le (by rw [e1, List.length_append]; omega)⟩
  rw [hy, List.drop_eq_nil_of_le (Nat.le_of_eq hb), List.append_nil]
  unfold stV
  rw [e1, ← hq]
  show blkV (foldB kL hV (bs ++ ys) q) kL _ = _
  rw [foldB_app kL hV bs ys q (by omega), List.drop_append_of_le_length (by omega), ← ht, List.take_of_length_le (by rw [List.length_append, hl]; omega)]
theorem join_any (s : W8) (g : Nat) (TT : TypeId) (rest : List Value) (w : World) (hs : s.ok) (hG : HBlk w g TT s.list rest) :
    Calls Tryd.prog 24 #[.pointer (some ⟨g, 0, none⟩)] w fun e w' => e = .returned (.agg ((outB s).map u8v).toArray) ∧ Off (fun _ => False) w w' := by
  obtain ⟨Z, hZ⟩ : ∃ Z : Array Value, Z = #[.int .u8 0, .int .u8 0, .int .u8 0, .int .u8 0, .int .u8 0, .int .u8 0, .int .u8 0, .int .u8 0, .int .u8 0, .int .u8 0, .int .u8 0, .int .u8 0, .int .u8 0, .int .u8 0, .int .u8 0, .int .u8 0, .int .u8 0, .int .u8 0, .int .u8 0, .int .u8 0, .int .u8 0, .int .u8 0, .int .u8 0, .int .u8 0, .int .u8 0, .int .u8 0, .int .u8 0, .int .u8 0, .int .u8 0, .int .u8 0, .int .u8 0, .int .u8 0] := ⟨_, rfl⟩
  have hZw : Z = ((outP s 0).map u8v).toArray := by rw [hZ, outP_zero]; rfl
  obtain ⟨w1, hw1⟩ : ∃ w1, w1 = w.alloc (.cells Z 25) := ⟨_, rfl⟩
  have hR : w1.heap[w.heap.size]? = some (.cells Z 25) := by rw [hw1]; exact heap_new' rfl _
  have ho1 : Off (fun _ => False) w w1 := by rw [hw1]; exact (Off.refl _ w).alloc _
  have hsz : w1.heap.size = w.heap.size + 1 := by rw [hw1]; exact World.size_alloc _ _
  obtain ⟨gl, hgl⟩ : ∃ gl, gl = w1.heap.size := ⟨_, rfl⟩
  obtain ⟨w2, hw2⟩ : ∃ w2, w2 = w1.alloc (.cells Z 25) := ⟨_, rfl⟩
  have hB1 : ByBlk w2 gl 25 (outP s 0) := by rw [hw2, hgl]; exact ByBlk.of (heap_new' rfl _) hZw
  have ho2 : Off (fun _ => False) w1 w2 := by rw [hw2]; exact (Off.refl _ w1).alloc _
  have HZ := Lib.hid hZ
  have HW1 := Lib.hid hw1
  have HW2 := Lib.hid hw2
  have HR := Lib.hid hR
  have HO1 := Lib.hid ho1
  have HO2 := Lib.hid ho2
  have HSZ := Lib.hid hsz
  have HGL := Lib.hid hgl
  have HB1 := Lib.hid hB1
  have HG := Lib.hid hG
  have HS := Lib.hid hs
  clear hZw hw1 hw2 hR ho1 ho2 hsz hB1 hs hZ hgl hG
  go_enter Tryd.func24, Tryd.ntmps24
  go_wp2
  rw [← HZ.out, ← HW1.out, ← HW2.out, ← HSZ.out, ← HGL.out]
  go_loopw [8] (fun i wr => ∃ t : Nat, t ≤ 8 ∧ i = .int .i64 (t : Int) ∧ ByBlk wr gl 25 (outP s (4 * t)) ∧ Off (fun _ => False) w1 wr) (fun i _ => 8 - (intOf i).toNat)
  case atStart => exact ⟨0, by omega, rfl, HB1.out, HO2.out⟩
  case round =>
    obtain ⟨t, ht, rfl, hb, hO⟩ := hrel
    by_cases hlt : t < 8
    · have i1 : decide ((t : Int) < 8) = true := by simp; omega
      have i2 : (t : Int) < 8 := by omega
      have i3 : IntKind.i64.wrap ((t : Int) + 1) = ((t + 1 : Nat) : Int) := by rw [IntKind.wrap_i64]; omega
      obtain ⟨x, hx⟩ : ∃ x, s.list[t]? = some x := ⟨_, List.getElem?_eq_getElem (show t < 8 from hlt)⟩
      have hc0 : wr.cell? ⟨g, t, none⟩ = some (u32v x) := (HO1.out.trans hO (fun _ _ c => c)).cell (HG.out.cell hx) (fun c => c)
      have hxl : x < 4294967296 := W8.list_ws HS.out x (List.mem_of_getElem? hx)
      have HX := Lib.hid hx
      have HB := Lib.hid hb
      have HO := Lib.hid hO
      clear hx hb hO
      obtain ⟨w3, rfl⟩ : ∃ w3, w3 = wr := ⟨_, rfl⟩
      go_upto_region 4 with fail
      go_region
      go_wp2_with fail
      go_loopw [14] (fun i wr => ∃ j : Nat, j ≤ 4 ∧ i = .int .i64 (j : Int) ∧ ByBlk wr gl 25 (outP s (4 * t + j)) ∧ Off (fun _ => False) w1 wr) (fun i _ => 4 - (intOf i).toNat)
      case atStart => exact ⟨0, by omega, rfl, HB.out, HO.out.drew⟩
      case round =>
        obtain ⟨j, hj, rfl, hb, hO⟩ := hrel
        by_cases hlj : j < 4
        · have j1 : decide ((j : Int) < 4) = true := by simp; omega
          have j2 : (j : Int) < 4 := by omega
          have j3 : IntKind.i64.wrap ((j : Int) + 1) = ((j + 1 : Nat) : Int) := by rw [IntKind.wrap_i64]; omega
          have hset := outP_set s (4 * t + j) (by omega)
          rw [show (4 * t + j) / 4 = t by omega, show (4 * t + j) % 4 = j by omega, List.getD_eq_getElem?_getD, HX.out, Option.getD_some] at hset
          have hst := hb.store (4 * t + j) (x / 256 ^ (3 - j) % 256)
          rw [hset] at hst
          have e4 : IntKind.i64.wrap (4 * (t : Int)) = ((4 * t : Nat) : Int) := by rw [IntKind.wrap_i64]; omega
          have e5 : IntKind.i64.wrap (((4 * t : Nat) : Int) + (j : Int)) = ((4 * t + j : Nat) : Int) := by rw [IntKind.wrap_i64]; omega
          have e6 : IntKind.i64.wrap (8 * (j : Int)) = ((8 * j : Nat) : Int) := by rw [IntKind.wrap_i64]; omega
          have e7 : IntKind.i64.wrap (24 - ((8 * j : Nat) : Int)) = ((24 - 8 * j : Nat) : Int) := by rw [IntKind.wrap_i64]; omega
          have e8 : IntKind.u8.wrap ((x : Int) / 2 ^ (24 - 8 * j)) = ((x / 256 ^ (3 - j) % 256 : Nat) : Int) := by
            rw [IntKind.wrap_u8, show (256 : Nat) ^ (3 - j) = 2 ^ (24 - 8 * j) by rw [show (256 : Nat) = 2 ^ 8 by rfl, ← Nat.pow_mul]; congr 1; omega]
            simp
          obtain ⟨m, hm⟩ : ∃ m, m = 24 - 8 * j := ⟨_, rfl⟩
          have hm24 : m ≤ 32 := by omega
          obtain ⟨q, hq⟩ : ∃ q, q = 4 * t + j := ⟨_, rfl⟩
          obtain ⟨q0, hq0⟩ : ∃ q0, q0 = 4 * t := ⟨_, rfl⟩
          obtain ⟨j8, hj8⟩ : ∃ j8, j8 = 8 * j := ⟨_, rfl⟩
          obtain ⟨y, hy⟩ : ∃ y, y = x / 256 ^ (3 - j) % 256 := ⟨_, rfl⟩
          rw [← hq] at e5 hst
          rw [← hq0] at e4 e5
          rw [← hj8] at e6 e7 e8 hm
          rw [← hm] at e7 e8
          rw [← hy] at e8 hst
          have hq32 : (q : Int) < 32 := by omega
          have fz := frozen_of_heap hb q
          have lt := heap_lt hb
          obtain ⟨v0, hv0⟩ : ∃ v0, (outP s (4 * t + j))[q]? = some v0 := ⟨_, List.getElem?_eq_getElem (by rw [outP_length s _ (by omega)]; omega)⟩
          have hc1 := hb.cell hv0
          have HST := Lib.hid (show ByBlk (wr.setCell ⟨gl, q, none⟩ (u8v y)) gl 25 (outP s (4 * t + (j + 1))) by rw [show 4 * t + (j + 1) = q + 1 by omega]; exact hst)
          have HOs := Lib.hid (hO.setCell (p := ⟨gl, q, none⟩) (fun h => by have := HGL.out; simp at h; omega) (u8v y))
          clear hset hst hm hq hq0 hj8 hy hv0 hb hO
          go_wp2_with fail
          go_roundw
          case rel => exact ⟨j + 1, by omega, rfl, HST.out, HOs.out⟩
          case measure => simp [intOf] <;> omega
        · obtain rfl : j = 4 := by omega
          have j1 : decide (((4 : Nat) : Int) < 4) = false := by decide
          have HBn := Lib.hid (show ByBlk wr gl 25 (outP s (4 * (t + 1))) from hb)
          have HOn := Lib.hid hO
          clear hb hO
          go_wp2_with fail
          go_roundw
          case rel => exact ⟨t + 1, by omega, rfl, HBn.out, HOn.out⟩
          case measure => simp [intOf] <;> omega
    · obtain rfl : t = 8 := by omega
      have i1 : decide (((8 : Nat) : Int) < 8) = false := by decide
      rw [show 4 * 8 = 32 from rfl, outP_full] at hb
      obtain ⟨cs, hcs⟩ : ∃ cs, cs = ((outB s).map u8v).toArray := ⟨_, rfl⟩
      have hcz : cs.size = 32 := by rw [hcs]; rfl
      have hi0 : (Tryd.prog.info? 25).map (·.size) = some 32 := by kernel_rfl
      have hi1 : (Tryd.prog.info? 25).map (·.size) = some cs.size := by rw [hcz]; exact hi0
      have hone : cs.all (·.oneCell') = true := by rw [hcs]; simp [Value.oneCell']
      unfold ByBlk at hb
      rw [← hcs] at hb
      have hgR := hO.heap HR.out (fun c => c)
      have hOw : Off (fun _ => False) w wr := HO1.out.trans hO (fun _ _ c => c)
      have hgw := hOw.size
      have hrow := setRow_heap wr w.heap.size _ cs 25 (0, 0) hgR
      have hgrown : wr.grownBy (wr.setRow w.heap.size cs) (some w.heap.size) := ⟨rfl, rfl, rfl, by simp, fun k _ hk => setRow_other wr w.heap.size k _ (fun e => hk (by simp [e]))⟩
      have hOF : Off (fun _ => False) w (wr.setRow w.heap.size cs) := hOw.grown hgrown (fun j ej => by
        cases ej
        refine ⟨fun h => by omega, fun o ho => ?_⟩
        rw [hgR] at ho; cases ho; rfl)
      have hZs : Z.size = cs.size := by rw [hcz, HZ.out]; rfl
      have HCS := Lib.hid hcs
      have HL2 := Lib.hid hb
      have HG' := Lib.hid hgR
      have HROW := Lib.hid hrow
      have HF := Lib.hid hOF
      have HI := Lib.hid hi1
      have HZS := Lib.hid hZs
      have HONE := Lib.hid hone
      clear hb hgR hrow hOF hi1 hi0 hcz hone hcs hO hOw hgrown hZs hgw
      go_wp2_with first | (refine wpList_load_row rfl _ _ rfl _ rfl _ cs (0, 0) _ HL2.out Tryd.underlying25 rfl HI.out ?_) | (refine wpList_store_row rfl _ _ _ rfl _ cs rfl rfl _ _ HG'.out HI.out HZS.out HONE.out ?_) | fail
      refine bodyPost_ret (v := .agg cs) (results_cell_row Tryd.results24 _ _ w.heap.size _ cs (0, 0) _ rfl HROW.out Tryd.underlying25 rfl HI.out) rfl ⟨by rw [HCS.out], HF.out⟩
end Go.Proofs.YthjfhgnmaepafaaDoor
