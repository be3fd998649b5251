/-
  Bytes in memory: whole blocks of bytes, and slices of bytes. Plain facts on worlds; no condition.
-/
import Derived.Test.YtpiialjnjfkfeaaDoorBytPlain
import Derived.Test.YtpiialjnjfkfeaaDoorNums
import Derived.Laws.IdiomCopy
import Derived.Laws.MakeOwn
import Derived.Deep.OwnRows
import Derived.Shelf.Bytes.SlEqualAll
import Derived.Shelf.Bytes.SlSmallAll
namespace Go.Proofs.YtpiialjnjfkfeaaDoor
open Go.RowKit

/-- A byte as a value. -/
abbrev u8v (n : Nat) : Value := .int .u8 (n : Int)
/-- The block b holds the bytes xs. -/
def ByBlk (w : World) (b : Nat) (T : TypeId) (xs : List Nat) : Prop := w.heap[b]? = some (.cells (xs.map u8v).toArray T (0, 0))
theorem ByBlk.cell {w : World} {b : Nat} {T : TypeId} {xs : List Nat} (h : ByBlk w b T xs) {j x : Nat} (hj : xs[j]? = some x) : w.cell? ⟨b, j, none⟩ = some (u8v x) := by
  rw [cell_of_heap h, List.getElem?_toArray, List.getElem?_map, hj]; rfl
theorem ByBlk.of {w : World} {b : Nat} {T : TypeId} {xs : List Nat} {Z : Array Value} (h : w.heap[b]? = some (.cells Z T (0, 0))) (hz : Z = (xs.map u8v).toArray) : ByBlk w b T xs := by subst hz; exact h
theorem ByBlk.lt {w : World} {b : Nat} {T : TypeId} {xs : List Nat} (h : ByBlk w b T xs) : b < w.heap.size := heap_lt h
theorem ByBlk.off {w w' : World} {b : Nat} {T : TypeId} {xs : List Nat} {S : Nat → Prop} (h : ByBlk w b T xs) (ho : Off S w w') (hb : ¬ S b) : ByBlk w' b T xs := ho.heap h hb
theorem ByBlk.frozen {w : World} {b : Nat} {T : TypeId} {xs : List Nat} (h : ByBlk w b T xs) (j : Nat) : w.frozen? ⟨b, j, none⟩ = false := frozen_of_heap h j
/-- The cells of a block of eight. -/
theorem ByBlk.cells8 {w : World} {b : Nat} {T : TypeId} {ys : List Nat} (h : ByBlk w b T ys) {x0 x1 x2 x3 x4 x5 x6 x7 : Nat} (e : ys = [x0, x1, x2, x3, x4, x5, x6, x7]) :
    w.cell? ⟨b, 0, none⟩ = some (u8v x0) ∧ w.cell? ⟨b, 1, none⟩ = some (u8v x1) ∧ w.cell? ⟨b, 2, none⟩ = some (u8v x2) ∧ w.cell? ⟨b, 3, none⟩ = some (u8v x3) ∧ w.cell? ⟨b, 4, none⟩ = some (u8v x4) ∧ w.cell? ⟨b, 5, none⟩ = some (u8v x5) ∧ w.cell? ⟨b, 6, none⟩ = some (u8v x6) ∧ w.cell? ⟨b, 7, none⟩ = some (u8v x7) := by
  subst e
  exact ⟨h.cell rfl, h.cell rfl, h.cell rfl, h.cell rfl, h.cell rfl, h.cell rfl, h.cell rfl, h.cell rfl⟩
theorem ByBlk.store {w : World} {b : Nat} {T : TypeId} {xs : List Nat} (h : ByBlk w b T xs) (j v : Nat) : ByBlk (w.setCell ⟨b, j, none⟩ (u8v v)) b T (xs.set j v) := by
  have := heap_set h j (u8v v)
  unfold ByBlk
  rw [this]
  congr 2
  apply Array.ext'
  simp [List.map_set]
theorem ByBlk.copy {w : World} {b : Nat} {T : TypeId} {xs : List Nat} (h : ByBlk w b T xs) (o : Nat) (vs : List Nat) (ho : o + vs.length ≤ xs.length) : ByBlk (w.setCells b o (vs.map u8v)) b T (xs.take o ++ vs ++ xs.drop (o + vs.length)) := by
  unfold ByBlk at h ⊢
  have e : xs.map u8v = (xs.take o).map u8v ++ ((xs.drop o).take vs.length).map u8v ++ (xs.drop (o + vs.length)).map u8v := by
    rw [← List.map_append, ← List.map_append, List.append_assoc, ← List.drop_drop, List.take_append_drop, List.take_append_drop]
  rw [e] at h
  have := setCells_mid (vs.map u8v) ((xs.take o).map u8v) (((xs.drop o).take vs.length).map u8v) ((xs.drop (o + vs.length)).map u8v) w o (by simp; omega) (by simp; omega) h
  rw [this]
  simp
theorem ByBlk.make {w : World} {n : Nat} {T : TypeId} : ByBlk (w.alloc (.cells (Array.replicate n (.int .u8 0)) T)) w.heap.size T (List.replicate n 0) := by
  unfold ByBlk
  rw [heap_new' rfl _]
  congr 2
  apply Array.ext'
  simp

/-- The slice address a holds the bytes bs; they lie within S. -/
def BsAt (w : World) (a : Option Addr) (bs : List Nat) (S : Nat → Prop) : Prop :=
  0 < bs.length → ∃ b off, a = some ⟨b, off, none⟩ ∧ S b ∧ ∀ j x, bs[j]? = some x → w.cell? ⟨b, off + j, none⟩ = some (u8v x)
theorem BsAt.off {w w' : World} {a : Option Addr} {bs : List Nat} {S S' : Nat → Prop} (h : BsAt w a bs S) (ho : Off S' w w') (hd : ∀ k, k < w.heap.size → S k → ¬ S' k) : BsAt w' a bs S := fun hp => by
  obtain ⟨b, off, ha, hS, hc⟩ := h hp
  refine ⟨b, off, ha, hS, fun j x hj => ?_⟩
  have := hc j x hj
  exact ho.cell this (hd b (World.block_lt_of_cell? w _ this) hS)
theorem BsAt.mono {w : World} {a : Option Addr} {bs : List Nat} {S S' : Nat → Prop} (h : BsAt w a bs S) (hs : ∀ k, k < w.heap.size → S k → S' k) : BsAt w a bs S' := fun hp => by
  obtain ⟨b, off, ha, hS, hc⟩ := h hp
  refine ⟨b, off, ha, hs b ?_ hS, hc⟩
  exact World.block_lt_of_cell? w _ (hc 0 bs[0] (List.getElem?_eq_getElem hp))
theorem BsAt.old {w : World} {a : Option Addr} {bs : List Nat} {S : Nat → Prop} (h : BsAt w a bs S) : BsAt w a bs (fun k => k < w.heap.size) := h.mono fun _ hk _ => hk
theorem BsAt.later {w w' : World} {a : Option Addr} {bs : List Nat} {S : Nat → Prop} (h : BsAt w a bs S) (ho : Off (fun k => w.heap.size ≤ k) w w') : BsAt w' a bs (fun k => k < w.heap.size) := h.old.off ho (fun _ h1 _ h3 => absurd h1 (Nat.not_lt.2 h3))
theorem BsAt.of_blk {w : World} {b : Nat} {T : TypeId} {xs : List Nat} {S : Nat → Prop} (h : ByBlk w b T xs) (hS : S b) : BsAt w (some ⟨b, 0, none⟩) xs S := fun _ => ⟨b, 0, rfl, hS, fun j x hj => by rw [Nat.zero_add]; exact h.cell hj⟩
theorem BsAt.nil (w : World) (a : Option Addr) (S : Nat → Prop) : BsAt w a [] S := fun h => by simp at h
theorem BsAt.take {w : World} {a : Option Addr} {bs : List Nat} {S : Nat → Prop} (h : BsAt w a bs S) (k : Nat) : BsAt w a (bs.take k) S := fun hp => by
  obtain ⟨b, off, ha, hS, hc⟩ := h (by simp at hp; omega)
  refine ⟨b, off, ha, hS, fun j x hj => hc j x ?_⟩
  rw [List.getElem?_take] at hj
  split at hj
  · exact hj
  · simp at hj
theorem BsAt.drop {w : World} {b off : Nat} {bs : List Nat} {S : Nat → Prop} (h : BsAt w (some ⟨b, off, none⟩) bs S) (k : Nat) : BsAt w (some ⟨b, off + k, none⟩) (bs.drop k) S := fun hp => by
  obtain ⟨b', off', ha, hS, hc⟩ := h (by simp at hp; omega)
  simp at ha
  obtain ⟨rfl, rfl⟩ := ha
  refine ⟨_, _, rfl, hS, fun j x hj => ?_⟩
  rw [List.getElem?_drop] at hj
  have := hc _ x hj
  rwa [← Nat.add_assoc] at this
/-- The slice value v holds the bytes bs, wherever. -/
def SvAt (w : World) (v : Value) (bs : List Nat) : Prop := ∃ a n cap, v = .slice a n cap ∧ n = bs.length ∧ n ≤ cap ∧ BsAt w a bs (fun _ => True)
theorem SvAt.off {w w' : World} {v : Value} {bs : List Nat} (h : SvAt w v bs) (ho : Off (fun _ => False) w w') : SvAt w' v bs := by
  obtain ⟨a, n, cap, h1, h2, h4, h3⟩ := h
  exact ⟨a, n, cap, h1, h2, h4, h3.off ho (fun _ _ _ c => c)⟩
/-- The bytes as the shelf has them. -/
theorem BsAt.bytesIn {w : World} {a : Option Addr} {bs : List Nat} {S : Nat → Prop} (h : BsAt w a bs S) {n : Nat} (hn : n = bs.length) : Lib.BytesIn w a n (bs.map (fun x : Nat => (x : Int))) := fun hp => by
  subst hn
  obtain ⟨b, off, ha, _, hc⟩ := h hp
  refine ⟨b, off, ha, fun i hi => ?_⟩
  rw [hc i bs[i] (List.getElem?_eq_getElem hi)]
  simp [List.getElem?_eq_getElem hi]
/-- 'copy' of the bytes of a slice into a block. -/
theorem run_copy_bytes {T ty : TypeId} (hu : Tryd.prog.underlying T = some (.slice 5)) {w : World} {b o dLen dCap n c : Nat} {a : Option Addr} {bs xs : List Nat} {S : Nat → Prop} {TB : TypeId} (h : BsAt w a bs S) (hn : n = bs.length) (hb : ByBlk w b TB xs) (hd : n ≤ dLen) (ho : o + n ≤ xs.length) :
    (Builtin.copy_ #[T, T] ty #[.slice (some ⟨b, o, none⟩) dLen dCap, .slice a n c]).run Tryd.prog w = .ok (.int .i64 (n : Int)) (w.setCells b o (bs.map u8v)) := by
  subst hn
  have hs : (Tryd.prog.info? 5).map (·.size) = some 1 := by kernel_rfl
  rcases Nat.eq_zero_or_pos bs.length with h0 | hp
  · obtain rfl : bs = [] := List.eq_nil_of_length_eq_zero h0
    exact run_copy_none (P := Tryd.prog) w T T ty 5 _ a _ _ 0 c hu hs (by simp)
  · obtain ⟨b', off, rfl, _, hc⟩ := h hp
    have hr := run_copy_cells (P := Tryd.prog) w T T ty 5 b o dLen dCap ⟨b', off, none⟩ bs.length c (bs.map u8v) hu hs (by rw [List.length_map]; exact (Nat.min_eq_left hd).symm)
      (fun j u hj => by
        rw [List.getElem?_map] at hj
        obtain ⟨x, hx, rfl⟩ := Option.map_eq_some_iff.1 hj
        rw [Addr.add_lit]
        exact hc j x hx)
      (fun j hj => by
        rw [List.length_map] at hj
        rw [hb.cell (List.getElem?_eq_getElem (show o + j < xs.length by omega))]; rfl)
      (fun j _ => hb.frozen _)
      (fun u hu' => by obtain ⟨x, _, rfl⟩ := List.mem_map.1 hu'; rfl)
    rw [List.length_map] at hr
    exact hr
/-- The same, told by what it leaves. -/
theorem copy_bytes {T : TypeId} (hu : Tryd.prog.underlying T = some (.slice 5)) {w : World} {b off dLen dCap n c : Nat} {a : Option Addr} {bs xs : List Nat} {S : Nat → Prop} {TB : TypeId} (h : BsAt w a bs S) (hn : n = bs.length) (hb : ByBlk w b TB xs) (hl : n ≤ dLen) (hx : off + n ≤ xs.length) :
    ∃ w1, (Builtin.copy_ #[T, T] 3 #[.slice (some ⟨b, off, none⟩) dLen dCap, .slice a n c]).run Tryd.prog w = .ok (.int .i64 (n : Int)) w1 ∧ ByBlk w1 b TB (xs.take off ++ bs ++ xs.drop (off + n)) ∧ Off (fun j => j = b) w w1 := by
  refine ⟨_, run_copy_bytes hu h hn hb hl hx, ?_, setCells_off b _ off w⟩
  subst hn
  exact hb.copy off bs hx
theorem byte_info : (Tryd.prog.info? 5).map (fun i => (i.zero, i.size, i.bytes)) = some (some (.int .u8 0), 1, 1) := by kernel_rfl
theorem run_make_by (n : Nat) (hn : n ≤ 100000) (w : World) : (Instr.makeSlice 22 (.int .i64 (n : Int)) (.int .i64 (n : Int))).run Tryd.prog w = .ok (.slice (some ⟨w.heap.size, 0, none⟩) n n) (w.alloc (.cells ((List.replicate n 0).map u8v).toArray 5)) := by
  obtain ⟨i0, hi, hz0, hz1, hz2⟩ := info_parts byte_info
  have := run_make (P := Tryd.prog) w 22 5 i0 _ Tryd.underlying22 hi hz0 .i64 .i64 (n : Int) (n : Int) (by omega) (Int.le_refl _) (by rw [hz2]; omega) (by omega)
  rw [hz1, show (Value.int .u8 0).cells = #[.int .u8 0] from rfl] at this
  have e : madeCells #[.int .u8 0] (n * 1) = ((List.replicate n 0).map u8v).toArray := by
    apply Array.ext'
    apply List.ext_getElem?
    intro j
    by_cases hj : j < n
    · simp [madeCells, hj, Nat.mod_one]
    · rw [List.getElem?_eq_none (by simp [madeCells]; omega), List.getElem?_eq_none (by simp; omega)]
  rw [← e]
  simpa using this
/-- 's[k:]' and 's[:k]' of a slice of bytes. -/
theorem slice_lo (b o n cap k : Nat) (hk : k ≤ n) (hc : k ≠ cap) (W : World) : (Instr.slice 22 (.slice (some ⟨b, o, none⟩) n cap) (some (.int .i64 (k : Int))) none none).run Tryd.prog W = .ok (.slice (some ⟨b, o + k, none⟩) (n - k) (cap - k)) W := by
  have he : Tryd.prog.elem 22 = 5 := by simp [Program.elem, Tryd.underlying22]
  rw [run_slice_l W 22 _ _ _ (by rw [he]; exact Tryd.underlying22) .i64 _ (by omega) (by omega), he, Tryd.sizeOf5]
  simp [Result.andThen, sliced, Addr.add_lit, Ne.symm hc]
theorem slice_hi (b o n cap k : Nat) (hk : k ≤ cap) (W : World) : (Instr.slice 22 (.slice (some ⟨b, o, none⟩) n cap) none (some (.int .i64 (k : Int))) none).run Tryd.prog W = .ok (.slice (some ⟨b, o, none⟩) k cap) W := by
  have he : Tryd.prog.elem 22 = 5 := by simp [Program.elem, Tryd.underlying22]
  rw [run_slice_h W 22 _ _ _ (by rw [he]; exact Tryd.underlying22) .i64 _ (by omega) (by omega), he, Tryd.sizeOf5]
  simp [Result.andThen, sliced, Addr.add_lit]
theorem setCells_offB {S : Nat → Prop} {a u : World} {b : Nat} (h : Off S a u) (hb : b < a.heap.size → S b) (o : Nat) (vs : List Value) : Off S a (u.setCells b o vs) :=
  h.trans (setCells_off b vs o u) (fun _ hk e => by subst e; exact hb hk)
/-- bytes.Equal and bytes.HasPrefix at this seat's numbers. -/
def lays116_ren : Go.Shelf.Ren := ⟨fun | 115 => 14 | n => n, fun | 3 => 3 | 4 => 4 | 5 => 5 | 9 => 9 | 37 => 22 | n => n, fun n => n⟩
theorem lays115 : Go.Proofs.Lays.nb115 Tryd.prog lays116_ren := {
  mixed := by kernel_rfl
  f115 := Tryd.func14.trans (congrArg some (by kernel_rfl))
  t4 := Tryd.underlying4
  a4 := Tryd.isAgg4
  z4 := Tryd.sizeOf4
  v4 := Tryd.zeroValue4
  t9 := Tryd.underlying9
  a9 := Tryd.isAgg9
  z9 := Tryd.sizeOf9
  v9 := Tryd.zeroValue9
  t37 := Tryd.underlying22
  a37 := Tryd.isAgg22
  z37 := Tryd.sizeOf22
  v37 := Tryd.zeroValue22
  t5 := Tryd.underlying5
  a5 := Tryd.isAgg5
  z5 := Tryd.sizeOf5
  v5 := Tryd.zeroValue5 }
/-- bytes.Equal of two slices that hold the same bytes. -/
theorem bequal_any {w : World} {a a' : Option Addr} {n c n' c' : Nat} {bs : List Nat} {S S' : Nat → Prop} (h : BsAt w a bs S) (hn : n = bs.length) (h' : BsAt w a' bs S') (hn' : n' = bs.length) :
    Calls Tryd.prog 14 #[.slice a n c, .slice a' n' c'] w fun e w' => e = .returned (.bool true) ∧ Off (fun _ => False) w w' :=
  (Any.bytes_Equal_all lays115 a a' n c n' c' _ _ w (by simp [hn]) (by simp [hn']) (h.bytesIn hn) (h'.bytesIn hn')).mono fun e w' ⟨he, hw⟩ => ⟨he.trans (by simp), by rw [hw]; exact Off.refl _ _⟩
end Go.Proofs.YtpiialjnjfkfeaaDoor
