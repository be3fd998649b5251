/-
  What a region's invariant says of slices of bytes that its calls return. No condition.
  An argument of bytes, opened: whatever slice of bytes the reader reads, its cells lie as BsAt says. No condition.
  Rows of bytes of the call's own, for seats with numbers of four words: bytes, or none, put behind; bytes cloned. Condition: the rows are short.
  Parts of a slice of bytes, for seats with numbers (the same as ShaPart's). Conditions: as each says.
-/
import Derived.Test.YtclehgconbdkpaaDoorBytLow
import Derived.Test.YtclehgconbdkpaaDoorInvAll
import Derived.Test.YtclehgconbdkpaaDoorInvTape
import Derived.Test.YtclehgconbdkpaaDoorLimbWords
import Derived.Deep.Slices
import Derived.Deep.Strs
import Derived.ProofKit
import Derived.Maps.AppendAt
import Derived.Lib.AppendZeros
import Derived.Laws.OwnMore
import Derived.Laws.Cover3
namespace Go.Proofs.YtclehgconbdkpaaDoor
section
open Go.RowKit
/-- Slot value u is a slice of the bytes bs once operation i has been carried out. -/
def Mk (l : Nat → Bool) (i : Nat) (u : Value) (w : World) (bs : List Nat) : Prop := l i = true → SvAt w u bs
theorem Mk.start (i : Nat) (u : Value) (w : World) (bs : List Nat) : Mk (fun _ => false) i u w bs := fun h => by cases h
theorem Mk.new {l : Nat → Bool} {i : Nat} {u : Value} {w : World} {bs : List Nat} (h : SvAt w u bs) : Mk (upd l i) i u w bs := fun _ => h
theorem Mk.keep {l : Nat → Bool} {i : Nat} {u : Value} {w w' : World} {bs : List Nat} (h : Mk l i u w bs) (ho : Off (fun _ => False) w w') {k : Nat} (hk : (k == i) = false) : Mk (upd l k) i u w' bs := fun hl => by
  rw [upd_k l hk] at hl; exact (h hl).off ho
/-- The same, until operation d has been carried out. -/
def MkT (l : Nat → Bool) (i d : Nat) (u : Value) (w : World) (bs : List Nat) : Prop := l i = true → l d = false → SvAt w u bs
theorem MkT.start (i d : Nat) (u : Value) (w : World) (bs : List Nat) : MkT (fun _ => false) i d u w bs := fun h => by cases h
theorem MkT.new {l : Nat → Bool} {i d : Nat} {u : Value} {w : World} {bs : List Nat} (h : SvAt w u bs) : MkT (upd l i) i d u w bs := fun _ _ => h
theorem MkT.gone (l : Nat → Bool) (i d : Nat) (u : Value) {w : World} (bs : List Nat) : MkT (upd l d) i d u w bs := fun _ h => by rw [upd_same] at h; cases h
theorem MkT.past {l : Nat → Bool} {i d : Nat} {u : Value} {w : World} {bs : List Nat} (hd : l d = true) {k : Nat} (hk : (k == d) = false) : MkT (upd l k) i d u w bs := fun _ h => by rw [upd_k l hk, hd] at h; cases h
theorem MkT.keep {l : Nat → Bool} {i d : Nat} {u : Value} {w w' : World} {bs : List Nat} (h : MkT l i d u w bs) (ho : Off (fun _ => False) w w') {k : Nat} (hk : (k == i) = false) (hk2 : (k == d) = false) : MkT (upd l k) i d u w' bs := fun hl h2 => by
  rw [upd_k l hk] at hl; rw [upd_k l hk2] at h2; exact (h hl h2).off ho
/-- Slot value u is a slice of n over a new block b, which operation i made. -/
structure MkB (l : Nat → Bool) (i : Nat) (u : Value) (b n : Nat) (W0 w : World) (X : Obj) : Prop where
  ptr : l i = true → u = .slice (some ⟨b, 0, none⟩) n n
  new : l i = true → W0.heap.size ≤ b
  now : l i = true → w.heap[b]? = some X
theorem MkB.start (i : Nat) (u : Value) (b n : Nat) (W0 w : World) (X : Obj) : MkB (fun _ => false) i u b n W0 w X := ⟨fun h => (by cases h), fun h => (by cases h), fun h => (by cases h)⟩
theorem MkB.make {l : Nat → Bool} {i n : Nat} {S : Nat → Prop} {W0 w : World} {X : Obj} (hW : Off S W0 w) : MkB (upd l i) i (.slice (some ⟨w.heap.size, 0, none⟩) n n) w.heap.size n W0 (w.alloc X) X :=
  ⟨fun _ => rfl, fun _ => hW.size, fun _ => heap_new' rfl _⟩
theorem MkB.keep {l : Nat → Bool} {i b n : Nat} {u : Value} {W0 w w' : World} {X : Obj} (h : MkB l i u b n W0 w X) (ho : Off (fun _ => False) w w') {k : Nat} (hk : (k == i) = false) : MkB (upd l k) i u b n W0 w' X := by
  have e := upd_k l hk
  refine ⟨?_, ?_, ?_⟩ <;> rw [e]
  · exact h.ptr
  · exact h.new
  · exact fun a => ho.heap (h.now a) (fun c => c)
theorem MkB.difL {l : Nat → Bool} {i j c n : Nat} {u : Value} {W0 w : World} {X : Obj} (h : MkB l j u c n W0 w X) (hne : (i == j) = false) : Dif (upd l i) i j w.heap.size c := by
  intro _ h2
  rw [upd_k l hne] at h2
  have := heap_lt (h.now h2); omega
theorem MkB.difR {l : Nat → Bool} {i j c n : Nat} {u : Value} {W0 w : World} {X : Obj} (h : MkB l i u c n W0 w X) (hne : (j == i) = false) : Dif (upd l j) i j c w.heap.size := by
  intro h1 _
  rw [upd_k l hne] at h1
  have := heap_lt (h.now h1); omega
theorem Slot.void {l : Nat → Bool} {i j : Nat} {u v : Value} (h : l j = false) (hk : (i == j) = false) : Slot (upd l i) j u v := fun hl => by
  rw [upd_k l hk, h] at hl; cases hl
theorem Dep.via {l : Nat → Bool} {i s : Nat} (h : Dep l i s) (hs : l s = true) : l i = true := by
  cases hi : l i with
  | true => rfl
  | false => rw [h hi] at hs; cases hs
/-- A call that returns a slice of bytes. -/
theorem sv_of_enc {f : FuncId} {args : Array Value} {w : World} {bs : List Nat} (h : Calls Tryd.prog f args w fun e w' => ∃ g, e = .returned (.slice (some ⟨g, 0, none⟩) 32 32) ∧ ByBlk w' g 5 bs ∧ w.heap.size ≤ g ∧ Off (fun _ => False) w w') (hl : bs.length = 32) :
    Calls Tryd.prog f args w fun e w' => ∃ u, e = .returned u ∧ SvAt w' u bs ∧ Off (fun _ => False) w w' :=
  h.mono fun _ _ ⟨_, he, hB, _, hO⟩ => ⟨_, he, ⟨_, _, _, rfl, hl.symm, Nat.le_refl _, BsAt.of_blk hB trivial⟩, hO⟩
end
section
open Go.RowKit Go.ChangeShapes Go.WideShapes Go.ChangeAt Go.Deep
theorem cells_byte : Tryd.prog.cellsOf 5 = 1 := by kernel_rfl
set_option maxRecDepth 100000 in
theorem bytes_of_trod {H : Type} {enc : TypeId × Value → H} {w : World} {spare : Nat → Bool} {held : Bool} {a : Option Addr} {len cap fuel : Nat} {x : DataW H × List MemPlace}
    (h : DataW.trod enc Tryd.prog w 0 spare held fuel 24 [.slice a len cap] = some x) : ∃ xs, len = xs.length ∧ len ≤ cap ∧ Small xs ∧ BsAt w a xs (fun k => k < w.heap.size) := by
  rcases open_slice Tryd.underlying24 h with ⟨hcs, _⟩ | ⟨b, l, c, m, n, D, Pl, hcs, _, hl, hm, hmm, _, hi⟩
  · simp at hcs
    obtain ⟨rfl, rfl, rfl⟩ := hcs
    exact ⟨[], rfl, Nat.le_refl _, fun _ h => (by cases h), BsAt.nil _ _ _⟩
  · simp at hcs
    obtain ⟨rfl, rfl, rfl⟩ := hcs
    have hlm : len ≤ m := by rw [hmm]; split <;> omega
    have H : ∀ i, i < len → ∃ e : Nat, e < 256 ∧ w.cell? (b.add i) = some (.int .u8 (e : Int)) := by
      intro i hil
      obtain ⟨cs', hc, ht⟩ := hi i (by omega)
      rw [cells_byte] at hc
      obtain ⟨_, hlen, hat⟩ := World.cells?_some hc
      match cs', hlen with
      | [v0], _ =>
        obtain ⟨n0, e0, _, q0⟩ := DataW.trod_int Tryd.underlying5 ht
        simp at e0
        subst e0
        have hb := bounds_u8 q0
        obtain ⟨e, rfl⟩ := Int.eq_ofNat_of_zero_le hb.1
        refine ⟨e, by have := hb.2; omega, ?_⟩
        have := hat 0 (by omega); simpa [go_sem] using this
    obtain ⟨f, hf⟩ : ∃ f : Nat → Nat, ∀ i, i < len → f i < 256 ∧ w.cell? (b.add i) = some (.int .u8 (f i : Int)) := by
      refine ⟨fun i => if h : i < len then (H i h).choose else 0, fun i h => ?_⟩
      simp only [h, dif_pos]
      exact (H i h).choose_spec
    refine ⟨(List.range len).map f, by simp, by omega, fun x hx => ?_, fun hp => ?_⟩
    · obtain ⟨i, hi', rfl⟩ := List.mem_map.1 hx
      exact (hf i (List.mem_range.1 hi')).1
    have hp' : 0 < len := by simpa using hp
    obtain ⟨bb, off, spot⟩ := b
    have hspot : spot = none := by simpa [Addr.add] using World.cell?_spot (hf 0 hp').2
    subst hspot
    refine ⟨bb, off, rfl, ?_, fun j e hj => ?_⟩
    · have := (hf 0 hp').2
      rw [Addr.add_lit] at this
      exact World.block_lt_of_cell? w ⟨bb, off + 0, none⟩ this
    · rw [List.getElem?_map] at hj
      obtain ⟨i, hi', rfl⟩ := Option.map_eq_some_iff.1 hj
      have hjl := (List.getElem?_eq_some_iff.1 hi').1
      have : i = j := by
        have h2 := (List.getElem?_eq_some_iff.1 hi').2
        simpa using h2.symm
      subst this
      have hil : i < len := by simpa using hjl
      have c0 := (hf i hil).2
      rw [Addr.add_lit] at c0
      exact c0
end
section
open Go.RowKit
set_option maxRecDepth 100000
set_option maxHeartbeats 4000000
/-- A row of cells of the type T of the call's own. -/
def RowT (T : TypeId) (f : Nat → Value) (B : Nat) (W : World) (v : Value) (xs : List Nat) : Prop := W.ownsRow B T 1 v xs.length (xs.map f)
/-- A row of bytes. -/
abbrev RowY := RowT 5 u8v
section
variable {T : TypeId} {f : Nat → Value} {B : Nat} {W : World} {v : Value} {xs : List Nat}
theorem RowT.nil (W : World) : RowT T f B W (.slice none 0 0) [] := World.ownsRow_nil _ _ _ _
theorem RowT.form (h : RowT T f B W v xs) (hp : 0 < xs.length) : ∃ g cap, v = .slice (some ⟨g, 0, none⟩) xs.length cap ∧ xs.length ≤ cap ∧ B ≤ g ∧ g < W.heap.size ∧ ∀ j x, xs[j]? = some x → W.cell? ⟨g, j, none⟩ = some (f x) := by
  rcases h.2 with ⟨rfl, hn⟩ | ⟨g, cap, cur, rfl, hBg, hgc, hnc, hcm, hcs, htake⟩
  · omega
  · refine ⟨g, cap, rfl, by omega, hBg, heap_lt hgc, fun j x hj => ?_⟩
    have hlt := (List.getElem?_eq_some_iff.1 hj).1
    have hc := World.ownsRow.cellAt h j (by omega)
    rw [hc, List.getElem?_map, hj]; rfl
theorem RowT.shape (h : RowT T f B W v xs) : ∃ a cap, v = .slice a xs.length cap ∧ xs.length ≤ cap := by
  rcases h.2 with ⟨rfl, hn⟩ | ⟨g, cap, cur, rfl, hBg, hgc, hnc, hcm, hcs, htake⟩
  · exact ⟨none, 0, by rw [hn], by omega⟩
  · exact ⟨_, cap, rfl, by omega⟩
theorem RowT.off {W' : World} {S : Nat → Prop} (h : RowT T f B W v xs) (ho : Off S W W') (hd : ∀ k, v.ownBlock = some k → ¬ S k) : RowT T f B W' v xs := by
  obtain ⟨hl, h⟩ := h
  refine ⟨hl, ?_⟩
  rcases h with hn | ⟨g, cap, cur, rfl, hb, hg, r⟩
  · exact .inl hn
  · exact .inr ⟨g, cap, cur, rfl, hb, ho.heap hg (hd g (by simp [Value.ownBlock])), r⟩
theorem RowT.base {B' : Nat} (h : RowT T f B W v xs) (hb : B' ≤ B) : RowT T f B' W v xs :=
  ⟨h.1, h.2.imp id (fun ⟨g, cap, cur, e, hB, r⟩ => ⟨g, cap, cur, e, Nat.le_trans hb hB, r⟩)⟩
end
theorem RowT.at {T : TypeId} {B : Nat} {W : World} {v : Value} {xs : List Nat} (h : RowT T u8v B W v xs) : ∃ a cap, v = .slice a xs.length cap ∧ xs.length ≤ cap ∧ BsAt W a xs (fun k => B ≤ k ∧ k < W.heap.size) := by
  obtain ⟨a, cap, hv, hc⟩ := h.shape
  refine ⟨a, cap, hv, hc, fun hp => ?_⟩
  obtain ⟨g, cap', hv', _, hB, hg, hx⟩ := h.form hp
  rw [hv] at hv'
  cases hv'
  exact ⟨g, 0, rfl, ⟨hB, hg⟩, fun j x hj => by rw [Nat.zero_add]; exact hx j x hj⟩
/-- Bytes put behind a row of bytes. -/
theorem app_bytes {w W : World} {v : Value} {xs ys : List Nat} (hO : Off (fun _ => False) w W) (h1 : RowY w.heap.size W v xs) {a : Option Addr} {n cap : Nat} {S : Nat → Prop} (h2 : BsAt W a ys S) (hn : n = ys.length) (hp : 0 < n) (hk : xs.length + n ≤ 100000) :
    ∃ v' w', (Builtin.append_ #[24, 24] 24 #[v, .slice a n cap]).run Tryd.prog W = .ok v' w' ∧ RowY w.heap.size w' v' (xs ++ ys) ∧ Off (fun _ => False) w w' := by
  obtain ⟨i0, hi, hz0, hz1, hz2⟩ := info_parts byte_info
  obtain ⟨b, off, rfl, _, hc⟩ := h2 (by omega)
  obtain ⟨v', w', hr, ho, hg, _, hb⟩ := run_append_own_at (P := Tryd.prog) W w.heap.size 24 24 5 i0 _ 1 1 Tryd.underlying24 hi hz0 hz1 hz2 rfl (by decide) v xs.length _ h1 ⟨b, off, none⟩ n cap (ys.map u8v) (by rw [List.length_map]; omega) (fun j u hu => by
    rw [List.getElem?_map] at hu
    obtain ⟨y, hy, rfl⟩ := Option.map_eq_some_iff.1 hu
    rw [Addr.add_lit]; exact hc j y hy) (fun u hu => by
    obtain ⟨y, _, rfl⟩ := List.mem_map.1 hu
    rfl) (by unfold maxLen; omega) (by omega) hO.size
  refine ⟨v', w', hr, ?_, ?_⟩
  · unfold RowY RowT
    rw [List.map_append, List.length_append, ← hn]
    exact ho
  · refine hO.grown hg (fun j ej => ?_)
    have hx := (World.ownsRow.lt h1 j ej).1
    refine ⟨fun h => by omega, fun o ho => ?_⟩
    rcases h1.2 with ⟨rfl, _⟩ | ⟨g, cap, cur, rfl, _, hgb, _⟩
    · simp [Value.ownBlock] at ej
    · obtain rfl : g = j := by simpa [Value.ownBlock] using ej
      rw [hgb] at ho; cases ho; rfl
/-- .. none put behind. -/
theorem app_none {w W : World} {v : Value} {xs : List Nat} (h1 : RowY w.heap.size W v xs) (a : Option Addr) (cap : Nat) :
    (Builtin.append_ #[24, 24] 24 #[v, .slice a 0 cap]).run Tryd.prog W = .ok v W := by
  obtain ⟨i0, hi, hz0, hz1, hz2⟩ := info_parts byte_info
  have ht := Tryd.underlying24
  rcases h1.2 with ⟨rfl, hn⟩ | ⟨g, cp, cur, rfl, _, _, hnc, _⟩
  · cases a <;> simp [Builtin.append_, run_underlying ht, sizeOf, typeInfo, hi, Builtin.lenOf, Builtin.firstCells, loadCells, loadCellsFrom]
  · cases a <;> simp [Builtin.append_, run_underlying ht, sizeOf, typeInfo, hi, Builtin.lenOf, Builtin.firstCells, hnc, storeCells, loadCells, loadCellsFrom]
/-- Bytes, or none, put behind a row. -/
theorem app_any {w W : World} {v : Value} {xs ys : List Nat} (hO : Off (fun _ => False) w W) (h1 : RowY w.heap.size W v xs) {a : Option Addr} {n cap : Nat} {S : Nat → Prop} (h2 : BsAt W a ys S) (hn : n = ys.length) (hk : xs.length + n ≤ 100000) :
    ∃ v' w', (Builtin.append_ #[24, 24] 24 #[v, .slice a n cap]).run Tryd.prog W = .ok v' w' ∧ RowY w.heap.size w' v' (xs ++ ys) ∧ Off (fun _ => False) w w' := by
  rcases Nat.eq_zero_or_pos n with h0 | hp
  · subst h0
    obtain rfl : ys = [] := List.eq_nil_of_length_eq_zero hn.symm
    exact ⟨v, W, app_none h1 a cap, by rw [List.append_nil]; exact h1, hO⟩
  · exact app_bytes hO h1 h2 hn hp hk
theorem eql_nil (a : Option Addr) (l c : Nat) (w : World) : (binOp .eql 24 (.slice a l c) (.slice none 0 0)).run Tryd.prog w = .ok (.bool a.isNone) w := by
  simp only [binOp]
  simp [run_equal_slice_nil (P := Tryd.prog) w 24 5 a l c Tryd.underlying24]
theorem clone_by (a : Option Addr) (n cap : Nat) (bs : List Nat) (S : Nat → Prop) (w : World) (hb : BsAt w a bs S) (hn : n = bs.length) (hm : n ≤ 12000) :
    Calls Tryd.prog 62 #[.slice a n cap] w fun e w' => ∃ v, e = .returned v ∧ RowY w.heap.size w' v bs ∧ Off (fun _ => False) w w' := by
  cases a with
  | none =>
    obtain rfl : bs = [] := by
      rcases Nat.eq_zero_or_pos bs.length with h | h
      · exact List.eq_nil_of_length_eq_zero h
      · obtain ⟨b, o, h1, _⟩ := hb h
        cases h1
    subst hn
    have he := fun W => eql_nil none 0 cap W
    clear hb hm
    go_enter Tryd.func62, Tryd.ntmps62
    go_wp2
    go_ret
    exact ⟨_, rfl, RowT.nil _, Off.refl _ w⟩
  | some p =>
    obtain ⟨W1, hW1⟩ : ∃ W1, W1 = w.alloc (.cells #[] 5) := ⟨_, rfl⟩
    have hO1 : Off (fun _ => False) w W1 := by rw [hW1]; exact (Off.refl _ w).alloc _
    have r1 : RowY w.heap.size W1 (.slice (some ⟨w.heap.size, 0, none⟩) 0 0) [] := by rw [hW1]; exact World.ownsRow_lit w #[] 0 (Nat.le_refl _) (by decide) rfl
    obtain ⟨v5, w5, hr5, r5, o5⟩ := app_any hO1 r1 (cap := cap) (hb.off hO1 (fun _ _ _ c => c)) hn (by simp; omega)
    rw [List.nil_append] at r5
    have HR5 := Lib.hid hr5
    have HV5 := Lib.hid r5
    have HO5 := Lib.hid o5
    have HW1 := Lib.hid hW1
    have he := fun W => eql_nil (some p) n cap W
    clear hb hn hm hW1 hO1 r1 hr5 r5 o5
    go_enter Tryd.func62, Tryd.ntmps62
    go_wp2_with first | (at_builtin; rw [← HW1.out]; refine Go.Lib.wpList_append_run _ rfl _ _ _ _ rfl _ _ rfl rfl _ _ HR5.out ?_) | fail
    go_ret
    exact ⟨_, rfl, HV5.out, HO5.out⟩
end
section
open Go.RowKit
set_option maxRecDepth 100000
set_option maxHeartbeats 4000000
theorem byte_elem : Tryd.prog.elem 24 = 5 := by simp [Program.elem, Tryd.underlying24]
theorem BsAt.from {W : World} {a : Option Addr} {bs : List Nat} {S : Nat → Prop} (h : BsAt W a bs S) (lo cap : Nat) (hc : bs.length ≤ cap) : BsAt W (if cap = lo then a else a.map (·.add (lo * 1))) (bs.drop lo) S := by
  intro hp
  rw [List.length_drop] at hp
  obtain ⟨b, o, rfl, hS, hx⟩ := h (by omega)
  rw [if_neg (by omega)]
  refine ⟨b, o + lo, by simp [Addr.add_lit], hS, fun j x hj => ?_⟩
  rw [List.getElem?_drop] at hj
  rw [Nat.add_assoc]
  exact hx _ x hj
/-- 's[:k]'. -/
theorem part_h (a : Option Addr) (n cap k : Nat) (bs : List Nat) (hn : n = bs.length) (hk : k ≤ n) (hc : n ≤ cap) : ∃ a', (∀ W, (Instr.slice 24 (.slice a n cap) none (some (.int .i64 (k : Int))) none).run Tryd.prog W = .ok (.slice a' k cap) W) ∧ ∀ W S, BsAt W a bs S → BsAt W a' (bs.take k) S := by
  refine ⟨if cap = 0 then a else a.map (·.add (0 * 1)), fun W => ?_, fun W S h => ?_⟩
  · rw [run_slice_h W 24 _ _ _ (by rw [byte_elem]; exact Tryd.underlying24) .i64 _ (by omega) (by omega), byte_elem, Tryd.sizeOf5]
    simp only [Result.andThen, sliced, Int.toNat_natCast, Nat.sub_zero]
  · have := (h.from 0 cap (by omega)).take k
    rw [List.drop_zero] at this
    exact this
/-- 's[k:]'. -/
theorem part_l (a : Option Addr) (n cap k : Nat) (bs : List Nat) (hn : n = bs.length) (hk : k ≤ n) (hc : n ≤ cap) : ∃ a', (∀ W, (Instr.slice 24 (.slice a n cap) (some (.int .i64 (k : Int))) none none).run Tryd.prog W = .ok (.slice a' (n - k) (cap - k)) W) ∧ ∀ W S, BsAt W a bs S → BsAt W a' (bs.drop k) S := by
  refine ⟨if cap = k then a else a.map (·.add (k * 1)), fun W => ?_, fun W S h => h.from k cap (by omega)⟩
  rw [run_slice_l W 24 _ _ _ (by rw [byte_elem]; exact Tryd.underlying24) .i64 _ (by omega) (by omega), byte_elem, Tryd.sizeOf5]
  simp only [Result.andThen, sliced, Int.toNat_natCast]
/-- 's[i:k]'. -/
theorem part_lh (a : Option Addr) (n cap i k : Nat) (bs : List Nat) (hn : n = bs.length) (hi : i ≤ k) (hk : k ≤ n) (hc : n ≤ cap) : ∃ a', (∀ W, (Instr.slice 24 (.slice a n cap) (some (.int .i64 (i : Int))) (some (.int .i64 (k : Int))) none).run Tryd.prog W = .ok (.slice a' (k - i) (cap - i)) W) ∧ ∀ W S, BsAt W a bs S → BsAt W a' ((bs.drop i).take (k - i)) S := by
  refine ⟨if cap = i then a else a.map (·.add (i * 1)), fun W => ?_, fun W S h => (h.from i cap (by omega)).take (k - i)⟩
  rw [run_slice_lh W 24 _ _ _ (by rw [byte_elem]; exact Tryd.underlying24) .i64 .i64 _ _ (by omega) (by omega) (by omega), byte_elem, Tryd.sizeOf5]
  simp only [Result.andThen, sliced, Int.toNat_natCast]
end
end Go.Proofs.YtclehgconbdkpaaDoor
