/-
  Lists of elements and numbers for seats without a tape: in memory, as rows of the call's own, made anew. Plain facts; no condition. Printed by gen_elrows.py.
-/
import Derived.Test.YtmokaikofcbboaaDoorNums
import Derived.Test.YtmokaikofcbboaaDoorInvSel
import Derived.Test.YtmokaikofcbboaaDoorFieldEq
import Derived.Maps.AppendAt
import Derived.Laws.AppendOwn
import Derived.Laws.OwnMore
namespace Go.Proofs.YtmokaikofcbboaaDoor
open Go.RowKit
attribute [local go_sem ↓] Go.wp_at_zero Go.wp_at_succ
/-- The four words of x lie in block b from cell o on. -/
def elAt (w : World) (b o x : Nat) : Prop :=
  w.cell? ⟨b, o, none⟩ = some (.int .u64 (wd x 0 : Int)) ∧ w.cell? ⟨b, o + 1, none⟩ = some (.int .u64 (wd x 1 : Int)) ∧ w.cell? ⟨b, o + 2, none⟩ = some (.int .u64 (wd x 2 : Int)) ∧ w.cell? ⟨b, o + 3, none⟩ = some (.int .u64 (wd x 3 : Int))
theorem elAt.off {S : Nat → Prop} {w w' : World} {b o x : Nat} (h : elAt w b o x) (ho : Off S w w') (hs : ¬ S b) : elAt w' b o x :=
  ⟨ho.cell h.1 hs, ho.cell h.2.1 hs, ho.cell h.2.2.1 hs, ho.cell h.2.2.2 hs⟩
/-- The slice value v holds the elements xs; its cells, where it has any, lie within S. -/
def LsAt (w : World) (v : Value) (xs : List Nat) (S : Nat → Prop) : Prop :=
  ∃ a cap, v = .slice a xs.length cap ∧ xs.length ≤ 100000 ∧ (0 < xs.length → ∃ b off, a = some ⟨b, off, none⟩ ∧ S b ∧ ∀ j x, xs[j]? = some x → elAt w b (off + j * 4) x)
theorem LsAt.off {w w' : World} {v : Value} {xs : List Nat} {S S' : Nat → Prop} (h : LsAt w v xs S) (ho : Off S' w w') (hd : ∀ k, k < w.heap.size → S k → ¬ S' k) : LsAt w' v xs S := by
  obtain ⟨a, cap, hv, h1, h4⟩ := h
  refine ⟨a, cap, hv, h1, fun hp => ?_⟩
  obtain ⟨b, off, ha, hS, hc⟩ := h4 hp
  refine ⟨b, off, ha, hS, fun j e hj => ?_⟩
  have he := hc j e hj
  exact he.off ho (hd b (World.block_lt_of_cell? w _ he.1) hS)
theorem LsAt.mono {w : World} {v : Value} {xs : List Nat} {S S' : Nat → Prop} (h : LsAt w v xs S) (hs : ∀ k, k < w.heap.size → S k → S' k) : LsAt w v xs S' := by
  obtain ⟨a, cap, hv, h1, h4⟩ := h
  refine ⟨a, cap, hv, h1, fun hp => ?_⟩
  obtain ⟨b, off, ha, hS, hc⟩ := h4 hp
  refine ⟨b, off, ha, hs b ?_ hS, hc⟩
  obtain ⟨e, he⟩ : ∃ e, xs[0]? = some e := ⟨xs[0], List.getElem?_eq_getElem hp⟩
  exact World.block_lt_of_cell? w _ (hc 0 e he).1
theorem LsAt.get {w : World} {a : Option Addr} {n cap : Nat} {xs : List Nat} {S : Nat → Prop} (h : LsAt w (.slice a n cap) xs S) {j x : Nat} (hx : xs[j]? = some x) : ∃ b off, a = some ⟨b, off, none⟩ ∧ S b ∧ elAt w b (off + j * 4) x := by
  obtain ⟨a', cap', e, _, h4⟩ := h
  simp at e
  obtain ⟨rfl, rfl, rfl⟩ := e
  obtain ⟨b, off, ha, hS, hc⟩ := h4 (by have := (List.getElem?_eq_some_iff.1 hx).1; omega)
  exact ⟨b, off, ha, hS, hc j x hx⟩
theorem LsAt.len {w : World} {a : Option Addr} {n cap : Nat} {xs : List Nat} {S : Nat → Prop} (h : LsAt w (.slice a n cap) xs S) : n = xs.length ∧ n ≤ 100000 := by
  obtain ⟨a', cap', e, h1, _⟩ := h
  simp at e
  omega

/-- The slice value v holds the numbers xs, somewhere. -/
def Ls (w : World) (v : Value) (xs : List Nat) : Prop := LsAt w v xs (fun _ => True)
theorem Ls.off {w w' : World} {v : Value} {xs : List Nat} (h : Ls w v xs) (ho : Off (fun _ => False) w w') : Ls w' v xs := LsAt.off h ho (fun _ _ _ c => c)
theorem Ls.lt {w : World} {v : Value} {xs : List Nat} (h : Ls w v xs) : LsAt w v xs (fun k => k < w.heap.size ∧ ¬ False) := LsAt.mono h (fun _ hk _ => ⟨hk, fun c => c⟩)
theorem Ls.of {w : World} {v : Value} {xs : List Nat} {S : Nat → Prop} (h : LsAt w v xs S) : Ls w v xs := h.mono (fun _ _ _ => trivial)
theorem Ls.open {w : World} {v : Value} {xs : List Nat} (h : Ls w v xs) : ∃ a cap, v = .slice a xs.length cap ∧ LsAt w (.slice a xs.length cap) xs (fun k => k < w.heap.size ∧ ¬ False) := by
  have h2 := Ls.lt h
  obtain ⟨a, cap, hv, _⟩ := h
  exact ⟨a, cap, hv, hv ▸ h2⟩
theorem Ls.nil (w : World) : Ls w (.slice none 0 0) [] := ⟨none, 0, rfl, Nat.zero_le _, fun h => by simp at h⟩
theorem Ls.of_nums {w : World} {b cap : Nat} {T : TypeId} {xs : List Nat} (h : NumsAt w b T xs) (hl : xs.length ≤ 100000) (k : Nat) (hk : k ≤ xs.length) : Ls w (.slice (some ⟨b, 0, none⟩) k cap) (xs.take k) := by
  refine ⟨some ⟨b, 0, none⟩, cap, by rw [List.length_take, Nat.min_eq_left hk], by rw [List.length_take]; omega, fun _ => ⟨b, 0, rfl, trivial, fun j x hx => ?_⟩⟩
  rw [List.getElem?_take] at hx
  split at hx
  · have := NumsAt.cell h hx; rw [Nat.zero_add]; exact this
  · cases hx
theorem Ls.of_all {w : World} {b cap : Nat} {T : TypeId} {xs : List Nat} (h : NumsAt w b T xs) (hl : xs.length ≤ 100000) : Ls w (.slice (some ⟨b, 0, none⟩) xs.length cap) xs := by
  have := Ls.of_nums (cap := cap) h hl xs.length (Nat.le_refl _)
  rwa [List.take_length] at this
/-- Slot value u holds the numbers xs once operation i has been carried out. -/
def Lk (l : Nat → Bool) (i : Nat) (u : Value) (w : World) (xs : List Nat) : Prop := l i = true → Ls w u xs
theorem Lk.start (i : Nat) (u : Value) (w : World) (xs : List Nat) : Lk (fun _ => false) i u w xs := fun h => by cases h
theorem Lk.new {l : Nat → Bool} {i : Nat} {u : Value} {w : World} {xs : List Nat} (h : Ls w u xs) : Lk (upd l i) i u w xs := fun _ => h
theorem Lk.keep {l : Nat → Bool} {i : Nat} {u : Value} {w w' : World} {xs : List Nat} (h : Lk l i u w xs) (ho : Off (fun _ => False) w w') {k : Nat} (hk : (k == i) = false) : Lk (upd l k) i u w' xs := fun hl => by
  rw [upd_k l hk] at hl; exact (h hl).off ho
/-- The same, and its block is not the one that operation j makes. -/
def Lx (l : Nat → Bool) (i j : Nat) (u : Value) (b : Nat) (w : World) (xs : List Nat) : Prop := l i = true → LsAt w u xs (fun k => l j = true → k ≠ b)
theorem Lx.start (i j : Nat) (u : Value) (b : Nat) (w : World) (xs : List Nat) : Lx (fun _ => false) i j u b w xs := fun h => by cases h
theorem Lx.new {l : Nat → Bool} {i j : Nat} {u : Value} {b : Nat} {w w' : World} {xs : List Nat} (h : LsAt w' u xs (fun k => w.heap.size ≤ k)) (hb : l j = true → b < w.heap.size) (hij : (i == j) = false) : Lx (upd l i) i j u b w' xs :=
  fun _ => h.mono (fun k _ hk hj => by rw [upd_k l hij] at hj; have := hb hj; omega)
theorem Lx.made {l : Nat → Bool} {i j : Nat} {u : Value} {b : Nat} {w : World} {o : Obj} {xs : List Nat} (h : Lx l i j u b w xs) (hji : (j == i) = false) : Lx (upd l j) i j u w.heap.size (w.alloc o) xs := fun hl => by
  rw [upd_k l hji] at hl
  have h1 : LsAt w u xs (fun k => upd l j j = true → k ≠ w.heap.size) := (h hl).mono (fun k hk _ _ => by omega)
  exact h1.off ((Off.refl (fun _ => False) w).alloc o) (fun _ _ _ c => c)
theorem Lx.stored {l : Nat → Bool} {i j k : Nat} {u : Value} {b : Nat} {w : World} {vs : List Value} {xs : List Nat} (h : Lx l i j u b w xs) (hj : l j = true) (hk : (k == i) = false) (hk2 : (k == j) = false) : Lx (upd l k) i j u b (w.setCells b 0 vs) xs := fun hl => by
  rw [upd_k l hk] at hl
  have h1 : LsAt w u xs (fun c => upd l k j = true → c ≠ b) := (h hl).mono (fun c _ hs _ => hs hj)
  exact h1.off (setCells_off b vs 0 w) (fun c _ hs e => hs (by rw [upd_k l hk2]; exact hj) e)
theorem Lx.keep {l : Nat → Bool} {i j k : Nat} {u : Value} {b : Nat} {w w' : World} {xs : List Nat} (h : Lx l i j u b w xs) (ho : Off (fun _ => False) w w') (hk : (k == i) = false) (hk2 : (k == j) = false) : Lx (upd l k) i j u b w' xs := fun hl => by
  rw [upd_k l hk] at hl
  have h1 : LsAt w u xs (fun c => upd l k j = true → c ≠ b) := (h hl).mono (fun c _ hs hj => hs (by rw [upd_k l hk2] at hj; exact hj))
  exact h1.off ho (fun _ _ _ c => c)
theorem LsAt.at {w : World} {a : Option Addr} {n cap : Nat} {xs : List Nat} {S : Nat → Prop} (h : LsAt w (.slice a n cap) xs S) {k : Nat} (hk : k < n) : ∃ x b off, xs[k]? = some x ∧ a = some ⟨b, off, none⟩ ∧ elAt w b (off + k * 4) x := by
  obtain ⟨hl, _⟩ := h.len
  have hx : xs[k]? = some xs[k] := List.getElem?_eq_getElem (by omega)
  obtain ⟨b, off, ha, _, hc⟩ := h.get hx
  exact ⟨_, b, off, hx, ha, hc⟩
theorem elem_info : (Tryd.prog.info? 46).map (fun i => (i.zero, i.size, i.bytes)) = some (some (.agg #[.int .u64 0, .int .u64 0, .int .u64 0, .int .u64 0]), 4, 32) := by kernel_rfl
theorem made_zero4 (n : Nat) : madeCells #[.int .u64 0, .int .u64 0, .int .u64 0, .int .u64 0] (n * 4) = (flat4 (List.replicate n 0)).toArray := by
  rw [flat4_zero]
  apply Array.ext'
  apply List.ext_getElem?
  intro j
  by_cases hj : j < n * 4
  · have h4 : j % 4 = 0 ∨ j % 4 = 1 ∨ j % 4 = 2 ∨ j % 4 = 3 := by omega
    simp [madeCells, hj]
    rcases h4 with h | h | h | h <;> simp [h]
  · rw [List.getElem?_eq_none (by simp [madeCells]; omega), List.getElem?_eq_none (by simp; omega)]
theorem run_make_el (n : Nat) (hn : n ≤ 100000) (w : World) : (Instr.makeSlice 29 (.int .i64 (n : Int)) (.int .i64 (n : Int))).run Tryd.prog w = .ok (.slice (some ⟨w.heap.size, 0, none⟩) n n) (w.alloc (.cells (flat4 (List.replicate n 0)).toArray 46)) := by
  obtain ⟨i0, hi, hz0, hz1, hz2⟩ := info_parts elem_info
  have := run_make (P := Tryd.prog) w 29 46 i0 _ Tryd.underlying29 hi hz0 .i64 .i64 (n : Int) (n : Int) (by omega) (Int.le_refl _) (by rw [hz2]; omega) (by omega)
  rw [hz1, show (Value.agg #[.int .u64 0, .int .u64 0, .int .u64 0, .int .u64 0]).cells = #[.int .u64 0, .int .u64 0, .int .u64 0, .int .u64 0] from rfl] at this
  rw [← made_zero4]
  simpa using this
theorem grown_off {w W w1 : World} {n k size : Nat} {T : TypeId} {v : Value} {xs : List Value} (hO : Off (fun _ => False) w W) (hn : w.heap.size ≤ n) (h : W.ownsRow n T size v k xs) (hg : W.grownBy w1 v.ownBlock) : Off (fun _ => False) w w1 :=
  hO.grown hg (fun j ej => by
    have hx := (h.lt j ej).1
    refine ⟨fun h => by omega, fun o ho => ?_⟩
    rcases h.2 with ⟨rfl, _⟩ | ⟨g, cap, cur, rfl, _, hgb, _⟩
    · simp [Value.ownBlock] at ej
    · obtain rfl : g = j := by simpa [Value.ownBlock] using ej
      rw [hgb] at ho; cases ho; rfl)
theorem words4_at {w : World} {b z : Nat} {T : TypeId} (h : w.heap[b]? = some (.cells #[.int .u64 (wd z 0 : Int), .int .u64 (wd z 1 : Int), .int .u64 (wd z 2 : Int), .int .u64 (wd z 3 : Int)] T (0, 0))) : ∀ j u, (words4 z)[j]? = some u → w.cell? ((⟨b, 0, none⟩ : Addr).add j) = some u := by
  intro j u hj
  rw [Addr.add_lit, Nat.zero_add, cell_of_heap h]
  simpa using hj
theorem append_oper {P : Program} {o : Oper} {a : Act} {w w' : World} {K : Act → World → Prop} {Q : Exit → Act → World → Prop} {s x : Operand} {t : TypeId} {v xv v' : Value}
    (ho : o.op = .call { callee := .builtin .append, args := #[s, x], argTypes := #[t, t] }) (hs : a.eval s = v) (hx : a.eval x = xv) (hr : (Builtin.append_ #[t, t] o.type #[v, xv]).run P w = .ok v' w') (hK : K (a.put o.dst v') w') : o.wp P a w K Q := by
  unfold Oper.wp execOp
  simp only [ho, resolve, invoke, builtin, Sem.run_bind, Sem.run_pure, Result.andThen_ok, List.map_toArray, List.map_cons, List.map_nil, hs, hx, hr]
  exact hK
/-- A row of the call's own that holds elements. -/
theorem ls_of_own {w : World} {base n cap : Nat} {a : Option Addr} {T : TypeId} {ys : List Nat} (h : w.ownsRow base T 4 (.slice a n cap) n (flat4 ys)) (hn : n = ys.length) (hl : n ≤ 100000) : LsAt w (.slice a n cap) ys (fun k => base ≤ k ∧ k < w.heap.size) := by
  refine ⟨a, cap, by rw [hn], by omega, fun hp => ?_⟩
  obtain ⟨m, rfl⟩ : ∃ m, n = m + 1 := ⟨n - 1, by omega⟩
  obtain ⟨g, c, e⟩ := ownsRow_succ h
  simp at e
  obtain ⟨rfl, rfl⟩ := e
  have hc := h.cells (g := g) rfl
  refine ⟨g, 0, rfl, h.lt g rfl, fun j x hx => ?_⟩
  obtain ⟨h0, h1, h2, h3⟩ := flat4_get ys j x hx
  have k0 := hc _ _ h0
  have k1 := hc _ _ h1
  have k2 := hc _ _ h2
  have k3 := hc _ _ h3
  rw [Addr.add_lit] at k0 k1 k2 k3
  exact ⟨k0, by rw [Nat.add_assoc]; exact k1, by rw [Nat.add_assoc]; exact k2, by rw [Nat.add_assoc]; exact k3⟩
theorem words4_one (z : Nat) : ∀ u ∈ words4 z, u.oneCell' = true := by
  intro u hu
  simp only [words4, List.mem_cons, List.not_mem_nil, or_false] at hu
  rcases hu with rfl | rfl | rfl | rfl <;> rfl
theorem own_off {w w' : World} {base size n : Nat} {T : TypeId} {v : Value} {xs : List Value} (h : w.ownsRow base T size v n xs) (ho : Off (fun _ => False) w w') : w'.ownsRow base T size v n xs :=
  h.kept ho.to_grown (by by_cases e : v.ownBlock = none; exact .inl e; exact .inr e)
theorem vec_info : (Tryd.prog.info? 45).map (fun i => (i.zero, i.size, i.bytes)) = some (some (.agg #[.int .u64 0, .int .u64 0, .int .u64 0, .int .u64 0]), 4, 32) := by kernel_rfl
theorem run_make_vec (n : Nat) (hn : n ≤ 100000) (w : World) : (Instr.makeSlice 40 (.int .i64 (n : Int)) (.int .i64 (n : Int))).run Tryd.prog w = .ok (.slice (some ⟨w.heap.size, 0, none⟩) n n) (w.alloc (.cells (flat4 (List.replicate n 0)).toArray 45)) := by
  obtain ⟨i0, hi, hz0, hz1, hz2⟩ := info_parts vec_info
  have := run_make (P := Tryd.prog) w 40 45 i0 _ Tryd.underlying40 hi hz0 .i64 .i64 (n : Int) (n : Int) (by omega) (Int.le_refl _) (by rw [hz2]; omega) (by omega)
  rw [hz1, show (Value.agg #[.int .u64 0, .int .u64 0, .int .u64 0, .int .u64 0]).cells = #[.int .u64 0, .int .u64 0, .int .u64 0, .int .u64 0] from rfl] at this
  rw [← made_zero4]
  simpa using this
end Go.Proofs.YtmokaikofcbboaaDoor
