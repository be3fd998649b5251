/-
  Slices of elements in memory, and the iterators slices.All and slices.Backward over them, as loops take them. Conditions: the slice's elements are numbers of four words that lie in memory.
-/
import Derived.Test.YtclehgconbdkpaaDoorNums
import Derived.Test.YtclehgconbdkpaaDoorTapeCore
namespace Go.Proofs.YtclehgconbdkpaaDoor
open Go.RowKit
attribute [local go_sem] Oper.semAt_some wide_fn

/-- The four words of x lie in block b from cell o on. -/
def elAt (w : World) (b o x : Nat) : Prop :=
  w.cell? ⟨b, o, none⟩ = some (.int .u64 (wd x 0 : Int)) ∧ w.cell? ⟨b, o + 1, none⟩ = some (.int .u64 (wd x 1 : Int)) ∧ w.cell? ⟨b, o + 2, none⟩ = some (.int .u64 (wd x 2 : Int)) ∧ w.cell? ⟨b, o + 3, none⟩ = some (.int .u64 (wd x 3 : Int))
theorem elAt.off {S : Nat → Prop} {w w' : World} {b o x : Nat} (h : elAt w b o x) (ho : Off S w w') (hs : ¬ S b) : elAt w' b o x :=
  ⟨ho.cell h.1 hs, ho.cell h.2.1 hs, ho.cell h.2.2.1 hs, ho.cell h.2.2.2 hs⟩
/-- The slice value v holds the elements xs; its cells, where it has any, lie within S. -/
def LsAt (w : World) (v : Value) (xs : List Nat) (S : Nat → Prop) : Prop :=
  ∃ a cap, v = .slice a xs.length cap ∧ xs.length ≤ 100000 ∧ (0 < xs.length → ∃ b off, a = some ⟨b, off, none⟩ ∧ S b ∧ ∀ j x, xs[j]? = some x → elAt w b (off + j * 4) x)
theorem LsAt.off {w w' : World} {v : Value} {xs : List Nat} {S S' : Nat → Prop} (h : LsAt w v xs S) (ho : Off S' w w') (hd : ∀ k, k < w.heap.size → S k → ¬ S' k) : LsAt w' v xs S := by
  obtain ⟨a, cap, hv, h1, h4⟩ := h
  refine ⟨a, cap, hv, h1, fun hp => ?_⟩
  obtain ⟨b, off, ha, hS, hc⟩ := h4 hp
  refine ⟨b, off, ha, hS, fun j e hj => ?_⟩
  have he := hc j e hj
  exact he.off ho (hd b (World.block_lt_of_cell? w _ he.1) hS)
theorem LsAt.mono {w : World} {v : Value} {xs : List Nat} {S S' : Nat → Prop} (h : LsAt w v xs S) (hs : ∀ k, k < w.heap.size → S k → S' k) : LsAt w v xs S' := by
  obtain ⟨a, cap, hv, h1, h4⟩ := h
  refine ⟨a, cap, hv, h1, fun hp => ?_⟩
  obtain ⟨b, off, ha, hS, hc⟩ := h4 hp
  refine ⟨b, off, ha, hs b ?_ hS, hc⟩
  obtain ⟨e, he⟩ : ∃ e, xs[0]? = some e := ⟨xs[0], List.getElem?_eq_getElem hp⟩
  exact World.block_lt_of_cell? w _ (hc 0 e he).1
theorem LsAt.kept {w w' : World} {row : Option Nat} {v : Value} {xs : List Nat} {S : Nat → Prop} (h : LsAt w v xs S) (hg : w.grownBy w' row) (hr : ∀ r, row = some r → ∃ o : Obj, w.heap[r]? = some o ∧ o.isCells = false) : LsAt w' v xs S := by
  obtain ⟨a, cap, hv, h1, h4⟩ := h
  refine ⟨a, cap, hv, h1, fun hp => ?_⟩
  obtain ⟨b, off, ha, hS, hc⟩ := h4 hp
  refine ⟨b, off, ha, hS, fun j e hj => ?_⟩
  have he := hc j e hj
  exact ⟨cell_kept he.1 hg hr, cell_kept he.2.1 hg hr, cell_kept he.2.2.1 hg hr, cell_kept he.2.2.2 hg hr⟩
/-- What an iterator over a slice reads between two rounds: its box, and the slice. -/
def Rl (Bs : Nat) (v : Value) (xs : List Nat) (S : Nat → Prop) (W : World) : Prop := Boxed W Bs 47 v ∧ LsAt W v xs S
theorem Rl.kept {w w' : World} {row : Option Nat} {Bs : Nat} {v : Value} {xs : List Nat} {S : Nat → Prop} (h : Rl Bs v xs S w) (hg : w.grownBy w' row) (hr : ∀ r, row = some r → ∃ o : Obj, w.heap[r]? = some o ∧ o.isCells = false) : Rl Bs v xs S w' :=
  ⟨Boxed.kept_own h.1 hg hr, h.2.kept hg hr⟩
theorem Rl.off {w w' : World} {Bs : Nat} {v : Value} {xs : List Nat} {S S' : Nat → Prop} (h : Rl Bs v xs S w) (ho : Off S' w w') (hb : ¬ S' Bs) (hd : ∀ k, k < w.heap.size → S k → ¬ S' k) : Rl Bs v xs S w' :=
  ⟨ho.heap h.1 hb, h.2.off ho hd⟩
theorem rlK_b {Bs : Nat} {v : Value} {xs : List Nat} {S : Nat → Prop} {n : Nat} (W : World) (l : Nat) (o o' : Obj) (_ : n ≤ l) (h : W.heap[l]? = some o) (hc : o.isCells = false) (_ : o.isWalk = false) : Rl Bs v xs S W → Rl Bs v xs S (W.putObj l o') :=
  fun hr => hr.kept (grownBy_putObj' W l o') (fun r e => by cases e; exact ⟨o, h, hc⟩)
theorem LsAt.get {w : World} {a : Option Addr} {n cap : Nat} {xs : List Nat} {S : Nat → Prop} (h : LsAt w (.slice a n cap) xs S) {j x : Nat} (hx : xs[j]? = some x) : ∃ b off, a = some ⟨b, off, none⟩ ∧ S b ∧ elAt w b (off + j * 4) x := by
  obtain ⟨a', cap', e, _, h4⟩ := h
  simp at e
  obtain ⟨rfl, rfl, rfl⟩ := e
  obtain ⟨b, off, ha, hS, hc⟩ := h4 (by have := (List.getElem?_eq_some_iff.1 hx).1; omega)
  exact ⟨b, off, ha, hS, hc j x hx⟩
theorem LsAt.len {w : World} {a : Option Addr} {n cap : Nat} {xs : List Nat} {S : Nat → Prop} (h : LsAt w (.slice a n cap) xs S) : n = xs.length ∧ n ≤ 100000 := by
  obtain ⟨a', cap', e, h1, _⟩ := h
  simp at e
  omega


set_option maxRecDepth 100000 in
set_option maxHeartbeats 2000000 in
theorem eback1_in (n : Nat) (hn : 1 ≤ n) (l Bs : Nat) (a : Option Addr) (m cap : Nat) (xs : List Nat) (S : Nat → Prop) (J Jx : List Nat → World → Prop) (W : World)
    (hJ : ∀ s A B, J s A → A.grownBy B none → J s B)
    (hY : ∀ (pre : List Nat) (x : Nat) W, J pre W → pre.length < xs.length → YieldAt Fence.wide (n - 1) Tryd.prog l #[.int .i64 (((xs.length - 1 - x : Nat) : Int)), V (xs.getD (xs.length - 1 - x) 0)] W fun e W' =>
      (e = .returned (.bool true) ∧ J (pre ++ [x]) W' ∧ (Rl Bs (.slice a m cap) xs S W → Rl Bs (.slice a m cap) xs S W')) ∨ (e = .returned (.bool false) ∧ Jx (pre ++ [x]) W'))
    (hR : Rl Bs (.slice a m cap) xs S W) (h0 : J [] W) :
    CallsIn Fence.wide n Tryd.prog 99 #[.func (.yield l) #[] #[], .pointer (some ⟨Bs, 0, none⟩)] W fun e W' => (∃ v, e = .returned v) ∧
      ((∃ ys, ys = List.range xs.length ∧ J ys W') ∨ (∃ pre, (∃ k, k ≤ xs.length ∧ pre = List.range k) ∧ Jx pre W')) := by
  refine callsIn_of_wp Tryd.func99 rfl trivial ?_ rfl
  simp only [Tryd.ntmps99, List.size_toArray, List.length_cons, List.length_nil, Nat.reduceAdd, Nat.reduceSub, Array.replicate_succ, Array.replicate_zero, List.push_toArray, List.append_toArray, List.nil_append, List.cons_append]
  obtain ⟨hm, hm2⟩ := hR.2.len
  have HR := Lib.hid hR
  have hB := hR.1.cell
  have HY := Lib.hid hY
  rw [← hm] at HY ⊢
  have HM := Lib.hid hm
  clear hR hY hm
  have hmw : IntKind.i64.wrap ((m : Int) - 1) = (m : Int) - 1 := by rw [IntKind.wrap_i64]; omega
  gi_wp2
  gi_loopw [3] (fun i wr => ∃ k : Nat, k ≤ m ∧ i = .int .i64 ((m : Int) - 1 - (k : Int)) ∧ J (List.range k) wr ∧ Rl Bs (.slice a m cap) xs S wr) (fun i _ => (intOf i + 1).toNat)
  case atStart => exact ⟨0, Nat.zero_le _, by simp, h0, HR.out⟩
  case round =>
    obtain ⟨k, hk, rfl, hJs, hRk⟩ := hrel
    by_cases hlt : k < m
    · obtain ⟨j, hj⟩ : ∃ j, j = m - 1 - k := ⟨_, rfl⟩
      have hij : (m : Int) - 1 - (k : Int) = (j : Int) := by omega
      obtain ⟨x, hx⟩ : ∃ x, xs[j]? = some x := ⟨_, List.getElem?_eq_getElem (by have := HM.out; omega)⟩
      have hgd : xs.getD (m - 1 - k) 0 = x := by rw [← hj, List.getD_eq_getElem?_getD, hx]; rfl
      obtain ⟨b, off, rfl, hSb, c0, c1, c2, c3⟩ := hRk.2.get hx
      have hbl := World.block_lt_of_cell? wr _ c0
      have hO : Off (fun _ => False) wr wr := Off.refl _ wr
      obtain ⟨fn, tmps, assign, body, hy, hround⟩ := HY.out _ k _ (hJ _ _ _ hJs hO.to_grown) (by rw [List.length_range]; exact hlt)
      rw [hgd, ← hj] at hy
      rw [hij]
      have hB2 := hRk.1.cell
      have hjm : j < m := by omega
      have hj0 : decide ((0 : Int) ≤ (j : Int)) = true := by simp
      have HRk := Lib.hid hRk
      have HIJ := Lib.hid hij
      clear hRk hJs hgd hx hO hj hij
      gi_wp2
      refine hround.mono ?_
      rintro e W3 (⟨rfl, hJ3, hk3⟩ | ⟨rfl, hJx3⟩)
      · have hR3 := hk3 HRk.out
        have hjw : IntKind.i64.wrap ((j : Int) - 1) = (j : Int) - 1 := by rw [IntKind.wrap_i64]; omega
        clear hround hk3 hy c0 c1 c2 c3 hB2
        gi_wp2
        go_roundw
        case rel => exact ⟨k + 1, by omega, by have := HIJ.out; congr 1; omega, by rw [List.range_succ]; exact hJ3, hR3⟩
        case measure => simp [intOf] <;> omega
      · clear hround hy c0 c1 c2 c3
        gi_wp2
        refine bodyPost_ret (results_none rfl _ _ _) rfl ?_
        exact ⟨⟨_, rfl⟩, .inr ⟨_, ⟨k + 1, by omega, List.range_succ.symm⟩, hJx3⟩⟩
    · obtain rfl : k = m := by omega
      have hj1 : decide ((0 : Int) ≤ (k : Int) - 1 - (k : Int)) = false := by simp; omega
      gi_wp2
      go_end0
      exact ⟨⟨_, rfl⟩, .inl ⟨_, rfl, hJs⟩⟩
set_option maxHeartbeats 1000000 in
theorem eback_in (n : Nat) (a : Option Addr) (len cap : Nat) (w : World) :
    CallsIn Fence.wide n Tryd.prog 89 #[.slice a len cap] w fun e w' => e = .returned (.func (.func 99) #[] #[.pointer (some ⟨w.heap.size, 0, none⟩)]) ∧ w' = w.alloc (.cells #[.slice a len cap] 47) := by
  refine callsIn_of_wp Tryd.func89 rfl trivial ?_ rfl
  simp only [Tryd.ntmps89, List.size_toArray, List.length_cons, List.length_nil, Nat.reduceAdd, Nat.reduceSub, Array.replicate_succ, Array.replicate_zero, List.push_toArray, List.append_toArray, List.nil_append, List.cons_append]
  gi_wp2
  go_ret
  exact ⟨rfl, rfl⟩
/-- The iterator as a loop takes it. -/
theorem eback_stops (n : Nat) (hn : 1 ≤ n) (Bs : Nat) (a : Option Addr) (m cap : Nat) (xs : List Nat) (S : Nat → Prop) (w : World) (hR : Rl Bs (.slice a m cap) xs S w) :
    SeqStopsK Fence.wide n Tryd.prog 99 #[.pointer (some ⟨Bs, 0, none⟩)] (fun x : Nat => #[.int .i64 (((xs.length - 1 - x : Nat) : Int)), V (xs.getD (xs.length - 1 - x) 0)]) (fun A B => Rl Bs (.slice a m cap) xs S A → Rl Bs (.slice a m cap) xs S B)
      (fun ys => ys = List.range xs.length) (fun pre => ∃ k, k ≤ xs.length ∧ pre = List.range k) xs.length w := fun l J Jx W hW hJ _ hY h0 => by
  have hg := below_grown hW
  exact eback1_in n hn l Bs a m cap xs S J Jx W (fun x A B hx hg => hJ x A B none hx hg (fun r e => by cases e)) (fun pre x W1 hj hlen => hY pre x W1 hj hlen) (hR.kept hg (fun r e => by cases e)) h0
end Go.Proofs.YtclehgconbdkpaaDoor
