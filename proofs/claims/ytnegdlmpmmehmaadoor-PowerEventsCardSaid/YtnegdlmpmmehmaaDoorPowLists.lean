/-
  The rule of a region that draws its order (by what holds whichever operations have been carried out), for the body of a range over a function. Plain facts on the model's regions; no condition.
  Slices of elements in memory, and the iterators slices.All and slices.Backward over them, as loops take them. Conditions: the slice's elements are numbers of four words that lie in memory.
  What Batch's two loops have computed when they have visited a list of indices, as plain numbers. No condition.
  The contract of power's factor over this seat's translation: the element itself, or 1 where it is 0. Condition: the field's constants are those of its modulus, the value lies below it.
  The contract of power.Batch over this seat's translation: the list of the inverses, newly made; the tape notes the indices, Pow's events, and the indices from the last on. Conditions: the field's constants are those of its modulus, the list's elements are forms of values below it, and lie outside the tape; the tape has room for the events.
  The contract of power.Batch over this seat's translation: the list of the inverses, newly made; the tape notes the indices, Pow's events, and the indices from the last on. Conditions: the field's constants are those of its modulus, the list's elements are forms of values below it, and lie outside the tape; the tape has room for the events.
-/
import Derived.Test.YtnegdlmpmmehmaaDoorInv
import Derived.OrdersIn
import Derived.TacticsIn
import Derived.RangeFuncCalls
import Derived.Test.YtnegdlmpmmehmaaDoorNums
import Derived.Test.YtnegdlmpmmehmaaDoorTapeIter
import Derived.Test.YtnegdlmpmmehmaaDoorPowPlain
import Derived.Test.YtnegdlmpmmehmaaDoorMontOps
import Derived.Test.YtnegdlmpmmehmaaDoorInvTape
import Derived.Test.YtnegdlmpmmehmaaDoorPowPower
namespace Go.Proofs.YtnegdlmpmmehmaaDoor
section

theorem rows_inRound {l n : Nat} {P : Program} {row : String} {args : Array Value} {w : World} {R : Value → World → Prop} (h : Rows P row args w R) : RowsIn (Fence.wide.inRound l) n P row args w R :=
  fun c cs _ => let ⟨v, w', r, s⟩ := h c cs; ⟨v, w', r, (stepsIn_wide).2 s⟩
/-- What an operation does in a round it does anywhere, a defer statement apart. -/
theorem oper_inRound {l n : Nat} {P : Program} {o : Oper} {a : Act} {w : World} {K : Act → World → Prop} {Q : Exit → Act → World → Prop} (hnd : ∀ c, o.op ≠ .defer c) (h : o.wp P a w K Q) :
    o.wpIn (Fence.wide.inRound l) n P a w K Q := by
  refine ⟨fun _ _ => trivial, ?_⟩
  rw [show o.semAt (Fence.wide.inRound l).round a.eval = execOp a.eval o from Oper.semAt_some l _ o hnd]
  unfold Oper.wp at h
  generalize (execOp a.eval o).run P w = r at *
  have hd : (Fence.wide.inRound l).depth.isSome = true → 1 ≤ n := fun c => by cases c
  cases r with
  | ok x w' =>
    cases x <;> simp only [Oper.upon, Oper.uponIn] at h ⊢ <;>
      first
        | exact h
        | exact ⟨hd, CallsIn.inRound l (callsIn_wide.2 h)⟩
        | exact ⟨hd, rows_inRound h⟩
        | exact h.elim
  | halt x w' => cases x <;> simp only [Oper.upon, Oper.uponIn] at h ⊢ <;> exact h
def noDefer (ops : Array Oper) : Bool := ops.toList.all fun o => match o.op with | .defer _ => false | _ => true
theorem noDefer_of {ops : Array Oper} (h : noDefer ops = true) {i : Nat} {o : Oper} (ho : ops[i]? = some o) : ∀ c, o.op ≠ .defer c := by
  intro c hc
  have h1 : o ∈ ops.toList := by
    obtain ⟨hi, rfl⟩ := Array.getElem?_eq_some_iff.1 ho
    simp
  have := List.all_eq_true.1 h o h1
  rw [hc] at this
  cases this

section
variable {P : Program} {ops : Array Oper} {Q : Exit → Act → World → Prop} {md : Region.Mode} {F : Fence} {n : Nat}
theorem wpAnyIn_inv (I : (Nat → Bool) → Act → World → Prop)
    (step : ∀ (i : Nat) (o : Oper), ops[i]? = some o → ∀ l a w, I l a w → l i = false → (∀ e ∈ o.after, Region.binds md e = true → l e.on = true) → wpOpIn F n P ops Q i (fun a' w' => I (upd l i) a' w') a w)
    (hback : ∀ (i : Nat) (o : Oper), ops[i]? = some o → ∀ e ∈ o.after, Region.binds md e = true → e.on < i)
    (done : ∀ l a w, I l a w → (∀ i, i < ops.size → l i = true) → Q .normal a w) :
    ∀ (fuel : Nat) (L : Array Bool) (a : Act) (w : World), L.size = ops.size → cnt L ≤ fuel → I (fun j => L.getD j false) a w → wpAnyIn F n P md ops Q fuel L a w := by
  have fin : ∀ (L : Array Bool) (a : Act) (w : World), L.size = ops.size → Region.ready md ops L = [] → I (fun j => L.getD j false) a w → Q .normal a w := by
    intro L a w hL hr hI
    refine done _ a w hI fun i => ?_
    induction i using Nat.strongRecOn with
    | _ i ih =>
      intro hi
      cases hb : L.getD i false with
      | true => rfl
      | false =>
        exfalso
        have hb2 : L.getD i true = false := by
          rw [Array.getD_eq_getD_getElem?] at hb ⊢
          cases hLi : L[i]? with
          | none => rw [Array.getElem?_eq_none_iff] at hLi; omega
          | some b => simpa [hLi] using hb
        have : i ∈ Region.ready md ops L := mem_ready.2 ⟨hb2, ops[i], by simp [hi], fun e he hb' => by
          have h1 := hback i ops[i] (by simp [hi]) e he hb'
          exact ih e.on h1 (by omega)⟩
        rw [hr] at this
        cases this
  intro fuel
  induction fuel with
  | zero =>
    intro L a w hL hc hI
    have hr : Region.ready md ops L = [] := by
      cases hq : Region.ready md ops L with
      | nil => rfl
      | cons i r =>
        have hi : i ∈ Region.ready md ops L := by rw [hq]; simp
        have := cnt_set (mem_ready.1 hi).1
        omega
    exact ⟨hr, fin L a w hL hr hI⟩
  | succ fuel ih =>
    intro L a w hL hc hI
    refine ⟨fun hr => fin L a w hL hr hI, fun i hi => ?_⟩
    obtain ⟨h1, o, ho, hdep⟩ := mem_ready.1 hi
    have hlt : i < L.size := by
      rcases Nat.lt_or_ge i L.size with h | h
      · exact h
      · rw [Array.getD_eq_getD_getElem?, Array.getElem?_eq_none h] at h1; cases h1
    have h2 : L.getD i false = false := by
      rw [Array.getD_eq_getD_getElem?] at h1 ⊢
      cases hLi : L[i]? with
      | none => rfl
      | some b => simpa [hLi] using h1
    refine wpOpIn_mono (fun a' w' h' => ih _ a' w' (by simpa using hL) (by have := cnt_set h1; omega) ?_) (step i o ho _ a w hI h2 hdep)
    have e : (fun j => (L.setIfInBounds i true).getD j false) = upd (fun j => L.getD j false) i := by
      funext j
      by_cases hj : j = i
      · subst hj
        rw [upd_same]
        rw [Array.getD_eq_getD_getElem?]
        simp [hlt]
      · rw [upd_ne _ hj]
        exact getD_set_ne false (fun e => hj e.symm)
    rw [e]; exact h'
end
section
variable {P : Program} {ops : Array Oper} {Q : Exit → Act → World → Prop}
theorem wpIn_region_inv {id l n : Nat} {a : Act} {w : World} (I : Act → (Nat → Bool) → Act → World → Prop) (hm : P.follows .mixedOrders = true) (hb : backB ops = true) (hnd : noDefer ops = true)
    (h0 : I a (fun _ => false) a w.drew) (hs : StepsAt P ops Q (I a) 0 ops.toList)
    (done : ∀ l a' w', I a l a' w' → (∀ i, i < ops.size → l i = true) → Q .normal a' w') : (Code.region id ops true).wpIn (Fence.wide.inRound l) n P Q a w := by
  refine wpIn_region_any hm (wpAnyIn_inv (md := .any) (I a) ?_ (back_of hb) done ops.size _ a _ (by simp) (by simp [cnt, List.countP_replicate]) ?_)
  · intro i o ho l a1 w1 hI hl hd
    have h1 := StepsAt.get hs i o (by simpa using ho)
    rw [Nat.zero_add] at h1
    have h2 := h1 l a1 w1 hI hl (fun d hd' => by
      obtain ⟨e, he, rfl⟩ := List.mem_map.1 hd'
      rw [List.mem_filter] at he
      exact hd e (by simpa using he.1) he.2) (fun a' w' => I a (upd l i) a' w') (fun _ _ h => h)
    unfold wpOpIn
    rw [ho]
    show if Region.wanted o (yielded ops a1.tmps) = true then _ else _
    split
    · rename_i hw; rw [if_pos hw] at h2; exact oper_inRound (noDefer_of hnd ho) h2
    · rename_i hw; rw [if_neg hw] at h2; exact ⟨fun _ _ => trivial, h2⟩
  · have e : (fun j => (Array.replicate ops.size false).getD j false) = (fun _ => false) := by
      funext j
      rw [Array.getD_eq_getD_getElem?, Array.getElem?_replicate]
      split <;> rfl
    rw [e]; exact h0
end
end
section
open Go.RowKit
attribute [local go_sem] Oper.semAt_some wide_fn

/-- The four words of x lie in block b from cell o on. -/
def elAt (w : World) (b o x : Nat) : Prop :=
  w.cell? ⟨b, o, none⟩ = some (.int .u64 (wd x 0 : Int)) ∧ w.cell? ⟨b, o + 1, none⟩ = some (.int .u64 (wd x 1 : Int)) ∧ w.cell? ⟨b, o + 2, none⟩ = some (.int .u64 (wd x 2 : Int)) ∧ w.cell? ⟨b, o + 3, none⟩ = some (.int .u64 (wd x 3 : Int))
theorem elAt.off {S : Nat → Prop} {w w' : World} {b o x : Nat} (h : elAt w b o x) (ho : Off S w w') (hs : ¬ S b) : elAt w' b o x :=
  ⟨ho.cell h.1 hs, ho.cell h.2.1 hs, ho.cell h.2.2.1 hs, ho.cell h.2.2.2 hs⟩
/-- The slice value v holds the elements xs; its cells, where it has any, lie within S. -/
def LsAt (w : World) (v : Value) (xs : List Nat) (S : Nat → Prop) : Prop :=
  ∃ a cap, v = .slice a xs.length cap ∧ xs.length ≤ 100000 ∧ (0 < xs.length → ∃ b off, a = some ⟨b, off, none⟩ ∧ S b ∧ ∀ j x, xs[j]? = some x → elAt w b (off + j * 4) x)
theorem LsAt.off {w w' : World} {v : Value} {xs : List Nat} {S S' : Nat → Prop} (h : LsAt w v xs S) (ho : Off S' w w') (hd : ∀ k, k < w.heap.size → S k → ¬ S' k) : LsAt w' v xs S := by
  obtain ⟨a, cap, hv, h1, h4⟩ := h
  refine ⟨a, cap, hv, h1, fun hp => ?_⟩
  obtain ⟨b, off, ha, hS, hc⟩ := h4 hp
  refine ⟨b, off, ha, hS, fun j e hj => ?_⟩
  have he := hc j e hj
  exact he.off ho (hd b (World.block_lt_of_cell? w _ he.1) hS)
theorem LsAt.mono {w : World} {v : Value} {xs : List Nat} {S S' : Nat → Prop} (h : LsAt w v xs S) (hs : ∀ k, k < w.heap.size → S k → S' k) : LsAt w v xs S' := by
  obtain ⟨a, cap, hv, h1, h4⟩ := h
  refine ⟨a, cap, hv, h1, fun hp => ?_⟩
  obtain ⟨b, off, ha, hS, hc⟩ := h4 hp
  refine ⟨b, off, ha, hs b ?_ hS, hc⟩
  obtain ⟨e, he⟩ : ∃ e, xs[0]? = some e := ⟨xs[0], List.getElem?_eq_getElem hp⟩
  exact World.block_lt_of_cell? w _ (hc 0 e he).1
theorem LsAt.kept {w w' : World} {row : Option Nat} {v : Value} {xs : List Nat} {S : Nat → Prop} (h : LsAt w v xs S) (hg : w.grownBy w' row) (hr : ∀ r, row = some r → ∃ o : Obj, w.heap[r]? = some o ∧ o.isCells = false) : LsAt w' v xs S := by
  obtain ⟨a, cap, hv, h1, h4⟩ := h
  refine ⟨a, cap, hv, h1, fun hp => ?_⟩
  obtain ⟨b, off, ha, hS, hc⟩ := h4 hp
  refine ⟨b, off, ha, hS, fun j e hj => ?_⟩
  have he := hc j e hj
  exact ⟨cell_kept he.1 hg hr, cell_kept he.2.1 hg hr, cell_kept he.2.2.1 hg hr, cell_kept he.2.2.2 hg hr⟩
/-- What an iterator over a slice reads between two rounds: its box, and the slice. -/
def Rl (Bs : Nat) (v : Value) (xs : List Nat) (S : Nat → Prop) (W : World) : Prop := Boxed W Bs 38 v ∧ LsAt W v xs S
theorem Rl.kept {w w' : World} {row : Option Nat} {Bs : Nat} {v : Value} {xs : List Nat} {S : Nat → Prop} (h : Rl Bs v xs S w) (hg : w.grownBy w' row) (hr : ∀ r, row = some r → ∃ o : Obj, w.heap[r]? = some o ∧ o.isCells = false) : Rl Bs v xs S w' :=
  ⟨Boxed.kept_own h.1 hg hr, h.2.kept hg hr⟩
theorem Rl.off {w w' : World} {Bs : Nat} {v : Value} {xs : List Nat} {S S' : Nat → Prop} (h : Rl Bs v xs S w) (ho : Off S' w w') (hb : ¬ S' Bs) (hd : ∀ k, k < w.heap.size → S k → ¬ S' k) : Rl Bs v xs S w' :=
  ⟨ho.heap h.1 hb, h.2.off ho hd⟩
theorem rlK_b {Bs : Nat} {v : Value} {xs : List Nat} {S : Nat → Prop} {n : Nat} (W : World) (l : Nat) (o o' : Obj) (_ : n ≤ l) (h : W.heap[l]? = some o) (hc : o.isCells = false) (_ : o.isWalk = false) : Rl Bs v xs S W → Rl Bs v xs S (W.putObj l o') :=
  fun hr => hr.kept (grownBy_putObj' W l o') (fun r e => by cases e; exact ⟨o, h, hc⟩)
theorem LsAt.get {w : World} {a : Option Addr} {n cap : Nat} {xs : List Nat} {S : Nat → Prop} (h : LsAt w (.slice a n cap) xs S) {j x : Nat} (hx : xs[j]? = some x) : ∃ b off, a = some ⟨b, off, none⟩ ∧ S b ∧ elAt w b (off + j * 4) x := by
  obtain ⟨a', cap', e, _, h4⟩ := h
  simp at e
  obtain ⟨rfl, rfl, rfl⟩ := e
  obtain ⟨b, off, ha, hS, hc⟩ := h4 (by have := (List.getElem?_eq_some_iff.1 hx).1; omega)
  exact ⟨b, off, ha, hS, hc j x hx⟩
theorem LsAt.len {w : World} {a : Option Addr} {n cap : Nat} {xs : List Nat} {S : Nat → Prop} (h : LsAt w (.slice a n cap) xs S) : n = xs.length ∧ n ≤ 100000 := by
  obtain ⟨a', cap', e, h1, _⟩ := h
  simp at e
  omega

set_option maxRecDepth 100000 in
set_option maxHeartbeats 2000000 in
theorem eall1_in (n : Nat) (hn : 1 ≤ n) (l Bs : Nat) (a : Option Addr) (m cap : Nat) (xs : List Nat) (S : Nat → Prop) (J Jx : List Nat → World → Prop) (W : World)
    (hJ : ∀ s A B, J s A → A.grownBy B none → J s B)
    (hY : ∀ (pre : List Nat) (x : Nat) W, J pre W → pre.length < xs.length → YieldAt Fence.wide (n - 1) Tryd.prog l #[.int .i64 (((x % xs.length : Nat) : Int)), V (xs.getD (x % xs.length) 0)] W fun e W' =>
      (e = .returned (.bool true) ∧ J (pre ++ [x]) W' ∧ (Rl Bs (.slice a m cap) xs S W → Rl Bs (.slice a m cap) xs S W')) ∨ (e = .returned (.bool false) ∧ Jx (pre ++ [x]) W'))
    (hR : Rl Bs (.slice a m cap) xs S W) (h0 : J [] W) :
    CallsIn Fence.wide n Tryd.prog 54 #[.func (.yield l) #[] #[], .pointer (some ⟨Bs, 0, none⟩)] W fun e W' => (∃ v, e = .returned v) ∧
      ((∃ ys, ys = List.range xs.length ∧ J ys W') ∨ (∃ pre, (∃ k, k ≤ xs.length ∧ pre = List.range k) ∧ Jx pre W')) := by
  refine callsIn_of_wp Tryd.func54 rfl trivial ?_ rfl
  simp only [Tryd.ntmps54, List.size_toArray, List.length_cons, List.length_nil, Nat.reduceAdd, Nat.reduceSub, Array.replicate_succ, Array.replicate_zero, List.push_toArray, List.append_toArray, List.nil_append, List.cons_append]
  obtain ⟨hm, hm2⟩ := hR.2.len
  have HR := Lib.hid hR
  have hB := hR.1.cell
  have HY := Lib.hid hY
  rw [← hm] at HY ⊢
  have HM := Lib.hid hm
  clear hR hY hm
  gi_wp2
  gi_loopw [7] (fun i wr => ∃ k : Nat, k ≤ m ∧ i = .int .i64 (k : Int) ∧ J (List.range k) wr ∧ Rl Bs (.slice a m cap) xs S wr) (fun i _ => m - (intOf i).toNat)
  case atStart => exact ⟨0, Nat.zero_le _, rfl, h0, HR.out⟩
  case round =>
    obtain ⟨k, hk, rfl, hJs, hRk⟩ := hrel
    by_cases hlt : k < m
    · obtain ⟨x, hx⟩ : ∃ x, xs[k]? = some x := ⟨_, List.getElem?_eq_getElem (by have := HM.out; omega)⟩
      have hkm : k % m = k := Nat.mod_eq_of_lt hlt
      have hgd : xs.getD (k % m) 0 = x := by rw [hkm, List.getD_eq_getElem?_getD, hx]; rfl
      obtain ⟨b, off, rfl, hSb, c0, c1, c2, c3⟩ := hRk.2.get hx
      have hbl := World.block_lt_of_cell? wr _ c0
      have hO : Off (fun _ => False) wr (wr.alloc (.cells #[.int .u64 (wd x 0 : Int), .int .u64 (wd x 1 : Int), .int .u64 (wd x 2 : Int), .int .u64 (wd x 3 : Int)] 24)) := (Off.refl _ wr).alloc _
      obtain ⟨fn, tmps, assign, body, hy, hround⟩ := HY.out _ k _ (hJ _ _ _ hJs hO.to_grown) (by rw [List.length_range]; exact hlt)
      rw [hgd, hkm] at hy
      have HRk := Lib.hid (hRk.off hO (fun c => c) (fun _ _ _ c => c))
      clear hRk hJs hgd hx hO hkm
      gi_wp2
      refine hround.mono ?_
      rintro e W3 (⟨rfl, hJ3, hk3⟩ | ⟨rfl, hJx3⟩)
      · have hR3 := hk3 HRk.out
        clear hround hk3 hy c0 c1 c2 c3
        gi_wp2
        go_roundw
        case rel => exact ⟨k + 1, by omega, by simp, by rw [List.range_succ]; exact hJ3, hR3⟩
        case measure => simp [intOf]; omega
      · clear hround hy c0 c1 c2 c3
        gi_wp2
        refine bodyPost_ret (results_none rfl _ _ _) rfl ?_
        exact ⟨⟨_, rfl⟩, .inr ⟨_, ⟨k + 1, by omega, List.range_succ.symm⟩, hJx3⟩⟩
    · obtain rfl : k = m := by omega
      gi_wp2
      go_end0
      exact ⟨⟨_, rfl⟩, .inl ⟨_, rfl, hJs⟩⟩
set_option maxHeartbeats 1000000 in
theorem eall_in (n : Nat) (a : Option Addr) (len cap : Nat) (w : World) :
    CallsIn Fence.wide n Tryd.prog 39 #[.slice a len cap] w fun e w' => e = .returned (.func (.func 54) #[] #[.pointer (some ⟨w.heap.size, 0, none⟩)]) ∧ w' = w.alloc (.cells #[.slice a len cap] 38) := by
  refine callsIn_of_wp Tryd.func39 rfl trivial ?_ rfl
  simp only [Tryd.ntmps39, List.size_toArray, List.length_cons, List.length_nil, Nat.reduceAdd, Nat.reduceSub, Array.replicate_succ, Array.replicate_zero, List.push_toArray, List.append_toArray, List.nil_append, List.cons_append]
  gi_wp2
  go_ret
  exact ⟨rfl, rfl⟩
/-- The iterator as a loop takes it. -/
theorem eall_stops (n : Nat) (hn : 1 ≤ n) (Bs : Nat) (a : Option Addr) (m cap : Nat) (xs : List Nat) (S : Nat → Prop) (w : World) (hR : Rl Bs (.slice a m cap) xs S w) :
    SeqStopsK Fence.wide n Tryd.prog 54 #[.pointer (some ⟨Bs, 0, none⟩)] (fun x : Nat => #[.int .i64 (((x % xs.length : Nat) : Int)), V (xs.getD (x % xs.length) 0)]) (fun A B => Rl Bs (.slice a m cap) xs S A → Rl Bs (.slice a m cap) xs S B)
      (fun ys => ys = List.range xs.length) (fun pre => ∃ k, k ≤ xs.length ∧ pre = List.range k) xs.length w := fun l J Jx W hW hJ _ hY h0 => by
  have hg := below_grown hW
  exact eall1_in n hn l Bs a m cap xs S J Jx W (fun x A B hx hg => hJ x A B none hx hg (fun r e => by cases e)) (fun pre x W1 hj hlen => hY pre x W1 hj hlen) (hR.kept hg (fun r e => by cases e)) h0

set_option maxRecDepth 100000 in
set_option maxHeartbeats 2000000 in
theorem eback1_in (n : Nat) (hn : 1 ≤ n) (l Bs : Nat) (a : Option Addr) (m cap : Nat) (xs : List Nat) (S : Nat → Prop) (J Jx : List Nat → World → Prop) (W : World)
    (hJ : ∀ s A B, J s A → A.grownBy B none → J s B)
    (hY : ∀ (pre : List Nat) (x : Nat) W, J pre W → pre.length < xs.length → YieldAt Fence.wide (n - 1) Tryd.prog l #[.int .i64 (((xs.length - 1 - x : Nat) : Int)), V (xs.getD (xs.length - 1 - x) 0)] W fun e W' =>
      (e = .returned (.bool true) ∧ J (pre ++ [x]) W' ∧ (Rl Bs (.slice a m cap) xs S W → Rl Bs (.slice a m cap) xs S W')) ∨ (e = .returned (.bool false) ∧ Jx (pre ++ [x]) W'))
    (hR : Rl Bs (.slice a m cap) xs S W) (h0 : J [] W) :
    CallsIn Fence.wide n Tryd.prog 55 #[.func (.yield l) #[] #[], .pointer (some ⟨Bs, 0, none⟩)] W fun e W' => (∃ v, e = .returned v) ∧
      ((∃ ys, ys = List.range xs.length ∧ J ys W') ∨ (∃ pre, (∃ k, k ≤ xs.length ∧ pre = List.range k) ∧ Jx pre W')) := by
  refine callsIn_of_wp Tryd.func55 rfl trivial ?_ rfl
  simp only [Tryd.ntmps55, List.size_toArray, List.length_cons, List.length_nil, Nat.reduceAdd, Nat.reduceSub, Array.replicate_succ, Array.replicate_zero, List.push_toArray, List.append_toArray, List.nil_append, List.cons_append]
  obtain ⟨hm, hm2⟩ := hR.2.len
  have HR := Lib.hid hR
  have hB := hR.1.cell
  have HY := Lib.hid hY
  rw [← hm] at HY ⊢
  have HM := Lib.hid hm
  clear hR hY hm
  have hmw : IntKind.i64.wrap ((m : Int) - 1) = (m : Int) - 1 := by rw [IntKind.wrap_i64]; omega
  gi_wp2
  gi_loopw [3] (fun i wr => ∃ k : Nat, k ≤ m ∧ i = .int .i64 ((m : Int) - 1 - (k : Int)) ∧ J (List.range k) wr ∧ Rl Bs (.slice a m cap) xs S wr) (fun i _ => (intOf i + 1).toNat)
  case atStart => exact ⟨0, Nat.zero_le _, by simp, h0, HR.out⟩
  case round =>
    obtain ⟨k, hk, rfl, hJs, hRk⟩ := hrel
    by_cases hlt : k < m
    · obtain ⟨j, hj⟩ : ∃ j, j = m - 1 - k := ⟨_, rfl⟩
      have hij : (m : Int) - 1 - (k : Int) = (j : Int) := by omega
      obtain ⟨x, hx⟩ : ∃ x, xs[j]? = some x := ⟨_, List.getElem?_eq_getElem (by have := HM.out; omega)⟩
      have hgd : xs.getD (m - 1 - k) 0 = x := by rw [← hj, List.getD_eq_getElem?_getD, hx]; rfl
      obtain ⟨b, off, rfl, hSb, c0, c1, c2, c3⟩ := hRk.2.get hx
      have hbl := World.block_lt_of_cell? wr _ c0
      have hO : Off (fun _ => False) wr wr := Off.refl _ wr
      obtain ⟨fn, tmps, assign, body, hy, hround⟩ := HY.out _ k _ (hJ _ _ _ hJs hO.to_grown) (by rw [List.length_range]; exact hlt)
      rw [hgd, ← hj] at hy
      rw [hij]
      have hB2 := hRk.1.cell
      have hjm : j < m := by omega
      have hj0 : decide ((0 : Int) ≤ (j : Int)) = true := by simp
      have HRk := Lib.hid hRk
      have HIJ := Lib.hid hij
      clear hRk hJs hgd hx hO hj hij
      gi_wp2
      refine hround.mono ?_
      rintro e W3 (⟨rfl, hJ3, hk3⟩ | ⟨rfl, hJx3⟩)
      · have hR3 := hk3 HRk.out
        have hjw : IntKind.i64.wrap ((j : Int) - 1) = (j : Int) - 1 := by rw [IntKind.wrap_i64]; omega
        clear hround hk3 hy c0 c1 c2 c3 hB2
        gi_wp2
        go_roundw
        case rel => exact ⟨k + 1, by omega, by have := HIJ.out; congr 1; omega, by rw [List.range_succ]; exact hJ3, hR3⟩
        case measure => simp [intOf] <;> omega
      · clear hround hy c0 c1 c2 c3
        gi_wp2
        refine bodyPost_ret (results_none rfl _ _ _) rfl ?_
        exact ⟨⟨_, rfl⟩, .inr ⟨_, ⟨k + 1, by omega, List.range_succ.symm⟩, hJx3⟩⟩
    · obtain rfl : k = m := by omega
      have hj1 : decide ((0 : Int) ≤ (k : Int) - 1 - (k : Int)) = false := by simp; omega
      gi_wp2
      go_end0
      exact ⟨⟨_, rfl⟩, .inl ⟨_, rfl, hJs⟩⟩
set_option maxHeartbeats 1000000 in
theorem eback_in (n : Nat) (a : Option Addr) (len cap : Nat) (w : World) :
    CallsIn Fence.wide n Tryd.prog 41 #[.slice a len cap] w fun e w' => e = .returned (.func (.func 55) #[] #[.pointer (some ⟨w.heap.size, 0, none⟩)]) ∧ w' = w.alloc (.cells #[.slice a len cap] 38) := by
  refine callsIn_of_wp Tryd.func41 rfl trivial ?_ rfl
  simp only [Tryd.ntmps41, List.size_toArray, List.length_cons, List.length_nil, Nat.reduceAdd, Nat.reduceSub, Array.replicate_succ, Array.replicate_zero, List.push_toArray, List.append_toArray, List.nil_append, List.cons_append]
  gi_wp2
  go_ret
  exact ⟨rfl, rfl⟩
/-- The iterator as a loop takes it. -/
theorem eback_stops (n : Nat) (hn : 1 ≤ n) (Bs : Nat) (a : Option Addr) (m cap : Nat) (xs : List Nat) (S : Nat → Prop) (w : World) (hR : Rl Bs (.slice a m cap) xs S w) :
    SeqStopsK Fence.wide n Tryd.prog 55 #[.pointer (some ⟨Bs, 0, none⟩)] (fun x : Nat => #[.int .i64 (((xs.length - 1 - x : Nat) : Int)), V (xs.getD (xs.length - 1 - x) 0)]) (fun A B => Rl Bs (.slice a m cap) xs S A → Rl Bs (.slice a m cap) xs S B)
      (fun ys => ys = List.range xs.length) (fun pre => ∃ k, k ≤ xs.length ∧ pre = List.range k) xs.length w := fun l J Jx W hW hJ _ hY h0 => by
  have hg := below_grown hW
  exact eback1_in n hn l Bs a m cap xs S J Jx W (fun x A B hx hg => hJ x A B none hx hg (fun r e => by cases e)) (fun pre x W1 hj hlen => hY pre x W1 hj hlen) (hR.kept hg (fun r e => by cases e)) h0
end
section

theorem snoc_ind {α : Type} {P : List α → Prop} (h0 : P []) (h1 : ∀ l x, P l → P (l ++ [x])) (l : List α) : P l := by
  rw [← List.reverse_reverse l]
  induction l.reverse with
  | nil => exact h0
  | cons x r ih => rw [List.reverse_cons]; exact h1 _ _ ih
/-- The first loop: the product so far, and the list of the products before. -/
def bat1 (p : Nat) (vs : List Nat) (pre : List Nat) : Nat × List Nat :=
  pre.foldl (fun s x => (s.1 * facV (vs.getD (x % vs.length) 0) % p, s.2.set (x % vs.length) s.1)) (1, List.replicate vs.length 0)
theorem bat1_snoc (p : Nat) (vs pre : List Nat) (x : Nat) : bat1 p vs (pre ++ [x]) = ((bat1 p vs pre).1 * facV (vs.getD (x % vs.length) 0) % p, (bat1 p vs pre).2.set (x % vs.length) (bat1 p vs pre).1) := by
  unfold bat1; rw [List.foldl_append]; rfl
theorem bat1_length (p : Nat) (vs : List Nat) : ∀ pre : List Nat, (bat1 p vs pre).2.length = vs.length := by
  refine snoc_ind (by simp [bat1]) (fun pre x ih => ?_)
  rw [bat1_snoc]; simp [ih]
theorem bat1_lt {p : Nat} (h1 : 1 < p) (vs : List Nat) : ∀ pre : List Nat, (bat1 p vs pre).1 < p := by
  refine snoc_ind h1 (fun pre x ih => ?_)
  rw [bat1_snoc]; exact Nat.mod_lt _ (by omega)
theorem bat1_range (p : Nat) (vs : List Nat) : ∀ k, k ≤ vs.length → bat1 p vs (List.range k) = (prdV p vs k, (List.range vs.length).map (fun j => if j < k then prdV p vs j else 0))
  | 0, _ => by simp [bat1, prdV, List.map_const']
  | k + 1, hk => by
    have hm : k % vs.length = k := Nat.mod_eq_of_lt (by omega)
    rw [List.range_succ, bat1_snoc, bat1_range p vs k (by omega), hm]
    refine Prod.ext (by simp only [prdV]) ?_
    apply List.ext_getElem?
    intro j
    by_cases hj : j = k
    · subst hj
      rw [List.getElem?_set_self (by simp; omega), List.getElem?_map, List.getElem?_range (by omega)]
      simp
    · rw [List.getElem?_set_ne (fun e => hj e.symm), List.getElem?_map, List.getElem?_map]
      by_cases hj2 : j < vs.length
      · rw [List.getElem?_range hj2]
        simp only [Option.map_some, Option.some.injEq]
        by_cases h1 : j < k
        · rw [if_pos h1, if_pos (by omega)]
        · rw [if_neg h1, if_neg (by omega)]
      · rw [List.getElem?_eq_none (by simp; omega)]; rfl

/-- The second loop: the rest so far, and the list, whose last entries are the inverses. -/
def bat2 (p : Nat) (vs : List Nat) (pre : List Nat) : Nat × List Nat :=
  pre.foldl (fun s x => (s.1 * facV (vs.getD (vs.length - 1 - x) 0) % p, s.2.set (vs.length - 1 - x) (if vs.getD (vs.length - 1 - x) 0 = 0 then 0 else s.2.getD (vs.length - 1 - x) 0 * s.1 % p))) (rstV p vs 0, (List.range vs.length).map (prdV p vs))
theorem bat2_snoc (p : Nat) (vs pre : List Nat) (x : Nat) : bat2 p vs (pre ++ [x]) = ((bat2 p vs pre).1 * facV (vs.getD (vs.length - 1 - x) 0) % p, (bat2 p vs pre).2.set (vs.length - 1 - x) (if vs.getD (vs.length - 1 - x) 0 = 0 then 0 else (bat2 p vs pre).2.getD (vs.length - 1 - x) 0 * (bat2 p vs pre).1 % p)) := by
  unfold bat2; rw [List.foldl_append]; rfl
theorem bat2_length (p : Nat) (vs : List Nat) : ∀ pre : List Nat, (bat2 p vs pre).2.length = vs.length := by
  refine snoc_ind (by simp [bat2]) (fun pre x ih => ?_)
  rw [bat2_snoc]; simp [ih]
theorem bat2_range (p : Nat) (vs : List Nat) : ∀ k, k ≤ vs.length → bat2 p vs (List.range k) = (rstV p vs k, (List.range vs.length).map (fun j => if vs.length - 1 - j < k then batV p vs j else prdV p vs j))
  | 0, _ => by simp [bat2]
  | k + 1, hk => by
    rw [List.range_succ, bat2_snoc, bat2_range p vs k (by omega)]
    refine Prod.ext (by simp only [rstV]) ?_
    apply List.ext_getElem?
    intro j
    by_cases hj : j = vs.length - 1 - k
    · subst hj
      have e : vs.length - 1 - (vs.length - 1 - k) = k := by omega
      rw [List.getElem?_set_self (by simp; omega), List.getElem?_map, List.getElem?_range (by omega)]
      have e3 : ((List.range vs.length).map (fun j => if vs.length - 1 - j < k then batV p vs j else prdV p vs j)).getD (vs.length - 1 - k) 0 = prdV p vs (vs.length - 1 - k) := by
        rw [List.getD_eq_getElem?_getD, List.getElem?_map, List.getElem?_range (by omega)]
        simp only [Option.map_some, Option.getD_some, e]
        rw [if_neg (Nat.lt_irrefl k)]
      rw [e3]
      simp only [Option.map_some, Option.some.injEq, e]
      rw [if_pos (Nat.lt_succ_self k)]
      unfold batV
      rw [e]
    · rw [List.getElem?_set_ne (fun e => hj e.symm), List.getElem?_map, List.getElem?_map]
      by_cases hj2 : j < vs.length
      · rw [List.getElem?_range hj2]
        simp only [Option.map_some, Option.some.injEq]
        by_cases h1 : vs.length - 1 - j < k
        · rw [if_pos h1, if_pos (by omega)]
        · rw [if_neg h1, if_neg (by omega)]
      · rw [List.getElem?_eq_none (by simp; omega)]; rfl
/-- The list of the inverses. -/
def batL (p : Nat) (vs : List Nat) : List Nat := (List.range vs.length).map (batV p vs)
theorem batL_length (p : Nat) (vs : List Nat) : (batL p vs).length = vs.length := by simp [batL]
theorem batL_get {p : Nat} {vs : List Nat} {j : Nat} (hj : j < vs.length) : (batL p vs)[j]? = some (batV p vs j) := by
  unfold batL; rw [List.getElem?_map, List.getElem?_range hj]; rfl
theorem bat1_done (p : Nat) (vs : List Nat) : bat1 p vs (List.range vs.length) = (prdV p vs vs.length, (List.range vs.length).map (prdV p vs)) := by
  rw [bat1_range p vs _ (Nat.le_refl _)]
  refine Prod.ext rfl ?_
  apply List.map_congr_left
  intro j hj
  rw [if_pos (List.mem_range.1 hj)]
theorem bat2_done (p : Nat) (vs : List Nat) : bat2 p vs (List.range vs.length) = (rstV p vs vs.length, batL p vs) := by
  rw [bat2_range p vs _ (Nat.le_refl _)]
  refine Prod.ext rfl ?_
  apply List.map_congr_left
  intro j hj
  have := List.mem_range.1 hj
  rw [if_pos (by omega)]
/-- The events of the two loops. -/
def coefU (n : Nat) (pre : List Nat) : List Ev := pre.map (fun x : Nat => ((2 : Int), ((x % n : Nat) : Int), (0 : Int)))
def coefD (n : Nat) (pre : List Nat) : List Ev := pre.map (fun x : Nat => ((2 : Int), ((n - 1 - x : Nat) : Int), (0 : Int)))
theorem coefU_snoc (n : Nat) (pre : List Nat) (x : Nat) : coefU n (pre ++ [x]) = coefU n pre ++ [((2 : Int), ((x % n : Nat) : Int), (0 : Int))] := by simp [coefU]
theorem coefD_snoc (n : Nat) (pre : List Nat) (x : Nat) : coefD n (pre ++ [x]) = coefD n pre ++ [((2 : Int), ((n - 1 - x : Nat) : Int), (0 : Int))] := by simp [coefD]
theorem coefU_length (n : Nat) (pre : List Nat) : (coefU n pre).length = pre.length := by simp [coefU]
theorem coefD_length (n : Nat) (pre : List Nat) : (coefD n pre).length = pre.length := by simp [coefD]
end
section
open Go.RowKit
attribute [local go_sem ↓] Go.wp_at_zero Go.wp_at_succ
theorem fm_fac {p v : Nat} (h : Mp p) (hv : v < p) : fm p (facV v) = if zeroN (fm p v) then radV p 256 else fm p v := by
  unfold facV zeroN
  by_cases h0 : v = 0
  · subst h0; rw [fm_zero]; simp [fm_one]
  · rw [if_neg h0, if_neg]
    intro h1
    simp only [decide_eq_true_eq] at h1
    exact h0 (fm_inj h hv h.pos (h1.trans (fm_zero p).symm))
set_option maxRecDepth 100000 in
set_option maxHeartbeats 4000000 in
theorem factor_any {id : Int} {p i r s : Nat} (hF : Fld id p i r s) (v : Nat) (hv : v < p) (w : World) :
    Calls Tryd.prog 40 #[FV id p i r s, V (fm p v)] w fun x w' => x = .returned (V (fm p (facV v))) ∧ Off (fun _ => False) w w' := by
  have hpl := hF.mp.lt
  have hz1 := fm_fac hF.mp hv
  rw [← hF.rr] at hz1
  have HZ := Lib.hid (fun W => miszero_any (fm p v) (Nat.lt_trans (fm_lt hF.mp.pos _) hpl) W)
  have HC := Lib.hid (fun W => mchoose_any (mk (zeroN (fm p v))) (mk_word _) r (fm p v) W)
  rw [selN_mk] at HC
  rw [← hz1] at HC
  obtain ⟨z, hz⟩ : ∃ z, z = fm p (facV v) := ⟨_, rfl⟩
  rw [← hz] at HC ⊢
  obtain ⟨m, hm⟩ : ∃ m, m = mk (zeroN (fm p v)) := ⟨_, rfl⟩
  rw [← hm] at HZ HC
  obtain ⟨x, hx⟩ : ∃ x, x = fm p v := ⟨_, rfl⟩
  rw [← hx] at HZ HC ⊢
  clear hx hm hz hz1 hpl hF hv
  obtain ⟨W0, hW0⟩ : ∃ W0, W0 = ((w.alloc (.cells #[.int .i64 id, .int .u64 (wd p 0 : Int), .int .u64 (wd p 1 : Int), .int .u64 (wd p 2 : Int), .int .u64 (wd p 3 : Int), .int .u64 (i : Int), .int .u64 (wd r 0 : Int), .int .u64 (wd r 1 : Int), .int .u64 (wd r 2 : Int), .int .u64 (wd r 3 : Int), .int .u64 (wd s 0 : Int), .int .u64 (wd s 1 : Int), .int .u64 (wd s 2 : Int), .int .u64 (wd s 3 : Int)] 26)).alloc (.cells #[.int .u64 (wd x 0 : Int), .int .u64 (wd x 1 : Int), .int .u64 (wd x 2 : Int), .int .u64 (wd x 3 : Int)] 24)).alloc (.cells #[.int .u64 0, .int .u64 0, .int .u64 0, .int .u64 0] 24) := ⟨_, rfl⟩
  have hO0 : Off (fun _ => False) w W0 := by rw [hW0]; exact (((Off.refl _ w).alloc _).alloc _).alloc _
  have hf0 : W0.heap[w.heap.size]? = some (.cells #[.int .i64 id, .int .u64 (wd p 0 : Int), .int .u64 (wd p 1 : Int), .int .u64 (wd p 2 : Int), .int .u64 (wd p 3 : Int), .int .u64 (i : Int), .int .u64 (wd r 0 : Int), .int .u64 (wd r 1 : Int), .int .u64 (wd r 2 : Int), .int .u64 (wd r 3 : Int), .int .u64 (wd s 0 : Int), .int .u64 (wd s 1 : Int), .int .u64 (wd s 2 : Int), .int .u64 (wd s 3 : Int)] 26) := by rw [hW0]; exact heap_old' (heap_old' (heap_new' rfl _) _) _
  have hx0 : W0.heap[w.heap.size + 1]? = some (.cells #[.int .u64 (wd x 0 : Int), .int .u64 (wd x 1 : Int), .int .u64 (wd x 2 : Int), .int .u64 (wd x 3 : Int)] 24) := by rw [hW0]; exact heap_old' (heap_new' (by simp) _) _
  have HR := Lib.hid (show W0.heap[w.heap.size + 2]? = some (.cells #[.int .u64 0, .int .u64 0, .int .u64 0, .int .u64 0] 24) by rw [hW0]; exact heap_new' (by simp) _)
  have HK : Hid (∀ W, Off (fun k => k = (w.heap.size + 2)) W0 W → (W.cell? ⟨w.heap.size, 0, none⟩ = some (.int .i64 id) ∧ W.cell? ⟨w.heap.size, 1, none⟩ = some (.int .u64 (wd p 0 : Int)) ∧ W.cell? ⟨w.heap.size, 2, none⟩ = some (.int .u64 (wd p 1 : Int)) ∧ W.cell? ⟨w.heap.size, 3, none⟩ = some (.int .u64 (wd p 2 : Int)) ∧ W.cell? ⟨w.heap.size, 4, none⟩ = some (.int .u64 (wd p 3 : Int)) ∧ W.cell? ⟨w.heap.size, 5, none⟩ = some (.int .u64 (i : Int)) ∧ W.cell? ⟨w.heap.size, 6, none⟩ = some (.int .u64 (wd r 0 : Int)) ∧ W.cell? ⟨w.heap.size, 7, none⟩ = some (.int .u64 (wd r 1 : Int)) ∧ W.cell? ⟨w.heap.size, 8, none⟩ = some (.int .u64 (wd r 2 : Int)) ∧ W.cell? ⟨w.heap.size, 9, none⟩ = some (.int .u64 (wd r 3 : Int)) ∧ W.cell? ⟨w.heap.size, 10, none⟩ = some (.int .u64 (wd s 0 : Int)) ∧ W.cell? ⟨w.heap.size, 11, none⟩ = some (.int .u64 (wd s 1 : Int)) ∧ W.cell? ⟨w.heap.size, 12, none⟩ = some (.int .u64 (wd s 2 : Int)) ∧ W.cell? ⟨w.heap.size, 13, none⟩ = some (.int .u64 (wd s 3 : Int))) ∧ (W.cell? ⟨w.heap.size + 1, 0, none⟩ = some (.int .u64 (wd x 0 : Int)) ∧ W.cell? ⟨w.heap.size + 1, 1, none⟩ = some (.int .u64 (wd x 1 : Int)) ∧ W.cell? ⟨w.heap.size + 1, 2, none⟩ = some (.int .u64 (wd x 2 : Int)) ∧ W.cell? ⟨w.heap.size + 1, 3, none⟩ = some (.int .u64 (wd x 3 : Int))) ∧ Off (fun k => k = (w.heap.size + 2)) W0 W) := Lib.hid (fun W h => ⟨fv_cells (h.heap hf0 (by omega)), cells4 (h.heap hx0 (by omega)), h⟩)
  have HO0 := Lib.hid hO0
  have HW0 := Lib.hid hW0
  clear hO0 hf0 hx0 hW0
  go_enter Tryd.func40, Tryd.ntmps40
  go_upto_region 1 with fail
  rw [← HW0.out]
  refine wp_region_inv (fun a0 l a' w' => ∃ (u5 : Value) (u6 : Value) (u7 : Value) (u8 : Value) (u9 : Value) (u10 : Value), a' = (Act.put (Act.put (Act.put (Act.put (Act.put (Act.put a0 (some 5) u5) (some 6) u6) (some 7) u7) (some 8) u8) (some 9) u9) (some 10) u10) ∧ Slot l 0 u5 (V x) ∧ Slot l 1 u6 (.int .u64 m) ∧ Slot l 2 u7 (.pointer (some ⟨w.heap.size, 6, none⟩)) ∧ Slot l 3 u8 (V r) ∧ Slot l 4 u9 (V x) ∧ Slot l 5 u10 (V z) ∧ Old l 6 (w.heap.size + 2) W0 w' (.cells #[.int .u64 0, .int .u64 0, .int .u64 0, .int .u64 0] 24) (.cells #[.int .u64 (wd z 0 : Int), .int .u64 (wd z 1 : Int), .int .u64 (wd z 2 : Int), .int .u64 (wd z 3 : Int)] 24) ∧ Off (fun k => k = (w.heap.size + 2)) W0 w') (by kernel_rfl) (by kernel_rfl) ?_ ⟨?_, ?_, ?_, ?_, ?_, ?_, ?_, trivial⟩ ?_
  · refine ⟨?z5, ?z6, ?z7, ?z8, ?z9, ?z10, ?fr, Slot.start _ _ _, Slot.start _ _ _, Slot.start _ _ _, Slot.start _ _ _, Slot.start _ _ _, Slot.start _ _ _, Old.start HR.out _ _, (Off.refl _ W0).drew⟩
    case fr => first | (simp only [Act.put, List.setIfInBounds_toArray, List.set_cons_zero, List.set_cons_succ]; rfl) | simp only [Act.put, List.setIfInBounds_toArray, List.set_cons_zero, List.set_cons_succ]
  · intro l a wr hI hl hd K' hK
    obtain ⟨u5, u6, u7, u8, u9, u10, ha, s0, s1, s2, s3, s4, s5, O0, hO⟩ := hI
    simp only [Act.put, List.setIfInBounds_toArray, List.set_cons_zero, List.set_cons_succ] at ha
    subst ha
    have hc := HK.out wr hO
    have p0 := hc.2.1.1
    have p1 := hc.2.1.2.1
    have p2 := hc.2.1.2.2.1
    have p3 := hc.2.1.2.2.2
    clear hc
    go_simp
    refine hK.out _ _ ⟨_, _, _, _, _, _, ?_, Slot.new _ _ _, s1.keep rfl, s2.keep rfl, s3.keep rfl, s4.keep rfl, s5.keep rfl, O0.keep (Off.refl _ wr) rfl, hO⟩
    simp only [Act.put, List.setIfInBounds_toArray, List.set_cons_zero, List.set_cons_succ]
  · intro l a wr hI hl hd K' hK
    obtain ⟨u5, u6, u7, u8, u9, u10, ha, s0, s1, s2, s3, s4, s5, O0, hO⟩ := hI
    simp only [Act.put, List.setIfInBounds_toArray, List.set_cons_zero, List.set_cons_succ] at ha
    have q0 := s0 (hd 0 (by decide))
    subst ha q0
    go_simp
    refine (held_inv (HZ.out wr) hO).mono ?_
    rintro e w1 ⟨rfl, hO1, hOW⟩
    go_wp2_with fail
    refine hK.out _ _ ⟨_, _, _, _, _, _, ?_, s0.keep rfl, Slot.new _ _ _, s2.keep rfl, s3.keep rfl, s4.keep rfl, s5.keep rfl, O0.keep hOW rfl, hO1⟩
    simp only [Act.put, List.setIfInBounds_toArray, List.set_cons_zero, List.set_cons_succ]
  · intro l a wr hI hl hd K' hK
    obtain ⟨u5, u6, u7, u8, u9, u10, ha, s0, s1, s2, s3, s4, s5, O0, hO⟩ := hI
    simp only [Act.put, List.setIfInBounds_toArray, List.set_cons_zero, List.set_cons_succ] at ha
    subst ha
    go_simp
    refine hK.out _ _ ⟨_, _, _, _, _, _, ?_, s0.keep rfl, s1.keep rfl, Slot.new _ _ _, s3.keep rfl, s4.keep rfl, s5.keep rfl, O0.keep (Off.refl _ wr) rfl, hO⟩
    simp only [Act.put, List.setIfInBounds_toArray, List.set_cons_zero, List.set_cons_succ]
  · intro l a wr hI hl hd K' hK
    obtain ⟨u5, u6, u7, u8, u9, u10, ha, s0, s1, s2, s3, s4, s5, O0, hO⟩ := hI
    simp only [Act.put, List.setIfInBounds_toArray, List.set_cons_zero, List.set_cons_succ] at ha
    have q2 := s2 (hd 2 (by decide))
    subst ha q2
    have hc := HK.out wr hO
    have p0 := hc.1.1
    have p1 := hc.1.2.1
    have p2 := hc.1.2.2.1
    have p3 := hc.1.2.2.2.1
    have p4 := hc.1.2.2.2.2.1
    have p5 := hc.1.2.2.2.2.2.1
    have p6 := hc.1.2.2.2.2.2.2.1
    have p7 := hc.1.2.2.2.2.2.2.2.1
    have p8 := hc.1.2.2.2.2.2.2.2.2.1
    have p9 := hc.1.2.2.2.2.2.2.2.2.2.1
    have p10 := hc.1.2.2.2.2.2.2.2.2.2.2.1
    have p11 := hc.1.2.2.2.2.2.2.2.2.2.2.2.1
    have p12 := hc.1.2.2.2.2.2.2.2.2.2.2.2.2.1
    have p13 := hc.1.2.2.2.2.2.2.2.2.2.2.2.2.2
    clear hc
    go_simp
    refine hK.out _ _ ⟨_, _, _, _, _, _, ?_, s0.keep rfl, s1.keep rfl, s2.keep rfl, Slot.new _ _ _, s4.keep rfl, s5.keep rfl, O0.keep (Off.refl _ wr) rfl, hO⟩
    simp only [Act.put, List.setIfInBounds_toArray, List.set_cons_zero, List.set_cons_succ]
  · intro l a wr hI hl hd K' hK
    obtain ⟨u5, u6, u7, u8, u9, u10, ha, s0, s1, s2, s3, s4, s5, O0, hO⟩ := hI
    simp only [Act.put, List.setIfInBounds_toArray, List.set_cons_zero, List.set_cons_succ] at ha
    subst ha
    have hc := HK.out wr hO
    have p0 := hc.2.1.1
    have p1 := hc.2.1.2.1
    have p2 := hc.2.1.2.2.1
    have p3 := hc.2.1.2.2.2
    clear hc
    go_simp
    refine hK.out _ _ ⟨_, _, _, _, _, _, ?_, s0.keep rfl, s1.keep rfl, s2.keep rfl, s3.keep rfl, Slot.new _ _ _, s5.keep rfl, O0.keep (Off.refl _ wr) rfl, hO⟩
    simp only [Act.put, List.setIfInBounds_toArray, List.set_cons_zero, List.set_cons_succ]
  · intro l a wr hI hl hd K' hK
    obtain ⟨u5, u6, u7, u8, u9, u10, ha, s0, s1, s2, s3, s4, s5, O0, hO⟩ := hI
    simp only [Act.put, List.setIfInBounds_toArray, List.set_cons_zero, List.set_cons_succ] at ha
    have q1 := s1 (hd 1 (by decide))
    have q3 := s3 (hd 3 (by decide))
    have q4 := s4 (hd 4 (by decide))
    subst ha q1 q3 q4
    go_simp
    refine (held_inv (HC.out wr) hO).mono ?_
    rintro e w1 ⟨rfl, hO1, hOW⟩
    go_wp2_with fail
    refine hK.out _ _ ⟨_, _, _, _, _, _, ?_, s0.keep rfl, s1.keep rfl, s2.keep rfl, s3.keep rfl, s4.keep rfl, Slot.new _ _ _, O0.keep hOW rfl, hO1⟩
    simp only [Act.put, List.setIfInBounds_toArray, List.set_cons_zero, List.set_cons_succ]
  · intro l a wr hI hl hd K' hK
    obtain ⟨u5, u6, u7, u8, u9, u10, ha, s0, s1, s2, s3, s4, s5, O0, hO⟩ := hI
    simp only [Act.put, List.setIfInBounds_toArray, List.set_cons_zero, List.set_cons_succ] at ha
    have q5 := s5 (hd 5 (by decide))
    subst ha q5
    have hZ := (O0.was hl)
    obtain ⟨m0, m1, m2, m3⟩ := cells4 hZ
    have fz := fun j => frozen_of_heap hZ j
    have lt := heap_lt hZ
    clear hZ
    go_simp
    refine hK.out _ _ ⟨_, _, _, _, _, _, ?_, s0.keep rfl, s1.keep rfl, s2.keep rfl, s3.keep rfl, s4.keep rfl, s5.keep rfl, O0.put hl rfl, setCells_in hO (fun _ => rfl) [.int .u64 (wd z 0 : Int), .int .u64 (wd z 1 : Int), .int .u64 (wd z 2 : Int), .int .u64 (wd z 3 : Int)]⟩
    simp only [Act.put, List.setIfInBounds_toArray, List.set_cons_zero, List.set_cons_succ]
  · intro l a wc hI hd
    obtain ⟨u5, u6, u7, u8, u9, u10, ha, s0, s1, s2, s3, s4, s5, O0, hO⟩ := hI
    simp only [Act.put, List.setIfInBounds_toArray, List.set_cons_zero, List.set_cons_succ] at ha
    have q0 := s0 (hd 0 (by decide))
    have q1 := s1 (hd 1 (by decide))
    have q2 := s2 (hd 2 (by decide))
    have q3 := s3 (hd 3 (by decide))
    have q4 := s4 (hd 4 (by decide))
    have q5 := s5 (hd 5 (by decide))
    have r0 : wc.heap[(w.heap.size + 2)]? = some (.cells #[.int .u64 (wd z 0 : Int), .int .u64 (wd z 1 : Int), .int .u64 (wd z 2 : Int), .int .u64 (wd z 3 : Int)] 24) := O0.now (hd 6 (by decide))
    subst ha q0 q1 q2 q3 q4 q5
    clear hd s0 s1 s2 s3 s4 s5 O0
    obtain ⟨r0', r1', r2', r3'⟩ := cells4 r0
    have HOf := Lib.hid (HO0.out.trans hO (fun k hk e => by omega))
    clear r0 hO
    go_wp2
    exact bodyPost_ret (v := V z) (by simp [results, Tryd.results40, go_sem, r0', r1', r2', r3']) rfl ⟨rfl, HOf.out⟩
end
section
open Go.RowKit
attribute [local go_sem] Oper.semAt_some wide_fn

/-- What a tape's blocks are made of. -/
def Typed (w : World) (k : Nat) : Prop := ∃ c T, w.heap[k]? = some (.cells c T (0, 0)) ∧ (T = 74 ∨ T = 81 ∨ T = 83)
theorem TapeG.typed {w : World} {b : Nat} {es : List Ev} {S : Nat → Prop} {nb : Nat} (h : TapeG w b es S nb) : TapeG w b es (fun k => S k ∧ Typed w k) nb := by
  obtain ⟨sv, ebs, h1, h2, h3, h4, h5, h6, h7, h8⟩ := h
  refine ⟨sv, ebs, h1, ⟨h2, _, _, h1, .inl rfl⟩, h3, fun k hk => ⟨h4 k hk, ?_⟩, h5, h6, fun eb he => ⟨⟨(h7 eb he).1, ?_⟩, (h7 eb he).2⟩, h8⟩
  · obtain ⟨cur, hc⟩ := ownBlock_row h3 hk
    exact ⟨_, _, hc, .inr (.inl rfl)⟩
  · obtain ⟨_, c, hc, _⟩ := h7 eb he
    exact ⟨_, _, hc, .inr (.inr rfl)⟩
theorem Tp.typed {w : World} {q : Option Addr} {es : List Ev} {S : Nat → Prop} (h : Tp w q es S) : Tp w q es (fun k => S k ∧ Typed w k) := by
  refine ⟨?_, fun k hk => h.2 k hk.1⟩
  rcases h.1 with hn | ⟨b, hv, ht⟩
  · exact .inl hn
  · exact .inr ⟨b, hv, TapeG.typed ht⟩
theorem not_typed {w : World} {k : Nat} {c : Array Value} (h : w.heap[k]? = some (.cells c 24 (0, 0))) : ¬ Typed w k := by
  rintro ⟨c', T, h2, hT⟩
  rw [h] at h2
  simp only [Option.some.injEq, Obj.cells.injEq] at h2
  obtain ⟨_, rfl, _⟩ := h2
  rcases hT with h | h | h <;> exact absurd h (by decide)
theorem elem_info : (Tryd.prog.info? 24).map (fun i => (i.zero, i.size, i.bytes)) = some (some (.agg #[.int .u64 0, .int .u64 0, .int .u64 0, .int .u64 0]), 4, 32) := by kernel_rfl
theorem made_zero4 (n : Nat) : madeCells #[.int .u64 0, .int .u64 0, .int .u64 0, .int .u64 0] (n * 4) = (flat4 (List.replicate n 0)).toArray := by
  rw [flat4_zero]
  apply Array.ext'
  apply List.ext_getElem?
  intro j
  by_cases hj : j < n * 4
  · have h4 : j % 4 = 0 ∨ j % 4 = 1 ∨ j % 4 = 2 ∨ j % 4 = 3 := by omega
    simp [madeCells, hj]
    rcases h4 with h | h | h | h <;> simp [h]
  · rw [List.getElem?_eq_none (by simp [madeCells]; omega), List.getElem?_eq_none (by simp; omega)]
theorem run_make_el (n : Nat) (hn : n ≤ 100000) (w : World) : (Instr.makeSlice 38 (.int .i64 (n : Int)) (.int .i64 (n : Int))).run Tryd.prog w = .ok (.slice (some ⟨w.heap.size, 0, none⟩) n n) (w.alloc (.cells (flat4 (List.replicate n 0)).toArray 24)) := by
  obtain ⟨i0, hi, hz0, hz1, hz2⟩ := info_parts elem_info
  have := run_make (P := Tryd.prog) w 38 24 i0 _ Tryd.underlying38 hi hz0 .i64 .i64 (n : Int) (n : Int) (by omega) (Int.le_refl _) (by rw [hz2]; omega) (by omega)
  rw [hz1, show (Value.agg #[.int .u64 0, .int .u64 0, .int .u64 0, .int .u64 0]).cells = #[.int .u64 0, .int .u64 0, .int .u64 0, .int .u64 0] from rfl] at this
  rw [← made_zero4]
  simpa using this
/-- What the loops of Batch keep: the boxes, the list that is made, the product or the rest, the list that is read, the tape. -/
structure BatC (w W : World) (id : Int) (p i r s b0 b1 arr b3 pb lb : Nat) (a : Option Addr) (n cap : Nat) (xs : List Nat) (Sl : Nat → Prop) (q : Option Addr) (es : List Ev) (S S' : Nat → Prop) (L : List Nat) (u : Nat) : Prop where
  tb : W.heap[b0]? = some (.cells #[.pointer q] 41)
  fb : W.heap[b1]? = some (.cells #[.int .i64 id, .int .u64 (wd p 0 : Int), .int .u64 (wd p 1 : Int), .int .u64 (wd p 2 : Int), .int .u64 (wd p 3 : Int), .int .u64 (i : Int), .int .u64 (wd r 0 : Int), .int .u64 (wd r 1 : Int), .int .u64 (wd r 2 : Int), .int .u64 (wd r 3 : Int), .int .u64 (wd s 0 : Int), .int .u64 (wd s 1 : Int), .int .u64 (wd s 2 : Int), .int .u64 (wd s 3 : Int)] 26)
  ars : NumsAt W arr 24 L
  sb : W.heap[b3]? = some (.cells #[.slice (some ⟨arr, 0, none⟩) n n] 38)
  pr : W.heap[pb]? = some (.cells #[.int .u64 (wd u 0 : Int), .int .u64 (wd u 1 : Int), .int .u64 (wd u 2 : Int), .int .u64 (wd u 3 : Int)] 24)
  src : Rl lb (.slice a n cap) xs Sl W
  tp : Tp W q es S'
  new : ∀ b, S' b → S b ∨ (b3 < b ∧ b ≠ pb ∧ b ≠ lb)
  off : Off S w W
/-- Where the blocks lie. -/
structure BatB (w : World) (S Sl : Nat → Prop) (b0 b1 arr b3 pb lb : Nat) : Prop where
  c0 : w.heap.size ≤ b0
  c1 : b0 < b1
  c2 : b1 < arr
  c3 : arr < b3
  c4 : b3 < pb
  c5 : pb < lb
  old : ∀ b, S b → b < w.heap.size
  lst : ∀ b, Sl b → b < w.heap.size ∧ ¬ S b
theorem BatC.far {w W : World} {id : Int} {p i r s b0 b1 arr b3 pb lb : Nat} {a : Option Addr} {n cap : Nat} {xs : List Nat} {Sl : Nat → Prop} {q : Option Addr} {es : List Ev} {S S' : Nat → Prop} {L : List Nat} {u : Nat}
    (h : BatC w W id p i r s b0 b1 arr b3 pb lb a n cap xs Sl q es S S' L u) (hB : BatB w S Sl b0 b1 arr b3 pb lb) {b : Nat} (h1 : w.heap.size ≤ b) (h2 : b ≤ b3 ∨ b = pb ∨ b = lb) : ¬ S' b :=
  fun c => (h.new b c).elim (fun c => by have := hB.old b c; omega) (fun c => by omega)
/-- A step that notes nothing and stores into none of it. -/
theorem BatC.keep {w W W' : World} {id : Int} {p i r s b0 b1 arr b3 pb lb : Nat} {a : Option Addr} {n cap : Nat} {xs : List Nat} {Sl : Nat → Prop} {q : Option Addr} {es : List Ev} {S S' : Nat → Prop} {L : List Nat} {u : Nat}
    (h : BatC w W id p i r s b0 b1 arr b3 pb lb a n cap xs Sl q es S S' L u) (ho : Off (fun _ => False) W W') : BatC w W' id p i r s b0 b1 arr b3 pb lb a n cap xs Sl q es S S' L u :=
  ⟨ho.heap h.tb (fun c => c), ho.heap h.fb (fun c => c), h.ars.off ho (fun c => c), ho.heap h.sb (fun c => c), ho.heap h.pr (fun c => c), h.src.off ho (fun c => c) (fun _ _ _ c => c), h.tp.off0 ho, h.new, h.off.trans ho (fun _ _ c => c.elim)⟩
theorem BatC.kept {w W W' : World} {row : Option Nat} {id : Int} {p i r s b0 b1 arr b3 pb lb : Nat} {a : Option Addr} {n cap : Nat} {xs : List Nat} {Sl : Nat → Prop} {q : Option Addr} {es : List Ev} {S S' : Nat → Prop} {L : List Nat} {u : Nat}
    (h : BatC w W id p i r s b0 b1 arr b3 pb lb a n cap xs Sl q es S S' L u) (hg : W.grownBy W' row) (hr : ∀ r, row = some r → w.heap.size ≤ r ∧ ∃ o : Obj, W.heap[r]? = some o ∧ o.isCells = false) : BatC w W' id p i r s b0 b1 arr b3 pb lb a n cap xs Sl q es S S' L u := by
  have hr' : ∀ r, row = some r → ∃ o : Obj, W.heap[r]? = some o ∧ o.isCells = false := fun r e => (hr r e).2
  have k : ∀ {b : Nat} {c : Array Value} {T : TypeId}, W.heap[b]? = some (.cells c T (0, 0)) → W'.heap[b]? = some (.cells c T (0, 0)) := fun h => (grownBy_keeps_cells hg hr' h rfl).trans h
  exact ⟨k h.tb, k h.fb, k h.ars, k h.sb, k h.pr, h.src.kept hg hr', ⟨h.tp.1.kept hg hr', fun b c => Nat.lt_of_lt_of_le (h.tp.2 b c) hg.size⟩, h.new, h.off.later hg (fun r e => (hr r e).1)⟩
/-- A step that stores into the product or the rest. -/
theorem BatC.put {w W W' : World} {id : Int} {p i r s b0 b1 arr b3 pb lb : Nat} {a : Option Addr} {n cap : Nat} {xs : List Nat} {Sl : Nat → Prop} {q : Option Addr} {es : List Ev} {S S' : Nat → Prop} {L : List Nat} {u : Nat}
    (h : BatC w W id p i r s b0 b1 arr b3 pb lb a n cap xs Sl q es S S' L u) (hB : BatB w S Sl b0 b1 arr b3 pb lb) (ho : Off (fun k => k = pb) W W') {z : Nat} (hz : W'.heap[pb]? = some (.cells #[.int .u64 (wd z 0 : Int), .int .u64 (wd z 1 : Int), .int .u64 (wd z 2 : Int), .int .u64 (wd z 3 : Int)] 24)) : BatC w W' id p i r s b0 b1 arr b3 pb lb a n cap xs Sl q es S S' L z := by
  have c0 := hB.c0; have c1 := hB.c1; have c2 := hB.c2; have c3 := hB.c3; have c4 := hB.c4; have c5 := hB.c5
  exact ⟨ho.heap h.tb (by omega), ho.heap h.fb (by omega), h.ars.off ho (by omega), ho.heap h.sb (by omega), hz, h.src.off ho (by omega) (fun k _ hk e => by have := (hB.lst k hk).1; omega), h.tp.off ho (fun b e c => by subst e; exact h.far hB (by omega) (by omega) c), h.new, h.off.trans ho (fun b hb e => by omega)⟩
/-- A step that stores into the list that is made. -/
theorem BatC.arr' {w W W' : World} {id : Int} {p i r s b0 b1 arr b3 pb lb : Nat} {a : Option Addr} {n cap : Nat} {xs : List Nat} {Sl : Nat → Prop} {q : Option Addr} {es : List Ev} {S S' : Nat → Prop} {L L2 : List Nat} {u : Nat}
    (h : BatC w W id p i r s b0 b1 arr b3 pb lb a n cap xs Sl q es S S' L u) (hB : BatB w S Sl b0 b1 arr b3 pb lb) (ho : Off (fun k => k = arr) W W') (hz : NumsAt W' arr 24 L2) : BatC w W' id p i r s b0 b1 arr b3 pb lb a n cap xs Sl q es S S' L2 u := by
  have c0 := hB.c0; have c1 := hB.c1; have c2 := hB.c2; have c3 := hB.c3; have c4 := hB.c4; have c5 := hB.c5
  exact ⟨ho.heap h.tb (by omega), ho.heap h.fb (by omega), hz, ho.heap h.sb (by omega), ho.heap h.pr (by omega), h.src.off ho (by omega) (fun k _ hk e => by have := (hB.lst k hk).1; omega), h.tp.off ho (fun b e c => by subst e; exact h.far hB (by omega) (by omega) c), h.new, h.off.trans ho (fun b hb e => by omega)⟩
/-- A step that notes events. -/
theorem BatC.note {w W W' : World} {id : Int} {p i r s b0 b1 arr b3 pb lb : Nat} {a : Option Addr} {n cap : Nat} {xs : List Nat} {Sl : Nat → Prop} {q : Option Addr} {es ls : List Ev} {S S' : Nat → Prop} {L : List Nat} {u : Nat}
    (h : BatC w W id p i r s b0 b1 arr b3 pb lb a n cap xs Sl q es S S' L u) (hB : BatB w S Sl b0 b1 arr b3 pb lb) (ho : Off S' W W') (hn : Noted W.heap.size q es ls S' W') : ∃ S2, BatC w W' id p i r s b0 b1 arr b3 pb lb a n cap xs Sl q (ext q es ls) S S2 L u := by
  have c0 := hB.c0; have c1 := hB.c1; have c2 := hB.c2; have c3 := hB.c3; have c4 := hB.c4; have c5 := hB.c5
  obtain ⟨S2, t1, t2⟩ := hn
  have hx : ∀ b, w.heap.size ≤ b → (b ≤ b3 ∨ b = pb ∨ b = lb) → ¬ S' b := fun b h1 h2 => h.far hB h1 h2
  have l1 := heap_lt h.pr
  have l2 := h.src.1.lt
  exact ⟨S2, ho.heap h.tb (hx _ (by omega) (by omega)), ho.heap h.fb (hx _ (by omega) (by omega)), h.ars.off ho (hx _ (by omega) (by omega)), ho.heap h.sb (hx _ (by omega) (by omega)), ho.heap h.pr (hx _ (by omega) (by omega)),
    h.src.off ho (hx _ (by omega) (by omega)) (fun k _ hk c => (h.new k c).elim (hB.lst k hk).2 (fun c => by have := (hB.lst k hk).1; omega)), t1, fun b c => (t2 b c).elim (h.new b) (fun c => .inr ⟨by omega, by omega, by omega⟩), h.off.trans ho (fun b hb c => (h.new b c).elim (fun c => c) (fun c => by omega))⟩
/-- The tape's blocks are none of elements. -/
theorem BatC.typed {w W : World} {id : Int} {p i r s b0 b1 arr b3 pb lb : Nat} {a : Option Addr} {n cap : Nat} {xs : List Nat} {Sl : Nat → Prop} {q : Option Addr} {es : List Ev} {S S' : Nat → Prop} {L : List Nat} {u : Nat}
    (h : BatC w W id p i r s b0 b1 arr b3 pb lb a n cap xs Sl q es S S' L u) : BatC w W id p i r s b0 b1 arr b3 pb lb a n cap xs Sl q es S (fun k => S' k ∧ Typed W k) L u :=
  ⟨h.tb, h.fb, h.ars, h.sb, h.pr, h.src, h.tp.typed, fun b c => h.new b c.1, h.off⟩
end
section
open Go.RowKit
attribute [local go_sem] Oper.semAt_some wide_fn
/-- The events of Batch. -/
def batE (n : Nat) : List Ev := if n = 0 then [] else coefU n (List.range n) ++ powE 64 ++ coefD n (List.range n)
theorem getD_fm (p : Nat) (vs : List Nat) (i : Nat) : (vs.map (fm p)).getD i 0 = fm p (vs.getD i 0) := by
  rw [List.getD_eq_getElem?_getD, List.getD_eq_getElem?_getD, List.getElem?_map]
  cases h : vs[i]? with
  | none => simp [fm_zero]
  | some v => simp
set_option maxHeartbeats 400000 in
theorem batch_nil {id : Int} {p i r s : Nat} (cap : Nat) (a : Option Addr) (q : Option Addr) (w : World) :
    Calls Tryd.prog 18 #[.pointer q, FV id p i r s, .slice a 0 cap] w fun x w' => x = .returned (.slice none 0 0) ∧ Off (fun _ => False) w w' := by
  go_enter Tryd.func18, Tryd.ntmps18
  go_wp2
  go_ret
  exact ⟨rfl, ((Off.refl _ w).alloc _).alloc _⟩
set_option maxRecDepth 100000 in
set_option maxHeartbeats 4000000 in
theorem batch_some {id : Int} {p i0 r s : Nat} (hF : Fld id p i0 r s) (vs : List Nat) (hv : ∀ v ∈ vs, v < p) (n cap : Nat) (a : Option Addr) (hn : n = vs.length) (h0 : 0 < n) (hn2 : n ≤ 10000) (q : Option Addr) (es : List Ev) (S Sl : Nat → Prop) (w : World)
    (hL : LsAt w (.slice a n cap) (vs.map (fm p)) Sl) (hSl : ∀ b, Sl b → b < w.heap.size ∧ ¬ S b) (hS : Tp w q es S) (hl : es.length ≤ 10000) :
    Calls Tryd.prog 18 #[.pointer q, FV id p i0 r s, .slice a n cap] w fun x w' => ∃ b, x = .returned (.slice (some ⟨b, 0, none⟩) n n) ∧ w.heap.size ≤ b ∧ NumsAt w' b 24 ((batL p vs).map (fm p)) ∧ Noted w.heap.size q es (batE n) S w' ∧ Off S w w' := by
  refine (callsIn_wide (n := 3)).1 ?_
  refine callsIn_of_wp_marks Tryd.func18 rfl trivial ?_ rfl
  simp only [Tryd.ntmps18, List.size_toArray, List.length_cons, List.length_nil, Nat.reduceAdd, Nat.reduceSub, Array.replicate_succ, Array.replicate_zero, List.push_toArray, List.append_toArray, List.nil_append, List.cons_append]
  have hmx : Tryd.prog.follows .mixedOrders = true := by kernel_rfl
  have hmk := run_make_el n (by omega)
  have hAl := fun w => eall_in (3 - 1) a n cap w
  have hne : ¬ ((n : Int) = 0) := by omega
  have HN := Lib.hid hn
  have HV := Lib.hid hv
  have HL := Lib.hid hL
  have HSl := Lib.hid hSl
  have HS := Lib.hid hS
  clear hn hv hL hSl hS
  gi_wp2_with (gi_at_call 39; refine (hAl _).mono ?_; rintro e w' ⟨rfl, rfl⟩)
  obtain ⟨W4, hW4⟩ : ∃ W4, W4 = (((((w.alloc (.cells #[.pointer q] 41)).alloc (.cells #[.int .i64 id, .int .u64 (wd p 0 : Int), .int .u64 (wd p 1 : Int), .int .u64 (wd p 2 : Int), .int .u64 (wd p 3 : Int), .int .u64 (i0 : Int), .int .u64 (wd r 0 : Int), .int .u64 (wd r 1 : Int), .int .u64 (wd r 2 : Int), .int .u64 (wd r 3 : Int), .int .u64 (wd s 0 : Int), .int .u64 (wd s 1 : Int), .int .u64 (wd s 2 : Int), .int .u64 (wd s 3 : Int)] 26)).alloc (.cells (flat4 (List.replicate n 0)).toArray 24)).alloc (.cells #[.slice (some ⟨w.heap.size + 1 + 1, 0, none⟩) n n] 38)).alloc (.cells #[.int .u64 (wd r 0 : Int), .int .u64 (wd r 1 : Int), .int .u64 (wd r 2 : Int), .int .u64 (wd r 3 : Int)] 24)).alloc (.cells #[.slice a n cap] 38) := ⟨_, rfl⟩
  have hO4 : Off (fun _ => False) w W4 := by rw [hW4]; exact ((((((Off.refl _ w).alloc _).alloc _).alloc _).alloc _).alloc _).alloc _
  have g0 : W4.heap[w.heap.size]? = some (.cells #[.pointer q] 41) := by rw [hW4]; exact heap_old' (heap_old' (heap_old' (heap_old' (heap_old' (heap_new' rfl _) _) _) _) _) _
  have g1 : W4.heap[w.heap.size + 1]? = some (.cells #[.int .i64 id, .int .u64 (wd p 0 : Int), .int .u64 (wd p 1 : Int), .int .u64 (wd p 2 : Int), .int .u64 (wd p 3 : Int), .int .u64 (i0 : Int), .int .u64 (wd r 0 : Int), .int .u64 (wd r 1 : Int), .int .u64 (wd r 2 : Int), .int .u64 (wd r 3 : Int), .int .u64 (wd s 0 : Int), .int .u64 (wd s 1 : Int), .int .u64 (wd s 2 : Int), .int .u64 (wd s 3 : Int)] 26) := by rw [hW4]; exact heap_old' (heap_old' (heap_old' (heap_old' (heap_new' (by simp) _) _) _) _) _
  have g2 : NumsAt W4 (w.heap.size + 1 + 1) 24 (List.replicate n 0) := by rw [hW4]; exact heap_old' (heap_old' (heap_old' (heap_new' (by simp) _) _) _) _
  have g3 : W4.heap[w.heap.size + 1 + 1 + 1]? = some (.cells #[.slice (some ⟨w.heap.size + 1 + 1, 0, none⟩) n n] 38) := by rw [hW4]; exact heap_old' (heap_old' (heap_new' (by simp) _) _) _
  have g4 : W4.heap[w.heap.size + 1 + 1 + 1 + 1]? = some (.cells #[.int .u64 (wd r 0 : Int), .int .u64 (wd r 1 : Int), .int .u64 (wd r 2 : Int), .int .u64 (wd r 3 : Int)] 24) := by rw [hW4]; exact heap_old' (heap_new' (by simp) _) _
  have g5 : Boxed W4 (w.heap.size + 1 + 1 + 1 + 1 + 1) 38 (.slice a n cap) := by rw [hW4]; exact heap_new' (by simp) _
  have hsz : W4.heap.size = w.heap.size + 1 + 1 + 1 + 1 + 1 + 1 := by rw [hW4]; simp
  rw [← hW4]
  obtain ⟨lb, hlb⟩ : ∃ lb, lb = w.heap.size + 1 + 1 + 1 + 1 + 1 := ⟨_, rfl⟩
  rw [← hlb] at g5 ⊢
  obtain ⟨pb, hpb⟩ : ∃ pb, pb = w.heap.size + 1 + 1 + 1 + 1 := ⟨_, rfl⟩
  rw [← hpb] at g4 ⊢
  obtain ⟨b3, hb3⟩ : ∃ b3, b3 = w.heap.size + 1 + 1 + 1 := ⟨_, rfl⟩
  rw [← hb3] at g3 ⊢
  obtain ⟨arr, harr⟩ : ∃ arr, arr = w.heap.size + 1 + 1 := ⟨_, rfl⟩
  rw [← harr] at g2 g3 ⊢
  obtain ⟨b1, hb1⟩ : ∃ b1, b1 = w.heap.size + 1 := ⟨_, rfl⟩
  rw [← hb1] at g1 ⊢
  have hB : BatB w S Sl w.heap.size b1 arr b3 pb lb := ⟨by omega, by omega, by omega, by omega, by omega, by omega, HS.out.2, HSl.out⟩
  have hbs : lb < W4.heap.size := by omega
  have hC0 : BatC w W4 id p i0 r s w.heap.size b1 arr b3 pb lb a n cap (vs.map (fm p)) Sl q (ext q es (coefU n [])) S S ((bat1 p vs []).2.map (fm p)) (fm p (bat1 p vs []).1) := by
    refine ⟨g0, g1, ?_, g3, ?_, ⟨g5, HL.out.off hO4 (fun _ _ _ c => c)⟩, ?_, fun _ c => .inl c, hO4.mono (fun _ _ c => c.elim)⟩
    · rw [show (bat1 p vs []).2 = List.replicate vs.length 0 from rfl, List.map_replicate, fm_zero, ← HN.out]; exact g2
    · rw [show (bat1 p vs []).1 = 1 from rfl, fm_one, ← hF.rr]; exact g4
    · rw [show coefU n [] = [] from rfl, ext_nil]; exact HS.out.off0 hO4
  have HC0 := Lib.hid hC0
  have HB := Lib.hid hB
  have HM := Lib.hid (fun x y W => by have h := mmul_any hF (fm p x) (fm p y) (Nat.lt_trans (fm_lt hF.mp.pos _) hF.mp.lt) (fm_lt hF.mp.pos _) W; rw [mm_fm hF.mp] at h; exact h : ∀ x y W, Calls Tryd.prog 32 #[FV id p i0 r s, V (fm p x), V (fm p y)] W fun x' w' => x' = .returned (V (fm p (x * y % p))) ∧ Off (fun _ => False) W w')
  have HFa := Lib.hid (fun v hv W => factor_any hF v hv W)
  have HF := Lib.hid hF
  have hst := eall_stops (3 - 1) (by omega) lb a n cap (vs.map (fm p)) Sl W4 hC0.src
  simp only [List.length_map, getD_fm, ← HN.out] at hst
  clear hF hC0 g0 g1 g2 g3 g4 g5 hB hb1 harr hb3 hpb hlb hW4 hO4 hsz hAl hmk
  refine wpIn_rangeFunc_ownH (F := Fence.wide) (n := 3) rfl (by omega) (gf := 54) (lb := #[.pointer (some ⟨lb, 0, none⟩)]) rfl trivial (enters_of Tryd.func54 (by kernel_rfl) rfl)
    hst (fun h k x => k (h x)) (fun W l o o' hl h hc hw => rlK_b W l o o' hl h hc hw) (Below.refl _ _) (fun _ => by rfl)
    (fun pre W => ∃ S', BatC w W id p i0 r s w.heap.size b1 arr b3 pb lb a n cap (vs.map (fm p)) Sl q (ext q es (coefU n pre)) S S' ((bat1 p vs pre).2.map (fm p)) (fm p (bat1 p vs pre).1) ∧ pre.length ≤ n)
    (fun _ _ _ => False)
    (fun pre A B row hs hg hr => by
      obtain ⟨S', h1, h2⟩ := hs
      exact ⟨S', h1.kept hg (fun r e => ⟨by have := (hr r e).1; have := HB.out.c1; have := HB.out.c2; have := HB.out.c3; have := HB.out.c4; have := HB.out.c5; omega, (hr r e).2⟩), h2⟩)
    (fun _ _ _ _ _ hs _ _ => hs)
    ⟨S, HC0.out, Nat.zero_le _⟩
    (fun x a' W => ∃ B, W.heap[B]? = some (.cells #[.int .u64 (wd (fm p (vs.getD (x % n) 0)) 0 : Int), .int .u64 (wd (fm p (vs.getD (x % n) 0)) 1 : Int), .int .u64 (wd (fm p (vs.getD (x % n) 0)) 2 : Int), .int .u64 (wd (fm p (vs.getD (x % n) 0)) 3 : Int)] 24) ∧ lb < B ∧ a' = { tmps := #[.pointer q, FV id p i0 r s, .slice a n cap, .pointer (some ⟨w.heap.size, 0, none⟩), .pointer (some ⟨b1, 0, none⟩), undef, .slice none 0 0, .pointer (some ⟨b3, 0, none⟩), .pointer (some ⟨pb, 0, none⟩), .int .i64 ((x % n : Nat) : Int), .pointer (some ⟨B, 0, none⟩), undef, undef, undef, undef, .slice a n cap, .int .i64 (n : Int), .bool false, .slice a n cap, .int .i64 (n : Int), .slice (some ⟨arr, 0, none⟩) n n, .pointer (some ⟨b1, 6, none⟩), V r, .slice a n cap, .func (.func 54) #[] #[.pointer (some ⟨lb, 0, none⟩)], .int .i64 ((x % n : Nat) : Int), V (fm p (vs.getD (x % n) 0)), undef, undef, undef, undef, undef, undef, undef, undef, undef, undef, undef, undef, undef, undef, undef, undef, undef, undef, undef, undef, undef, undef, undef, undef, undef, undef, undef, undef, undef, undef, undef, undef, undef, undef, undef, undef, undef, undef, undef, undef, undef, undef, undef, undef, undef, undef], defers := [] })
    (fun x a' _ A C row hs hg hr => by
      obtain ⟨B, h1, h2, h3⟩ := hs
      exact ⟨B, (grownBy_keeps_cells hg (fun r e => (hr r e).2) h1 rfl).trans h1, h2, h3⟩)
    ?assign ?body ?done ?stop
  case assign =>
    rintro l pre x W K ⟨S', hC, hlen⟩ hK
    obtain ⟨j, hj⟩ : ∃ j, j = x % n := ⟨_, rfl⟩
    obtain ⟨y, hy⟩ : ∃ y, y = fm p (vs.getD (x % n) 0) := ⟨_, rfl⟩
    rw [← hy, ← hj] at hK
    rw [← hy, ← hj]
    clear hy hj
    have hlt := hC.src.1.lt
    gi_wp2
    have ho := (Off.refl (fun _ => False) W).alloc (.cells #[.int .u64 (wd y 0 : Int), .int .u64 (wd y 1 : Int), .int .u64 (wd y 2 : Int), .int .u64 (wd y 3 : Int)] 24)
    exact hK _ _ (ho.keeps.from _) (fun h => h.off ho (fun c => c) (fun _ _ _ c => c)) ⟨S', hC.keep ho, hlen⟩ ⟨W.heap.size, World.alloc_heap_new W _, hlt, rfl⟩
  case body =>
    rintro l pre x a' W _ _ ⟨S0, hC, hlen2⟩ ⟨B, hcB, hBt, rfl⟩ hlen
    obtain ⟨j, hj⟩ : ∃ j, j = x % n := ⟨_, rfl⟩
    have hjn : j < n := by rw [hj]; exact Nat.mod_lt _ h0
    obtain ⟨v, hvv⟩ : ∃ v, v = vs.getD (x % n) 0 := ⟨_, rfl⟩
    have hvp : v < p := by rw [hvv]; exact getD_lt HF.out.mp.pos HV.out _
    obtain ⟨P0, hP0⟩ : ∃ P0, P0 = (bat1 p vs pre).1 := ⟨_, rfl⟩
    obtain ⟨L, hL⟩ : ∃ L, L = (bat1 p vs pre).2 := ⟨_, rfl⟩
    have hLn : L.length = n := by rw [hL, bat1_length, HN.out]
    rw [← hvv, ← hj]
    rw [← hvv] at hcB
    rw [← hP0, ← hL] at hC
    have hsn : bat1 p vs (pre ++ [x]) = (P0 * facV v % p, L.set j P0) := by rw [bat1_snoc, ← HN.out, ← hj, ← hP0, ← hL]; rw [hvv, hj]
    have hse : coefU n (pre ++ [x]) = coefU n pre ++ [((2 : Int), (j : Int), (0 : Int))] := by rw [coefU_snoc, hj]
    have HSn := Lib.hid hsn
    have HSe := Lib.hid hse
    obtain ⟨y, hy⟩ : ∃ y, y = fm p v := ⟨_, rfl⟩
    obtain ⟨u, hu⟩ : ∃ u, u = fm p P0 := ⟨_, rfl⟩
    obtain ⟨g, hg⟩ : ∃ g, g = fm p (facV v) := ⟨_, rfl⟩
    obtain ⟨z, hz⟩ : ∃ z, z = fm p (P0 * facV v % p) := ⟨_, rfl⟩
    have HFc := Lib.hid (show ∀ W, Calls Tryd.prog 40 #[FV id p i0 r s, V y] W fun x' w' => x' = .returned (V g) ∧ Off (fun _ => False) W w' from fun W => by rw [hy, hg]; exact HFa.out v hvp W)
    have HMu := Lib.hid (show ∀ W, Calls Tryd.prog 32 #[FV id p i0 r s, V u, V g] W fun x' w' => x' = .returned (V z) ∧ Off (fun _ => False) W w' from fun W => by rw [hu, hg, hz]; exact HM.out _ _ W)
    rw [← hy]
    rw [← hy] at hcB
    rw [← hu] at hC
    have HLs := Lib.hid (show ((L.set j P0).map (fm p)) = (L.map (fm p)).set j u by rw [List.map_set, hu])
    have HZ := Lib.hid hz
    have hC := hC.typed
    obtain ⟨S', hS'⟩ : ∃ S' : Nat → Prop, S' = fun k => S0 k ∧ Typed W k := ⟨_, rfl⟩
    have hBS : ¬ S' B := by rw [hS']; exact fun c => not_typed hcB c.2
    rw [← hS'] at hC
    have hLl : (L.map (fm p)).length = n := by rw [List.length_map, hLn]
    obtain ⟨L1, hL1⟩ : ∃ L1, L1 = L.map (fm p) := ⟨_, rfl⟩
    rw [← hL1] at hC HLs hLl
    have hnote := CallsIn.inRound l (callsIn_wide (n := 3 - 1 - 1 - 1).2 (note_ext q (ext q es (coefU n pre)) S' W hC.tp (by have := ext_le q es (coefU n pre); rw [coefU_length] at this; omega) ((2 : Int), (j : Int), (0 : Int))))
    have HC := Lib.hid hC
    have HcB := Lib.hid hcB
    have k0 : W.cell? ⟨w.heap.size, 0, none⟩ = some (.pointer q) := cell_of_heap hC.tb 0
    clear hC hcB hS' hL1 hu hg hy hz hP0 hL hLn hvv hj hsn hse
    gi_wp2
    refine hnote.mono ?_
    rintro r1 W1 ⟨rfl, hN, hO1⟩
    clear k0 hnote
    obtain ⟨S2, hC2⟩ := HC.out.note HB.out hO1 hN
    rw [ext_ext, ← HSe.out] at hC2
    have hE1 := hO1.heap HcB.out hBS
    have s0 : W1.cell? ⟨b3, 0, none⟩ = some (.slice (some ⟨arr, 0, none⟩) n n) := cell_of_heap hC2.sb 0
    obtain ⟨u0, u1, u2, u3⟩ := cells4 hC2.pr
    obtain ⟨e0, he0⟩ : ∃ e0, L1[j]? = some e0 := ⟨_, List.getElem?_eq_getElem (by omega)⟩
    obtain ⟨m0, m1, m2, m3⟩ := NumsAt.cell hC2.ars he0
    have fz := fun k => NumsAt.frozen hC2.ars k
    have lt := NumsAt.lt hC2.ars
    have hjI : (j : Int) < (n : Int) := by omega
    have HC2 := Lib.hid hC2
    have HE1 := Lib.hid hE1
    have HK1 := Lib.hid hO1.keeps
    clear hC2 hE1 hN hO1 he0
    gi_wp2
    clear u0 u1 u2 u3 m0 m1 m2 m3 fz lt s0
    obtain ⟨W2, hW2⟩ : ∃ W2, W2 = (((W1.setCell ⟨arr, j * 4, none⟩ (.int .u64 (wd u 0 : Int))).setCell ⟨arr, j * 4 + 1, none⟩ (.int .u64 (wd u 1 : Int))).setCell ⟨arr, j * 4 + 2, none⟩ (.int .u64 (wd u 2 : Int))).setCell ⟨arr, j * 4 + 3, none⟩ (.int .u64 (wd u 3 : Int)) := ⟨_, rfl⟩
    rw [← hW2]
    have ho2 : Off (fun k => k = arr) W1 W2 := by rw [hW2]; exact setCells_off arr (words4 u) (j * 4) W1
    have hC3 := HC2.out.arr' HB.out ho2 (by rw [hW2]; exact HC2.out.ars.store (by omega) u)
    rw [← HLs.out] at hC3
    have hE2 := ho2.heap HE1.out (by have := HB.out.c3; have := HB.out.c4; have := HB.out.c5; omega)
    have HC3 := Lib.hid hC3
    have HPr := Lib.hid hC3.pr
    have hBp : B ≠ pb := by have := HB.out.c5; omega
    have HK10 : Hid (∀ W, Off (fun k => k = pb) W2 W → (W.cell? ⟨b1, 0, none⟩ = some (.int .i64 id) ∧ W.cell? ⟨b1, 1, none⟩ = some (.int .u64 (wd p 0 : Int)) ∧ W.cell? ⟨b1, 2, none⟩ = some (.int .u64 (wd p 1 : Int)) ∧ W.cell? ⟨b1, 3, none⟩ = some (.int .u64 (wd p 2 : Int)) ∧ W.cell? ⟨b1, 4, none⟩ = some (.int .u64 (wd p 3 : Int)) ∧ W.cell? ⟨b1, 5, none⟩ = some (.int .u64 (i0 : Int)) ∧ W.cell? ⟨b1, 6, none⟩ = some (.int .u64 (wd r 0 : Int)) ∧ W.cell? ⟨b1, 7, none⟩ = some (.int .u64 (wd r 1 : Int)) ∧ W.cell? ⟨b1, 8, none⟩ = some (.int .u64 (wd r 2 : Int)) ∧ W.cell? ⟨b1, 9, none⟩ = some (.int .u64 (wd r 3 : Int)) ∧ W.cell? ⟨b1, 10, none⟩ = some (.int .u64 (wd s 0 : Int)) ∧ W.cell? ⟨b1, 11, none⟩ = some (.int .u64 (wd s 1 : Int)) ∧ W.cell? ⟨b1, 12, none⟩ = some (.int .u64 (wd s 2 : Int)) ∧ W.cell? ⟨b1, 13, none⟩ = some (.int .u64 (wd s 3 : Int))) ∧ (W.cell? ⟨B, 0, none⟩ = some (.int .u64 (wd y 0 : Int)) ∧ W.cell? ⟨B, 1, none⟩ = some (.int .u64 (wd y 1 : Int)) ∧ W.cell? ⟨B, 2, none⟩ = some (.int .u64 (wd y 2 : Int)) ∧ W.cell? ⟨B, 3, none⟩ = some (.int .u64 (wd y 3 : Int))) ∧ Off (fun k => k = pb) W2 W) := Lib.hid (fun W h => ⟨fv_cells (h.heap HC3.out.fb (by have := HB.out.c2; have := HB.out.c3; have := HB.out.c4; omega)), cells4 (h.heap hE2 hBp), h⟩)
    have HK2 := Lib.hid (HK1.out.trans ho2.keeps)
    clear ho2 hC3 hE2 hW2 HC2 HE1 HK1
    refine wpIn_region_inv (fun a0 l a' w' => ∃ (u34 : Value) (u35 : Value) (u36 : Value) (u37 : Value) (u38 : Value) (u39 : Value), a' = (Act.put (Act.put (Act.put (Act.put (Act.put (Act.put a0 (some 34) u34) (some 35) u35) (some 36) u36) (some 37) u37) (some 38) u38) (some 39) u39) ∧ Slot l 0 u34 (FV id p i0 r s) ∧ Slot l 1 u35 (V u) ∧ Slot l 2 u36 (FV id p i0 r s) ∧ Slot l 3 u37 (V y) ∧ Slot l 4 u38 (V g) ∧ Slot l 5 u39 (V z) ∧ Old l 6 pb W2 w' (.cells #[.int .u64 (wd u 0 : Int), .int .u64 (wd u 1 : Int), .int .u64 (wd u 2 : Int), .int .u64 (wd u 3 : Int)] 24) (.cells #[.int .u64 (wd z 0 : Int), .int .u64 (wd z 1 : Int), .int .u64 (wd z 2 : Int), .int .u64 (wd z 3 : Int)] 24) ∧ Dep l 1 6 ∧ Off (fun k => k = pb) W2 w') (by kernel_rfl) (by kernel_rfl) (by kernel_rfl) ?_ ⟨?_, ?_, ?_, ?_, ?_, ?_, ?_, trivial⟩ ?_
    · refine ⟨?z34, ?z35, ?z36, ?z37, ?z38, ?z39, ?fr, Slot.start _ _ _, Slot.start _ _ _, Slot.start _ _ _, Slot.start _ _ _, Slot.start _ _ _, Slot.start _ _ _, Old.start HPr.out _ _, Dep.start _ _, (Off.refl _ W2).drew⟩
      case fr => first | (simp only [Act.put, List.setIfInBounds_toArray, List.set_cons_zero, List.set_cons_succ]; rfl) | simp only [Act.put, List.setIfInBounds_toArray, List.set_cons_zero, List.set_cons_succ]
    · intro l a wr hI hl hd K' hK
      obtain ⟨u34, u35, u36, u37, u38, u39, ha, s0, s1, s2, s3, s4, s5, O0, P1_6, hO⟩ := hI
      simp only [Act.put, List.setIfInBounds_toArray, List.set_cons_zero, List.set_cons_succ] at ha
      subst ha
      have hc := HK10.out wr hO
      have p0 := hc.1.1
      have p1 := hc.1.2.1
      have p2 := hc.1.2.2.1
      have p3 := hc.1.2.2.2.1
      have p4 := hc.1.2.2.2.2.1
      have p5 := hc.1.2.2.2.2.2.1
      have p6 := hc.1.2.2.2.2.2.2.1
      have p7 := hc.1.2.2.2.2.2.2.2.1
      have p8 := hc.1.2.2.2.2.2.2.2.2.1
      have p9 := hc.1.2.2.2.2.2.2.2.2.2.1
      have p10 := hc.1.2.2.2.2.2.2.2.2.2.2.1
      have p11 := hc.1.2.2.2.2.2.2.2.2.2.2.2.1
      have p12 := hc.1.2.2.2.2.2.2.2.2.2.2.2.2.1
      have p13 := hc.1.2.2.2.2.2.2.2.2.2.2.2.2.2
      clear hc
      go_simp
      refine hK.out _ _ ⟨_, _, _, _, _, _, ?_, Slot.new _ _ _, s1.keep rfl, s2.keep rfl, s3.keep rfl, s4.keep rfl, s5.keep rfl, O0.keep (Off.refl _ wr) rfl, P1_6.keep rfl, hO⟩
      simp only [Act.put, List.setIfInBounds_toArray, List.set_cons_zero, List.set_cons_succ]
    · intro l a wr hI hl hd K' hK
      obtain ⟨u34, u35, u36, u37, u38, u39, ha, s0, s1, s2, s3, s4, s5, O0, P1_6, hO⟩ := hI
      simp only [Act.put, List.setIfInBounds_toArray, List.set_cons_zero, List.set_cons_succ] at ha
      subst ha
      have hZ := O0.was (P1_6 hl)
      obtain ⟨p0, p1, p2, p3⟩ := cells4 hZ
      clear hZ
      go_simp
      refine hK.out _ _ ⟨_, _, _, _, _, _, ?_, s0.keep rfl, Slot.new _ _ _, s2.keep rfl, s3.keep rfl, s4.keep rfl, s5.keep rfl, O0.keep (Off.refl _ wr) rfl, P1_6.keep rfl, hO⟩
      simp only [Act.put, List.setIfInBounds_toArray, List.set_cons_zero, List.set_cons_succ]
    · intro l a wr hI hl hd K' hK
      obtain ⟨u34, u35, u36, u37, u38, u39, ha, s0, s1, s2, s3, s4, s5, O0, P1_6, hO⟩ := hI
      simp only [Act.put, List.setIfInBounds_toArray, List.set_cons_zero, List.set_cons_succ] at ha
      subst ha
      have hc := HK10.out wr hO
      have p0 := hc.1.1
      have p1 := hc.1.2.1
      have p2 := hc.1.2.2.1
      have p3 := hc.1.2.2.2.1
      have p4 := hc.1.2.2.2.2.1
      have p5 := hc.1.2.2.2.2.2.1
      have p6 := hc.1.2.2.2.2.2.2.1
      have p7 := hc.1.2.2.2.2.2.2.2.1
      have p8 := hc.1.2.2.2.2.2.2.2.2.1
      have p9 := hc.1.2.2.2.2.2.2.2.2.2.1
      have p10 := hc.1.2.2.2.2.2.2.2.2.2.2.1
      have p11 := hc.1.2.2.2.2.2.2.2.2.2.2.2.1
      have p12 := hc.1.2.2.2.2.2.2.2.2.2.2.2.2.1
      have p13 := hc.1.2.2.2.2.2.2.2.2.2.2.2.2.2
      clear hc
      go_simp
      refine hK.out _ _ ⟨_, _, _, _, _, _, ?_, s0.keep rfl, s1.keep rfl, Slot.new _ _ _, s3.keep rfl, s4.keep rfl, s5.keep rfl, O0.keep (Off.refl _ wr) rfl, P1_6.keep rfl, hO⟩
      simp only [Act.put, List.setIfInBounds_toArray, List.set_cons_zero, List.set_cons_succ]
    · intro l a wr hI hl hd K' hK
      obtain ⟨u34, u35, u36, u37, u38, u39, ha, s0, s1, s2, s3, s4, s5, O0, P1_6, hO⟩ := hI
      simp only [Act.put, List.setIfInBounds_toArray, List.set_cons_zero, List.set_cons_succ] at ha
      subst ha
      have hc := HK10.out wr hO
      have p0 := hc.2.1.1
      have p1 := hc.2.1.2.1
      have p2 := hc.2.1.2.2.1
      have p3 := hc.2.1.2.2.2
      clear hc
      go_simp
      refine hK.out _ _ ⟨_, _, _, _, _, _, ?_, s0.keep rfl, s1.keep rfl, s2.keep rfl, Slot.new _ _ _, s4.keep rfl, s5.keep rfl, O0.keep (Off.refl _ wr) rfl, P1_6.keep rfl, hO⟩
      simp only [Act.put, List.setIfInBounds_toArray, List.set_cons_zero, List.set_cons_succ]
    · intro l a wr hI hl hd K' hK
      obtain ⟨u34, u35, u36, u37, u38, u39, ha, s0, s1, s2, s3, s4, s5, O0, P1_6, hO⟩ := hI
      simp only [Act.put, List.setIfInBounds_toArray, List.set_cons_zero, List.set_cons_succ] at ha
      have q2 := s2 (hd 2 (by decide))
      have q3 := s3 (hd 3 (by decide))
      subst ha q2 q3
      go_simp
      refine (held_inv (HFc.out wr) hO).mono ?_
      rintro e w1 ⟨rfl, hO1, hOW⟩
      go_wp2_with fail
      refine hK.out _ _ ⟨_, _, _, _, _, _, ?_, s0.keep rfl, s1.keep rfl, s2.keep rfl, s3.keep rfl, Slot.new _ _ _, s5.keep rfl, O0.keep hOW rfl, P1_6.keep rfl, hO1⟩
      simp only [Act.put, List.setIfInBounds_toArray, List.set_cons_zero, List.set_cons_succ]
    · intro l a wr hI hl hd K' hK
      obtain ⟨u34, u35, u36, u37, u38, u39, ha, s0, s1, s2, s3, s4, s5, O0, P1_6, hO⟩ := hI
      simp only [Act.put, List.setIfInBounds_toArray, List.set_cons_zero, List.set_cons_succ] at ha
      have q0 := s0 (hd 0 (by decide))
      have q1 := s1 (hd 1 (by decide))
      have q4 := s4 (hd 4 (by decide))
      subst ha q0 q1 q4
      go_simp
      refine (held_inv (HMu.out wr) hO).mono ?_
      rintro e w1 ⟨rfl, hO1, hOW⟩
      go_wp2_with fail
      refine hK.out _ _ ⟨_, _, _, _, _, _, ?_, s0.keep rfl, s1.keep rfl, s2.keep rfl, s3.keep rfl, s4.keep rfl, Slot.new _ _ _, O0.keep hOW rfl, P1_6.keep rfl, hO1⟩
      simp only [Act.put, List.setIfInBounds_toArray, List.set_cons_zero, List.set_cons_succ]
    · intro l a wr hI hl hd K' hK
      obtain ⟨u34, u35, u36, u37, u38, u39, ha, s0, s1, s2, s3, s4, s5, O0, P1_6, hO⟩ := hI
      simp only [Act.put, List.setIfInBounds_toArray, List.set_cons_zero, List.set_cons_succ] at ha
      have q5 := s5 (hd 5 (by decide))
      subst ha q5
      have hZ := (O0.was hl)
      obtain ⟨m0, m1, m2, m3⟩ := cells4 hZ
      have fz := fun j => frozen_of_heap hZ j
      have lt := heap_lt hZ
      clear hZ
      go_simp
      refine hK.out _ _ ⟨_, _, _, _, _, _, ?_, s0.keep rfl, s1.keep rfl, s2.keep rfl, s3.keep rfl, s4.keep rfl, s5.keep rfl, O0.put hl rfl, Dep.at (hd 1 (by decide)), setCells_in hO (fun _ => rfl) [.int .u64 (wd z 0 : Int), .int .u64 (wd z 1 : Int), .int .u64 (wd z 2 : Int), .int .u64 (wd z 3 : Int)]⟩
      simp only [Act.put, List.setIfInBounds_toArray, List.set_cons_zero, List.set_cons_succ]
    · intro l a wc hI hd
      obtain ⟨u34, u35, u36, u37, u38, u39, ha, s0, s1, s2, s3, s4, s5, O0, P1_6, hO⟩ := hI
      simp only [Act.put, List.setIfInBounds_toArray, List.set_cons_zero, List.set_cons_succ] at ha
      have q0 := s0 (hd 0 (by decide))
      have q1 := s1 (hd 1 (by decide))
      have q2 := s2 (hd 2 (by decide))
      have q3 := s3 (hd 3 (by decide))
      have q4 := s4 (hd 4 (by decide))
      have q5 := s5 (hd 5 (by decide))
      have r0 : wc.heap[pb]? = some (.cells #[.int .u64 (wd z 0 : Int), .int .u64 (wd z 1 : Int), .int .u64 (wd z 2 : Int), .int .u64 (wd z 3 : Int)] 24) := O0.now (hd 6 (by decide))
      subst ha q0 q1 q2 q3 q4 q5
      clear hd s0 s1 s2 s3 s4 s5 O0 P1_6
      have hC4 := HC3.out.put HB.out hO r0
      have hk := (HK2.out.trans hO.keeps).from W4.heap.size
      clear r0 hO
      gi_wp2
      refine ⟨hk, fun _ => hC4.src, S2, ?_, by simp; omega⟩
      rw [HSn.out, ← HZ.out]
      exact hC4
  case done =>
    rintro D ys W hD rfl ⟨S0, hC, _⟩ hK
    have hd := bat1_done p vs
    rw [← HN.out] at hd
    rw [hd] at hC
    obtain ⟨pv, hpv⟩ : ∃ pv, pv = prdV p vs n := ⟨_, rfl⟩
    simp only [← hpv] at hC
    obtain ⟨L, hL⟩ : ∃ L, L = ((List.range n).map (prdV p vs)).map (fm p) := ⟨_, rfl⟩
    rw [← hL] at hC
    obtain ⟨es1, hes⟩ : ∃ es1, es1 = ext q es (coefU n (List.range n)) := ⟨_, rfl⟩
    rw [← hes] at hC
    have hel : es1.length ≤ 20000 := by have := ext_le q es (coefU n (List.range n)); rw [coefU_length, List.length_range, ← hes] at this; omega
    have hrs : rstV p vs 0 = pv ^ (p - 2) % p := by rw [hpv, HN.out]; rfl
    have hinv := callsIn_wide (n := 3 - 1).2 (inverse_any HF.out pv q es1 S0 W hC.tp (by omega))
    rw [← hrs] at hinv
    obtain ⟨rv, hrv⟩ : ∃ rv, rv = fm p (rstV p vs 0) := ⟨_, rfl⟩
    rw [← hrv] at hinv
    obtain ⟨u, hu⟩ : ∃ u, u = fm p pv := ⟨_, rfl⟩
    rw [← hu] at hinv hC
    have hBk := fun w => eback_in (3 - 1) a n cap w
    have HC := Lib.hid hC
    have HK := Lib.hid hK
    have HEs := Lib.hid hes
    have HRv := Lib.hid hrv
    have HLL := Lib.hid hL
    have k0 : W.cell? ⟨w.heap.size, 0, none⟩ = some (.pointer q) := cell_of_heap hC.tb 0
    obtain ⟨f0, f1, f2, f3, f4, f5, f6, f7, f8, f9, f10, f11, f12, f13⟩ := fv_cells hC.fb
    obtain ⟨u0, u1, u2, u3⟩ := cells4 hC.pr
    clear hC hK hes hrv hL hd hrs hpv hu hst
    gi_wp2_with (gi_at_call 16; refine hinv.mono ?_; rintro e W1 ⟨rfl, hN1, hO1⟩)
    clear k0 f0 f1 f2 f3 f4 f5 f6 f7 f8 f9 f10 f11 f12 f13 u0 u1 u2 u3 hinv
    obtain ⟨S1, hC1⟩ := HC.out.note HB.out hO1 hN1
    obtain ⟨es2, hes2⟩ : ∃ es2, es2 = ext q es1 (powE 64) := ⟨_, rfl⟩
    rw [← hes2] at hC1
    have hel2 : es2.length ≤ 30000 := by have := ext_le q es1 (powE 64); rw [powE_length, ← hes2] at this; omega
    have HEs2 := Lib.hid hes2
    have hK1 : W1.heap[D]? = some (.deferred (some [])) := hO1.others _ _ HK.out rfl
    refine (hBk _).mono ?_
    rintro e w' ⟨rfl, rfl⟩
    clear hBk
    gi_wp2
    try simp only [World.size_alloc]
    obtain ⟨W5, hW5⟩ : ∃ W5, W5 = (W1.alloc (.cells #[.int .u64 (wd rv 0 : Int), .int .u64 (wd rv 1 : Int), .int .u64 (wd rv 2 : Int), .int .u64 (wd rv 3 : Int)] 24)).alloc (.cells #[.slice a n cap] 38) := ⟨_, rfl⟩
    have hO5 : Off (fun _ => False) W1 W5 := by rw [hW5]; exact ((Off.refl _ W1).alloc _).alloc _
    have g4 : W5.heap[W1.heap.size]? = some (.cells #[.int .u64 (wd rv 0 : Int), .int .u64 (wd rv 1 : Int), .int .u64 (wd rv 2 : Int), .int .u64 (wd rv 3 : Int)] 24) := by rw [hW5]; exact heap_old' (heap_new' rfl _) _
    have g5 : Boxed W5 (W1.heap.size + 1) 38 (.slice a n cap) := by rw [hW5]; exact heap_new' (by simp) _
    have hsz : W5.heap.size = W1.heap.size + 1 + 1 := by rw [hW5]; simp
    rw [← hW5]
    obtain ⟨lb2, hlb2⟩ : ∃ lb2, lb2 = W1.heap.size + 1 := ⟨_, rfl⟩
    rw [← hlb2] at g5 ⊢
    obtain ⟨rb, hrb⟩ : ∃ rb, rb = W1.heap.size := ⟨_, rfl⟩
    rw [← hrb] at g4 ⊢
    have hl1 := hC1.src.1.lt
    have hB2 : BatB w S Sl w.heap.size b1 arr b3 rb lb2 := ⟨Nat.le_refl _, HB.out.c1, HB.out.c2, HB.out.c3, by have := HB.out.c4; have := HB.out.c5; omega, by omega, HB.out.old, HB.out.lst⟩
    have hC5 : BatC w W5 id p i0 r s w.heap.size b1 arr b3 rb lb2 a n cap (vs.map (fm p)) Sl q (ext q es2 (coefD n [])) S S1 ((bat2 p vs []).2.map (fm p)) (fm p (bat2 p vs []).1) := by
      refine ⟨hO5.heap hC1.tb (fun c => c), hO5.heap hC1.fb (fun c => c), ?_, hO5.heap hC1.sb (fun c => c), ?_, ⟨g5, hC1.src.2.off hO5 (fun _ _ _ c => c)⟩, ?_, fun b c => (hC1.new b c).imp (fun c => c) (fun h => ⟨h.1, by have := hC1.tp.2 b c; omega, by have := hC1.tp.2 b c; omega⟩), hC1.off.trans hO5 (fun _ _ c => c.elim)⟩
      · rw [show (bat2 p vs []).2 = (List.range vs.length).map (prdV p vs) from rfl, ← HN.out, ← HLL.out]; exact hC1.ars.off hO5 (fun c => c)
      · rw [show (bat2 p vs []).1 = rstV p vs 0 from rfl, ← HRv.out]; exact g4
      · rw [show coefD n [] = [] from rfl, ext_nil]; exact hC1.tp.off0 hO5
    have hK5 : W5.heap[D]? = some (.deferred (some [])) := hO5.others _ _ hK1 rfl
    have hDl : D < W5.heap.size := heap_lt hK5
    have hlb5 : lb2 < W5.heap.size := by omega
    have hwD : w.heap.size ≤ D := by have := HB.out.c1; have := HB.out.c2; have := HB.out.c3; have := HB.out.c4; have := HB.out.c5; omega
    have HB2 := Lib.hid hB2
    have HC5 := Lib.hid hC5
    have HK5 := Lib.hid hK5
    have hst := eback_stops (3 - 1) (by omega) lb2 a n cap (vs.map (fm p)) Sl W5 hC5.src
    simp only [List.length_map, getD_fm, ← HN.out] at hst
    have hw5 : w.heap.size ≤ W5.heap.size := by have := hC5.off.size; exact this
    clear hC1 hO1 hN1 hes2 hK1 hW5 hO5 g4 g5 hsz hrb hlb2 hl1 hB2 hC5 hK5 HC HK
    refine wpIn_rangeFunc_ownH (F := Fence.wide) (n := 3) rfl (by omega) (gf := 55) (lb := #[.pointer (some ⟨lb2, 0, none⟩)]) rfl trivial (enters_of Tryd.func55 (by kernel_rfl) rfl)
      hst (fun h k x => k (h x)) (fun W l o o' hl h hc hw => rlK_b W l o o' hl h hc hw) (Below.refl _ _) (fun _ => by rfl)
      (fun pre W => ∃ S', BatC w W id p i0 r s w.heap.size b1 arr b3 rb lb2 a n cap (vs.map (fm p)) Sl q (ext q es2 (coefD n pre)) S S' ((bat2 p vs pre).2.map (fm p)) (fm p (bat2 p vs pre).1) ∧ pre.length ≤ n ∧ W.heap[D]? = some (.deferred (some [])))
      (fun _ _ _ => False)
      (fun pre A B row hs hg hr => by
        obtain ⟨S', h1, h2, h3⟩ := hs
        exact ⟨S', h1.kept hg (fun r e => ⟨by have := (hr r e).1; omega, (hr r e).2⟩), h2, (hg.block D (heap_lt h3) (fun e => by have := (hr D e.symm).1; omega)).trans h3⟩)
      (fun _ _ _ _ _ hs _ _ => hs)
      ⟨S1, HC5.out, Nat.zero_le _, HK5.out⟩
      (fun x a' W => ∃ B, W.heap[B]? = some (.cells #[.int .u64 (wd (fm p (vs.getD (n - 1 - x) 0)) 0 : Int), .int .u64 (wd (fm p (vs.getD (n - 1 - x) 0)) 1 : Int), .int .u64 (wd (fm p (vs.getD (n - 1 - x) 0)) 2 : Int), .int .u64 (wd (fm p (vs.getD (n - 1 - x) 0)) 3 : Int)] 24) ∧ lb2 < B ∧ a' = { tmps := #[.pointer q, FV id p i0 r s, .slice a n cap, .pointer (some ⟨w.heap.size, 0, none⟩), .pointer (some ⟨b1, 0, none⟩), undef, .slice none 0 0, .pointer (some ⟨b3, 0, none⟩), .pointer (some ⟨pb, 0, none⟩), undef, undef, .pointer (some ⟨rb, 0, none⟩), .int .i64 ((n - 1 - x : Nat) : Int), .pointer (some ⟨B, 0, none⟩), undef, .slice a n cap, .int .i64 (n : Int), .bool false, .slice a n cap, .int .i64 (n : Int), .slice (some ⟨arr, 0, none⟩) n n, .pointer (some ⟨b1, 6, none⟩), V r, .slice a n cap, .func (.func 54) #[] #[.pointer (some ⟨lb, 0, none⟩)], undef, undef, undef, undef, undef, undef, undef, undef, undef, undef, undef, undef, undef, undef, undef, .pointer q, FV id p i0 r s, V u, V rv, .slice a n cap, .func (.func 55) #[] #[.pointer (some ⟨lb2, 0, none⟩)], .int .i64 ((n - 1 - x : Nat) : Int), V (fm p (vs.getD (n - 1 - x) 0)), undef, undef, undef, undef, undef, undef, undef, undef, undef, undef, undef, undef, undef, undef, undef, undef, undef, undef, undef, undef, undef, undef, undef, undef, undef], defers := [] })
      (fun x a' _ A C row hs hg hr => by
        obtain ⟨B, h1, h2, h3⟩ := hs
        exact ⟨B, (grownBy_keeps_cells hg (fun r e => (hr r e).2) h1 rfl).trans h1, h2, h3⟩)
      ?assign2 ?body2 ?done2 ?stop2
    case assign2 =>
      rintro l pre x W K ⟨S', hC, hlen, hKd⟩ hK
      obtain ⟨j, hj⟩ : ∃ j, j = n - 1 - x := ⟨_, rfl⟩
      obtain ⟨y, hy⟩ : ∃ y, y = fm p (vs.getD (n - 1 - x) 0) := ⟨_, rfl⟩
      rw [← hy, ← hj] at hK
      rw [← hy, ← hj]
      clear hy hj
      have hlt := hC.src.1.lt
      gi_wp2
      have ho := (Off.refl (fun _ => False) W).alloc (.cells #[.int .u64 (wd y 0 : Int), .int .u64 (wd y 1 : Int), .int .u64 (wd y 2 : Int), .int .u64 (wd y 3 : Int)] 24)
      exact hK _ _ (ho.keeps.from _) (fun h => h.off ho (fun c => c) (fun _ _ _ c => c)) ⟨S', hC.keep ho, hlen, ho.others _ _ hKd rfl⟩ ⟨W.heap.size, World.alloc_heap_new W _, hlt, rfl⟩
    case body2 =>
      rintro l pre x a' W _ _ ⟨S0', hC, hlen2, hKd⟩ ⟨B, hcB, hBt, rfl⟩ hlen
      obtain ⟨j, hj⟩ : ∃ j, j = n - 1 - x := ⟨_, rfl⟩
      have hjn : j < n := by omega
      obtain ⟨v, hvv⟩ : ∃ v, v = vs.getD (n - 1 - x) 0 := ⟨_, rfl⟩
      have hvp : v < p := by rw [hvv]; exact getD_lt HF.out.mp.pos HV.out _
      obtain ⟨R0, hR0⟩ : ∃ R0, R0 = (bat2 p vs pre).1 := ⟨_, rfl⟩
      obtain ⟨L, hL⟩ : ∃ L, L = (bat2 p vs pre).2 := ⟨_, rfl⟩
      have hLn : L.length = n := by rw [hL, bat2_length, HN.out]
      rw [← hvv, ← hj]
      rw [← hvv] at hcB
      rw [← hR0, ← hL] at hC
      obtain ⟨zn, hzn⟩ : ∃ zn, zn = (if v = 0 then 0 else L.getD j 0 * R0 % p) := ⟨_, rfl⟩
      have hsn : bat2 p vs (pre ++ [x]) = (R0 * facV v % p, L.set j zn) := by rw [bat2_snoc, ← HN.out, ← hj, ← hR0, ← hL, hzn]; rw [hvv, hj]
      have hse : coefD n (pre ++ [x]) = coefD n pre ++ [((2 : Int), (j : Int), (0 : Int))] := by rw [coefD_snoc, hj]
      have HSn := Lib.hid hsn
      have HSe := Lib.hid hse
      obtain ⟨y, hy⟩ : ∃ y, y = fm p v := ⟨_, rfl⟩
      obtain ⟨u, hu⟩ : ∃ u, u = fm p R0 := ⟨_, rfl⟩
      obtain ⟨o, ho⟩ : ∃ o, o = fm p (L.getD j 0) := ⟨_, rfl⟩
      obtain ⟨m, hm⟩ : ∃ m, m = fm p (L.getD j 0 * R0 % p) := ⟨_, rfl⟩
      obtain ⟨z, hz⟩ : ∃ z, z = fm p zn := ⟨_, rfl⟩
      obtain ⟨g, hg⟩ : ∃ g, g = fm p (facV v) := ⟨_, rfl⟩
      obtain ⟨u2, hu2⟩ : ∃ u2, u2 = fm p (R0 * facV v % p) := ⟨_, rfl⟩
      obtain ⟨kk, hkk⟩ : ∃ kk, kk = mk (zeroN y) := ⟨_, rfl⟩
      have hyR : y < R256 := by rw [hy]; exact Nat.lt_trans (fm_lt HF.out.mp.pos _) HF.out.mp.lt
      have hzz : z = if zeroN y then 0 else m := by
        rw [hz, hzn, hm]
        unfold zeroN
        by_cases h0 : v = 0
        · rw [if_pos h0, if_pos (by rw [hy, h0, fm_zero]; decide), fm_zero]
        · rw [if_neg h0, if_neg]
          intro h1
          simp only [decide_eq_true_eq] at h1
          exact h0 (fm_inj HF.out.mp hvp HF.out.mp.pos ((hy.symm.trans h1).trans (fm_zero p).symm))
      have HIz := Lib.hid (show ∀ W, Calls Tryd.prog 43 #[V y] W fun x' w' => x' = .returned (.int .u64 kk) ∧ Off (fun _ => False) W w' from fun W => by rw [hkk]; exact miszero_any y hyR W)
      have HCh := Lib.hid (show ∀ W, Calls Tryd.prog 42 #[.int .u64 kk, .agg #[.int .u64 0, .int .u64 0, .int .u64 0, .int .u64 0], V m] W fun x' w' => x' = .returned (V z) ∧ Off (fun _ => False) W w' from fun W => by
        have h := mchoose_any kk (by rw [hkk]; exact mk_word _) 0 m W
        rw [hkk, selN_mk, ← hzz, ← hkk, lit_small 0 (by decide)] at h
        exact h)
      have HMo := Lib.hid (show ∀ W, Calls Tryd.prog 32 #[FV id p i0 r s, V o, V u] W fun x' w' => x' = .returned (V m) ∧ Off (fun _ => False) W w' from fun W => by rw [ho, hu, hm]; exact HM.out _ _ W)
      have HFc := Lib.hid (show ∀ W, Calls Tryd.prog 40 #[FV id p i0 r s, V y] W fun x' w' => x' = .returned (V g) ∧ Off (fun _ => False) W w' from fun W => by rw [hy, hg]; exact HFa.out v hvp W)
      have HMu := Lib.hid (show ∀ W, Calls Tryd.prog 32 #[FV id p i0 r s, V u, V g] W fun x' w' => x' = .returned (V u2) ∧ Off (fun _ => False) W w' from fun W => by rw [hu, hg, hu2]; exact HM.out _ _ W)
      rw [← hy]
      rw [← hy] at hcB
      rw [← hu] at hC
      have HLs := Lib.hid (show ((L.set j zn).map (fm p)) = (L.map (fm p)).set j z by rw [List.map_set, hz])
      have HZ2 := Lib.hid hu2
      have hC := hC.typed
      obtain ⟨S', hS'⟩ : ∃ S' : Nat → Prop, S' = fun k => S0' k ∧ Typed W k := ⟨_, rfl⟩
      have hBS : ¬ S' B := by rw [hS']; exact fun c => not_typed hcB c.2
      rw [← hS'] at hC
      have hLl : (L.map (fm p)).length = n := by rw [List.length_map, hLn]
      have hoj : (L.map (fm p))[j]? = some o := by
        rw [ho, ← getD_fm, List.getD_eq_getElem?_getD, List.getElem?_eq_getElem (by omega)]; rfl
      obtain ⟨L1, hL1⟩ : ∃ L1, L1 = L.map (fm p) := ⟨_, rfl⟩
      rw [← hL1] at hC HLs hLl hoj
      have HOj := Lib.hid hoj
      have hnote := CallsIn.inRound l (callsIn_wide (n := 3 - 1 - 1 - 1).2 (note_ext q (ext q es2 (coefD n pre)) S' W hC.tp (by have := ext_le q es2 (coefD n pre); rw [coefD_length] at this; omega) ((2 : Int), (j : Int), (0 : Int))))
      have HC := Lib.hid hC
      have HcB := Lib.hid hcB
      have HKd := Lib.hid hKd
      have k0 : W.cell? ⟨w.heap.size, 0, none⟩ = some (.pointer q) := cell_of_heap hC.tb 0
      clear hC hcB hS' hL1 hu hg hy hz hR0 hL hLn hvv hj hsn hse hzn ho hm hu2 hkk hyR hzz hoj hKd hst
      gi_wp2
      refine hnote.mono ?_
      rintro r1 W1 ⟨rfl, hN, hO1⟩
      clear k0 hnote
      obtain ⟨S2, hC2⟩ := HC.out.note HB2.out hO1 hN
      rw [ext_ext, ← HSe.out] at hC2
      have hE1 := hO1.heap HcB.out hBS
      have hjI : (j : Int) < (n : Int) := by omega
      have HKd1 := Lib.hid (hO1.others _ _ HKd.out rfl)
      have HC2 := Lib.hid hC2
      have HE1 := Lib.hid hE1
      have HK1 := Lib.hid hO1.keeps
      have HBB := Lib.hid HB2.out
      have HK16 : Hid (∀ W, Off (fun _ => False) W1 W → (W.cell? ⟨b1, 0, none⟩ = some (.int .i64 id) ∧ W.cell? ⟨b1, 1, none⟩ = some (.int .u64 (wd p 0 : Int)) ∧ W.cell? ⟨b1, 2, none⟩ = some (.int .u64 (wd p 1 : Int)) ∧ W.cell? ⟨b1, 3, none⟩ = some (.int .u64 (wd p 2 : Int)) ∧ W.cell? ⟨b1, 4, none⟩ = some (.int .u64 (wd p 3 : Int)) ∧ W.cell? ⟨b1, 5, none⟩ = some (.int .u64 (i0 : Int)) ∧ W.cell? ⟨b1, 6, none⟩ = some (.int .u64 (wd r 0 : Int)) ∧ W.cell? ⟨b1, 7, none⟩ = some (.int .u64 (wd r 1 : Int)) ∧ W.cell? ⟨b1, 8, none⟩ = some (.int .u64 (wd r 2 : Int)) ∧ W.cell? ⟨b1, 9, none⟩ = some (.int .u64 (wd r 3 : Int)) ∧ W.cell? ⟨b1, 10, none⟩ = some (.int .u64 (wd s 0 : Int)) ∧ W.cell? ⟨b1, 11, none⟩ = some (.int .u64 (wd s 1 : Int)) ∧ W.cell? ⟨b1, 12, none⟩ = some (.int .u64 (wd s 2 : Int)) ∧ W.cell? ⟨b1, 13, none⟩ = some (.int .u64 (wd s 3 : Int))) ∧ (W.cell? ⟨b3, 0, none⟩ = some (.slice (some ⟨arr, 0, none⟩) n n)) ∧ (W.cell? ⟨arr, j * 4, none⟩ = some (.int .u64 (wd o 0 : Int)) ∧ W.cell? ⟨arr, j * 4 + 1, none⟩ = some (.int .u64 (wd o 1 : Int)) ∧ W.cell? ⟨arr, j * 4 + 2, none⟩ = some (.int .u64 (wd o 2 : Int)) ∧ W.cell? ⟨arr, j * 4 + 3, none⟩ = some (.int .u64 (wd o 3 : Int))) ∧ (W.cell? ⟨rb, 0, none⟩ = some (.int .u64 (wd u 0 : Int)) ∧ W.cell? ⟨rb, 1, none⟩ = some (.int .u64 (wd u 1 : Int)) ∧ W.cell? ⟨rb, 2, none⟩ = some (.int .u64 (wd u 2 : Int)) ∧ W.cell? ⟨rb, 3, none⟩ = some (.int .u64 (wd u 3 : Int))) ∧ Off (fun _ => False) W1 W) := Lib.hid (fun W h => ⟨fv_cells (h.heap HC2.out.fb (fun c => c)), cell_of_heap (h.heap HC2.out.sb (fun c => c)) 0, NumsAt.cell (HC2.out.ars.off h (fun c => c)) HOj.out, cells4 (h.heap HC2.out.pr (fun c => c)), h⟩)
      clear hC2 hE1 hN hO1
      gi_wp2
      refine wpIn_region_inv (fun a0 l a' w' => ∃ (u51 : Value) (u52 : Value) (u53 : Value) (u54 : Value) (u55 : Value) (u56 : Value) (u57 : Value) (u14 : Value) (b14 : Nat), a' = (Act.put (Act.put (Act.put (Act.put (Act.put (Act.put (Act.put (Act.put a0 (some 51) u51) (some 52) u52) (some 53) u53) (some 54) u54) (some 55) u55) (some 56) u56) (some 57) u57) (some 14) u14) ∧ Slot l 0 u51 (FV id p i0 r s) ∧ Slot l 1 u52 (.slice (some ⟨arr, 0, none⟩) n n) ∧ Slot l 2 u53 (.int .i64 (j : Int)) ∧ Slot l 3 u54 (.pointer (some ⟨arr, j * 4, none⟩)) ∧ Slot l 4 u55 (V o) ∧ Slot l 5 u56 (V u) ∧ Slot l 6 u57 (V m) ∧ Blk l 7 8 u14 b14 W1 w' (.cells #[.int .u64 0, .int .u64 0, .int .u64 0, .int .u64 0] 24) (.cells #[.int .u64 (wd m 0 : Int), .int .u64 (wd m 1 : Int), .int .u64 (wd m 2 : Int), .int .u64 (wd m 3 : Int)] 24) ∧ Off (fun _ => False) W1 w') (by kernel_rfl) (by kernel_rfl) (by kernel_rfl) ?_ ⟨?_, ?_, ?_, ?_, ?_, ?_, ?_, ?_, ?_, trivial⟩ ?_
      · refine ⟨?z51, ?z52, ?z53, ?z54, ?z55, ?z56, ?z57, ?z14, 0, ?fr, Slot.start _ _ _, Slot.start _ _ _, Slot.start _ _ _, Slot.start _ _ _, Slot.start _ _ _, Slot.start _ _ _, Slot.start _ _ _, Blk.start _ _ _ _ _ _ _ _, (Off.refl _ W1).drew⟩
        case fr => first | (simp only [Act.put, List.setIfInBounds_toArray, List.set_cons_zero, List.set_cons_succ]; rfl) | simp only [Act.put, List.setIfInBounds_toArray, List.set_cons_zero, List.set_cons_succ]
      · intro l a wr hI hl hd K' hK
        obtain ⟨u51, u52, u53, u54, u55, u56, u57, u14, b14, ha, s0, s1, s2, s3, s4, s5, s6, B7, hO⟩ := hI
        simp only [Act.put, List.setIfInBounds_toArray, List.set_cons_zero, List.set_cons_succ] at ha
        subst ha
        have hc := HK16.out wr hO
        have p0 := hc.1.1
        have p1 := hc.1.2.1
        have p2 := hc.1.2.2.1
        have p3 := hc.1.2.2.2.1
        have p4 := hc.1.2.2.2.2.1
        have p5 := hc.1.2.2.2.2.2.1
        have p6 := hc.1.2.2.2.2.2.2.1
        have p7 := hc.1.2.2.2.2.2.2.2.1
        have p8 := hc.1.2.2.2.2.2.2.2.2.1
        have p9 := hc.1.2.2.2.2.2.2.2.2.2.1
        have p10 := hc.1.2.2.2.2.2.2.2.2.2.2.1
        have p11 := hc.1.2.2.2.2.2.2.2.2.2.2.2.1
        have p12 := hc.1.2.2.2.2.2.2.2.2.2.2.2.2.1
        have p13 := hc.1.2.2.2.2.2.2.2.2.2.2.2.2.2
        clear hc
        go_simp
        refine hK.out _ _ ⟨_, _, _, _, _, _, _, _, _, ?_, Slot.new _ _ _, s1.keep rfl, s2.keep rfl, s3.keep rfl, s4.keep rfl, s5.keep rfl, s6.keep rfl, B7.keep (Off.refl _ wr) rfl rfl, hO⟩
        simp only [Act.put, List.setIfInBounds_toArray, List.set_cons_zero, List.set_cons_succ]
      · intro l a wr hI hl hd K' hK
        obtain ⟨u51, u52, u53, u54, u55, u56, u57, u14, b14, ha, s0, s1, s2, s3, s4, s5, s6, B7, hO⟩ := hI
        simp only [Act.put, List.setIfInBounds_toArray, List.set_cons_zero, List.set_cons_succ] at ha
        subst ha
        have hc := HK16.out wr hO
        have p0 := hc.2.1
        clear hc
        go_simp
        refine hK.out _ _ ⟨_, _, _, _, _, _, _, _, _, ?_, s0.keep rfl, Slot.new _ _ _, s2.keep rfl, s3.keep rfl, s4.keep rfl, s5.keep rfl, s6.keep rfl, B7.keep (Off.refl _ wr) rfl rfl, hO⟩
        simp only [Act.put, List.setIfInBounds_toArray, List.set_cons_zero, List.set_cons_succ]
      · intro l a wr hI hl hd K' hK
        obtain ⟨u51, u52, u53, u54, u55, u56, u57, u14, b14, ha, s0, s1, s2, s3, s4, s5, s6, B7, hO⟩ := hI
        simp only [Act.put, List.setIfInBounds_toArray, List.set_cons_zero, List.set_cons_succ] at ha
        subst ha
        go_simp
        refine hK.out _ _ ⟨_, _, _, _, _, _, _, _, _, ?_, s0.keep rfl, s1.keep rfl, Slot.new _ _ _, s3.keep rfl, s4.keep rfl, s5.keep rfl, s6.keep rfl, B7.keep (Off.refl _ wr) rfl rfl, hO⟩
        simp only [Act.put, List.setIfInBounds_toArray, List.set_cons_zero, List.set_cons_succ]
      · intro l a wr hI hl hd K' hK
        obtain ⟨u51, u52, u53, u54, u55, u56, u57, u14, b14, ha, s0, s1, s2, s3, s4, s5, s6, B7, hO⟩ := hI
        simp only [Act.put, List.setIfInBounds_toArray, List.set_cons_zero, List.set_cons_succ] at ha
        have q1 := s1 (hd 1 (by decide))
        have q2 := s2 (hd 2 (by decide))
        subst ha q1 q2
        go_simp
        refine hK.out _ _ ⟨_, _, _, _, _, _, _, _, _, ?_, s0.keep rfl, s1.keep rfl, s2.keep rfl, Slot.new _ _ _, s4.keep rfl, s5.keep rfl, s6.keep rfl, B7.keep (Off.refl _ wr) rfl rfl, hO⟩
        simp only [Act.put, List.setIfInBounds_toArray, List.set_cons_zero, List.set_cons_succ]
      · intro l a wr hI hl hd K' hK
        obtain ⟨u51, u52, u53, u54, u55, u56, u57, u14, b14, ha, s0, s1, s2, s3, s4, s5, s6, B7, hO⟩ := hI
        simp only [Act.put, List.setIfInBounds_toArray, List.set_cons_zero, List.set_cons_succ] at ha
        have q3 := s3 (hd 3 (by decide))
        subst ha q3
        have hc := HK16.out wr hO
        have p0 := hc.2.2.1.1
        have p1 := hc.2.2.1.2.1
        have p2 := hc.2.2.1.2.2.1
        have p3 := hc.2.2.1.2.2.2
        clear hc
        go_simp
        refine hK.out _ _ ⟨_, _, _, _, _, _, _, _, _, ?_, s0.keep rfl, s1.keep rfl, s2.keep rfl, s3.keep rfl, Slot.new _ _ _, s5.keep rfl, s6.keep rfl, B7.keep (Off.refl _ wr) rfl rfl, hO⟩
        simp only [Act.put, List.setIfInBounds_toArray, List.set_cons_zero, List.set_cons_succ]
      · intro l a wr hI hl hd K' hK
        obtain ⟨u51, u52, u53, u54, u55, u56, u57, u14, b14, ha, s0, s1, s2, s3, s4, s5, s6, B7, hO⟩ := hI
        simp only [Act.put, List.setIfInBounds_toArray, List.set_cons_zero, List.set_cons_succ] at ha
        subst ha
        have hc := HK16.out wr hO
        have p0 := hc.2.2.2.1.1
        have p1 := hc.2.2.2.1.2.1
        have p2 := hc.2.2.2.1.2.2.1
        have p3 := hc.2.2.2.1.2.2.2
        clear hc
        go_simp
        refine hK.out _ _ ⟨_, _, _, _, _, _, _, _, _, ?_, s0.keep rfl, s1.keep rfl, s2.keep rfl, s3.keep rfl, s4.keep rfl, Slot.new _ _ _, s6.keep rfl, B7.keep (Off.refl _ wr) rfl rfl, hO⟩
        simp only [Act.put, List.setIfInBounds_toArray, List.set_cons_zero, List.set_cons_succ]
      · intro l a wr hI hl hd K' hK
        obtain ⟨u51, u52, u53, u54, u55, u56, u57, u14, b14, ha, s0, s1, s2, s3, s4, s5, s6, B7, hO⟩ := hI
        simp only [Act.put, List.setIfInBounds_toArray, List.set_cons_zero, List.set_cons_succ] at ha
        have q0 := s0 (hd 0 (by decide))
        have q4 := s4 (hd 4 (by decide))
        have q5 := s5 (hd 5 (by decide))
        subst ha q0 q4 q5
        go_simp
        refine (held_inv (HMo.out wr) hO).mono ?_
        rintro e w1 ⟨rfl, hO1, hOW⟩
        go_wp2_with fail
        refine hK.out _ _ ⟨_, _, _, _, _, _, _, _, _, ?_, s0.keep rfl, s1.keep rfl, s2.keep rfl, s3.keep rfl, s4.keep rfl, s5.keep rfl, Slot.new _ _ _, B7.keep hOW rfl rfl, hO1⟩
        simp only [Act.put, List.setIfInBounds_toArray, List.set_cons_zero, List.set_cons_succ]
      · intro l a wr hI hl hd K' hK
        obtain ⟨u51, u52, u53, u54, u55, u56, u57, u14, b14, ha, s0, s1, s2, s3, s4, s5, s6, B7, hO⟩ := hI
        simp only [Act.put, List.setIfInBounds_toArray, List.set_cons_zero, List.set_cons_succ] at ha
        subst ha
        go_simp
        refine hK.out _ _ ⟨_, _, _, _, _, _, _, _, _, ?_, s0.keep rfl, s1.keep rfl, s2.keep rfl, s3.keep rfl, s4.keep rfl, s5.keep rfl, s6.keep rfl, B7.make hl rfl hO, hO.alloc _⟩
        simp only [Act.put, List.setIfInBounds_toArray, List.set_cons_zero, List.set_cons_succ]
      · intro l a wr hI hl hd K' hK
        obtain ⟨u51, u52, u53, u54, u55, u56, u57, u14, b14, ha, s0, s1, s2, s3, s4, s5, s6, B7, hO⟩ := hI
        simp only [Act.put, List.setIfInBounds_toArray, List.set_cons_zero, List.set_cons_succ] at ha
        have h7 := hd 7 (by decide)
        have q7 := B7.ptr h7
        have q6 := s6 (hd 6 (by decide))
        subst ha q7 q6
        obtain ⟨⟨m0, m1, m2, m3⟩, fz, lt⟩ := zero_cells (B7.was h7 hl)
        go_simp
        refine hK.out _ _ ⟨_, _, _, _, _, _, _, _, _, ?_, s0.keep rfl, s1.keep rfl, s2.keep rfl, s3.keep rfl, s4.keep rfl, s5.keep rfl, s6.keep rfl, B7.put hl h7 rfl rfl, setCells_in hO (fun c => absurd c (Nat.not_lt.2 (B7.new h7))) [.int .u64 (wd m 0 : Int), .int .u64 (wd m 1 : Int), .int .u64 (wd m 2 : Int), .int .u64 (wd m 3 : Int)]⟩
        simp only [Act.put, List.setIfInBounds_toArray, List.set_cons_zero, List.set_cons_succ]
      · intro l a wc hI hd
        obtain ⟨u51, u52, u53, u54, u55, u56, u57, u14, b14, ha, s0, s1, s2, s3, s4, s5, s6, B7, hO⟩ := hI
        simp only [Act.put, List.setIfInBounds_toArray, List.set_cons_zero, List.set_cons_succ] at ha
        have q0 := s0 (hd 0 (by decide))
        have q1 := s1 (hd 1 (by decide))
        have q2 := s2 (hd 2 (by decide))
        have q3 := s3 (hd 3 (by decide))
        have q4 := s4 (hd 4 (by decide))
        have q5 := s5 (hd 5 (by decide))
        have q6 := s6 (hd 6 (by decide))
        have q7 := B7.ptr (hd 7 (by decide))
        have n14 : wc.heap[b14]? = some (.cells #[.int .u64 (wd m 0 : Int), .int .u64 (wd m 1 : Int), .int .u64 (wd m 2 : Int), .int .u64 (wd m 3 : Int)] 24) := B7.now (hd 7 (by decide)) (hd 8 (by decide))
        have v14 := B7.new (hd 7 (by decide))
        subst ha q0 q1 q2 q3 q4 q5 q6 q7
        clear hd s0 s1 s2 s3 s4 s5 s6 B7
        obtain ⟨W2, hW2⟩ : ∃ W2, W2 = wc := ⟨_, rfl⟩
        subst hW2
        have hC3 := HC2.out.keep hO
        have hE2 := hO.heap HE1.out (fun c => c)
        have HKd2 := Lib.hid (hO.others _ _ HKd1.out rfl)
        have HK2 := Lib.hid (HK1.out.trans hO.keeps)
        have hb14 : lb2 < b14 := by have := HC2.out.src.1.lt; omega
        have HC3 := Lib.hid hC3
        have HE2 := Lib.hid hE2
        have HN14 := Lib.hid n14
        have HAr := Lib.hid (show W2.heap[arr]? = some (.cells (flat4 L1).toArray 24 (0, 0)) from hC3.ars)
        have HP := Lib.hid (show ∀ W : World, W.heap[arr]? = some (.cells (flat4 L1).toArray 24 (0, 0)) → (W.setCells arr (j * 4) (words4 z)).heap[arr]? = some (.cells (flat4 (L1.set j z)).toArray 24 (0, 0)) from fun W h => NumsAt.store h (by omega) z)
        have HK17 : Hid (∀ W, Off (fun k => k = arr) W2 W → (W.cell? ⟨b3, 0, none⟩ = some (.slice (some ⟨arr, 0, none⟩) n n)) ∧ (W.cell? ⟨B, 0, none⟩ = some (.int .u64 (wd y 0 : Int)) ∧ W.cell? ⟨B, 1, none⟩ = some (.int .u64 (wd y 1 : Int)) ∧ W.cell? ⟨B, 2, none⟩ = some (.int .u64 (wd y 2 : Int)) ∧ W.cell? ⟨B, 3, none⟩ = some (.int .u64 (wd y 3 : Int))) ∧ (W.cell? ⟨b14, 0, none⟩ = some (.int .u64 (wd m 0 : Int)) ∧ W.cell? ⟨b14, 1, none⟩ = some (.int .u64 (wd m 1 : Int)) ∧ W.cell? ⟨b14, 2, none⟩ = some (.int .u64 (wd m 2 : Int)) ∧ W.cell? ⟨b14, 3, none⟩ = some (.int .u64 (wd m 3 : Int))) ∧ Off (fun k => k = arr) W2 W) := Lib.hid (fun W h => ⟨cell_of_heap (h.heap HC3.out.sb (by have := HBB.out.c3; omega)) 0, cells4 (h.heap HE2.out (by have := HBB.out.c3; have := HBB.out.c4; have := HBB.out.c5; omega)), cells4 (h.heap HN14.out (by have := HBB.out.c3; have := HBB.out.c4; have := HBB.out.c5; omega)), h⟩)
        clear hC3 hE2 n14 v14 hO HC2 HE1 HK1 HKd1
        gi_wp2
        refine wpIn_region_inv (fun a0 l a' w' => ∃ (u58 : Value) (u59 : Value) (u60 : Value) (u61 : Value) (u62 : Value) (u63 : Value) (u64 : Value) (u65 : Value), a' = (Act.put (Act.put (Act.put (Act.put (Act.put (Act.put (Act.put (Act.put a0 (some 58) u58) (some 59) u59) (some 60) u60) (some 61) u61) (some 62) u62) (some 63) u63) (some 64) u64) (some 65) u65) ∧ Slot l 0 u58 (.slice (some ⟨arr, 0, none⟩) n n) ∧ Slot l 1 u59 (.int .i64 (j : Int)) ∧ Slot l 2 u60 (V y) ∧ Slot l 3 u61 (.int .u64 kk) ∧ Slot l 4 u62 (.agg #[.int .u64 0, .int .u64 0, .int .u64 0, .int .u64 0]) ∧ Slot l 5 u63 (V m) ∧ Slot l 6 u64 (V z) ∧ Slot l 7 u65 (.pointer (some ⟨arr, j * 4, none⟩)) ∧ Old l 8 arr W2 w' (.cells (flat4 L1).toArray 24) (.cells (flat4 (L1.set j z)).toArray 24) ∧ Off (fun k => k = arr) W2 w') (by kernel_rfl) (by kernel_rfl) (by kernel_rfl) ?_ ⟨?_, ?_, ?_, ?_, ?_, ?_, ?_, ?_, ?_, trivial⟩ ?_
        · refine ⟨?z58, ?z59, ?z60, ?z61, ?z62, ?z63, ?z64, ?z65, ?fr, Slot.start _ _ _, Slot.start _ _ _, Slot.start _ _ _, Slot.start _ _ _, Slot.start _ _ _, Slot.start _ _ _, Slot.start _ _ _, Slot.start _ _ _, Old.start HAr.out _ _, (Off.refl _ W2).drew⟩
          case fr => first | (simp only [Act.put, List.setIfInBounds_toArray, List.set_cons_zero, List.set_cons_succ]; rfl) | simp only [Act.put, List.setIfInBounds_toArray, List.set_cons_zero, List.set_cons_succ]
        · intro l a wr hI hl hd K' hK
          obtain ⟨u58, u59, u60, u61, u62, u63, u64, u65, ha, s0, s1, s2, s3, s4, s5, s6, s7, O0, hO⟩ := hI
          simp only [Act.put, List.setIfInBounds_toArray, List.set_cons_zero, List.set_cons_succ] at ha
          subst ha
          have hc := HK17.out wr hO
          have p0 := hc.1
          clear hc
          go_simp
          refine hK.out _ _ ⟨_, _, _, _, _, _, _, _, ?_, Slot.new _ _ _, s1.keep rfl, s2.keep rfl, s3.keep rfl, s4.keep rfl, s5.keep rfl, s6.keep rfl, s7.keep rfl, O0.keep (Off.refl _ wr) rfl, hO⟩
          simp only [Act.put, List.setIfInBounds_toArray, List.set_cons_zero, List.set_cons_succ]
        · intro l a wr hI hl hd K' hK
          obtain ⟨u58, u59, u60, u61, u62, u63, u64, u65, ha, s0, s1, s2, s3, s4, s5, s6, s7, O0, hO⟩ := hI
          simp only [Act.put, List.setIfInBounds_toArray, List.set_cons_zero, List.set_cons_succ] at ha
          subst ha
          go_simp
          refine hK.out _ _ ⟨_, _, _, _, _, _, _, _, ?_, s0.keep rfl, Slot.new _ _ _, s2.keep rfl, s3.keep rfl, s4.keep rfl, s5.keep rfl, s6.keep rfl, s7.keep rfl, O0.keep (Off.refl _ wr) rfl, hO⟩
          simp only [Act.put, List.setIfInBounds_toArray, List.set_cons_zero, List.set_cons_succ]
        · intro l a wr hI hl hd K' hK
          obtain ⟨u58, u59, u60, u61, u62, u63, u64, u65, ha, s0, s1, s2, s3, s4, s5, s6, s7, O0, hO⟩ := hI
          simp only [Act.put, List.setIfInBounds_toArray, List.set_cons_zero, List.set_cons_succ] at ha
          subst ha
          have hc := HK17.out wr hO
          have p0 := hc.2.1.1
          have p1 := hc.2.1.2.1
          have p2 := hc.2.1.2.2.1
          have p3 := hc.2.1.2.2.2
          clear hc
          go_simp
          refine hK.out _ _ ⟨_, _, _, _, _, _, _, _, ?_, s0.keep rfl, s1.keep rfl, Slot.new _ _ _, s3.keep rfl, s4.keep rfl, s5.keep rfl, s6.keep rfl, s7.keep rfl, O0.keep (Off.refl _ wr) rfl, hO⟩
          simp only [Act.put, List.setIfInBounds_toArray, List.set_cons_zero, List.set_cons_succ]
        · intro l a wr hI hl hd K' hK
          obtain ⟨u58, u59, u60, u61, u62, u63, u64, u65, ha, s0, s1, s2, s3, s4, s5, s6, s7, O0, hO⟩ := hI
          simp only [Act.put, List.setIfInBounds_toArray, List.set_cons_zero, List.set_cons_succ] at ha
          have q2 := s2 (hd 2 (by decide))
          subst ha q2
          go_simp
          refine (held_inv (HIz.out wr) hO).mono ?_
          rintro e w1 ⟨rfl, hO1, hOW⟩
          go_wp2_with fail
          refine hK.out _ _ ⟨_, _, _, _, _, _, _, _, ?_, s0.keep rfl, s1.keep rfl, s2.keep rfl, Slot.new _ _ _, s4.keep rfl, s5.keep rfl, s6.keep rfl, s7.keep rfl, O0.keep hOW rfl, hO1⟩
          simp only [Act.put, List.setIfInBounds_toArray, List.set_cons_zero, List.set_cons_succ]
        · intro l a wr hI hl hd K' hK
          obtain ⟨u58, u59, u60, u61, u62, u63, u64, u65, ha, s0, s1, s2, s3, s4, s5, s6, s7, O0, hO⟩ := hI
          simp only [Act.put, List.setIfInBounds_toArray, List.set_cons_zero, List.set_cons_succ] at ha
          subst ha
          go_simp
          refine hK.out _ _ ⟨_, _, _, _, _, _, _, _, ?_, s0.keep rfl, s1.keep rfl, s2.keep rfl, s3.keep rfl, Slot.new _ _ _, s5.keep rfl, s6.keep rfl, s7.keep rfl, O0.keep (Off.refl _ wr) rfl, hO⟩
          simp only [Act.put, List.setIfInBounds_toArray, List.set_cons_zero, List.set_cons_succ]
        · intro l a wr hI hl hd K' hK
          obtain ⟨u58, u59, u60, u61, u62, u63, u64, u65, ha, s0, s1, s2, s3, s4, s5, s6, s7, O0, hO⟩ := hI
          simp only [Act.put, List.setIfInBounds_toArray, List.set_cons_zero, List.set_cons_succ] at ha
          subst ha
          have hc := HK17.out wr hO
          have p0 := hc.2.2.1.1
          have p1 := hc.2.2.1.2.1
          have p2 := hc.2.2.1.2.2.1
          have p3 := hc.2.2.1.2.2.2
          clear hc
          go_simp
          refine hK.out _ _ ⟨_, _, _, _, _, _, _, _, ?_, s0.keep rfl, s1.keep rfl, s2.keep rfl, s3.keep rfl, s4.keep rfl, Slot.new _ _ _, s6.keep rfl, s7.keep rfl, O0.keep (Off.refl _ wr) rfl, hO⟩
          simp only [Act.put, List.setIfInBounds_toArray, List.set_cons_zero, List.set_cons_succ]
        · intro l a wr hI hl hd K' hK
          obtain ⟨u58, u59, u60, u61, u62, u63, u64, u65, ha, s0, s1, s2, s3, s4, s5, s6, s7, O0, hO⟩ := hI
          simp only [Act.put, List.setIfInBounds_toArray, List.set_cons_zero, List.set_cons_succ] at ha
          have q3 := s3 (hd 3 (by decide))
          have q4 := s4 (hd 4 (by decide))
          have q5 := s5 (hd 5 (by decide))
          subst ha q3 q4 q5
          go_simp
          refine (held_inv (HCh.out wr) hO).mono ?_
          rintro e w1 ⟨rfl, hO1, hOW⟩
          go_wp2_with fail
          refine hK.out _ _ ⟨_, _, _, _, _, _, _, _, ?_, s0.keep rfl, s1.keep rfl, s2.keep rfl, s3.keep rfl, s4.keep rfl, s5.keep rfl, Slot.new _ _ _, s7.keep rfl, O0.keep hOW rfl, hO1⟩
          simp only [Act.put, List.setIfInBounds_toArray, List.set_cons_zero, List.set_cons_succ]
        · intro l a wr hI hl hd K' hK
          obtain ⟨u58, u59, u60, u61, u62, u63, u64, u65, ha, s0, s1, s2, s3, s4, s5, s6, s7, O0, hO⟩ := hI
          simp only [Act.put, List.setIfInBounds_toArray, List.set_cons_zero, List.set_cons_succ] at ha
          have q0 := s0 (hd 0 (by decide))
          have q1 := s1 (hd 1 (by decide))
          subst ha q0 q1
          go_simp
          refine hK.out _ _ ⟨_, _, _, _, _, _, _, _, ?_, s0.keep rfl, s1.keep rfl, s2.keep rfl, s3.keep rfl, s4.keep rfl, s5.keep rfl, s6.keep rfl, Slot.new _ _ _, O0.keep (Off.refl _ wr) rfl, hO⟩
          simp only [Act.put, List.setIfInBounds_toArray, List.set_cons_zero, List.set_cons_succ]
        · intro l a wr hI hl hd K' hK
          obtain ⟨u58, u59, u60, u61, u62, u63, u64, u65, ha, s0, s1, s2, s3, s4, s5, s6, s7, O0, hO⟩ := hI
          simp only [Act.put, List.setIfInBounds_toArray, List.set_cons_zero, List.set_cons_succ] at ha
          have q7 := s7 (hd 7 (by decide))
          have q6 := s6 (hd 6 (by decide))
          subst ha q7 q6
          have hZ := (O0.was hl)
          obtain ⟨m0, m1, m2, m3⟩ := NumsAt.cell hZ HOj.out
          have fz := fun j => NumsAt.frozen hZ j
          have lt := heap_lt hZ
          clear hZ
          go_simp
          refine hK.out _ _ ⟨_, _, _, _, _, _, _, _, ?_, s0.keep rfl, s1.keep rfl, s2.keep rfl, s3.keep rfl, s4.keep rfl, s5.keep rfl, s6.keep rfl, s7.keep rfl, O0.putAt (HP.out wr) hl, setCells_in_at hO (fun _ => rfl) (words4 z)⟩
          simp only [Act.put, List.setIfInBounds_toArray, List.set_cons_zero, List.set_cons_succ]
        · intro l a wc hI hd
          obtain ⟨u58, u59, u60, u61, u62, u63, u64, u65, ha, s0, s1, s2, s3, s4, s5, s6, s7, O0, hO⟩ := hI
          simp only [Act.put, List.setIfInBounds_toArray, List.set_cons_zero, List.set_cons_succ] at ha
          have q0 := s0 (hd 0 (by decide))
          have q1 := s1 (hd 1 (by decide))
          have q2 := s2 (hd 2 (by decide))
          have q3 := s3 (hd 3 (by decide))
          have q4 := s4 (hd 4 (by decide))
          have q5 := s5 (hd 5 (by decide))
          have q6 := s6 (hd 6 (by decide))
          have q7 := s7 (hd 7 (by decide))
          have r0 : wc.heap[arr]? = some (.cells (flat4 (L1.set j z)).toArray 24) := O0.now (hd 8 (by decide))
          subst ha q0 q1 q2 q3 q4 q5 q6 q7
          clear hd s0 s1 s2 s3 s4 s5 s6 s7 O0
          obtain ⟨W3, hW3⟩ : ∃ W3, W3 = wc := ⟨_, rfl⟩
          subst hW3
          have hC4 := HC3.out.arr' HBB.out hO r0
          rw [← HLs.out] at hC4
          have hE3 := hO.heap HE2.out (by have := HBB.out.c3; have := HBB.out.c4; have := HBB.out.c5; omega)
          have HKd3 := Lib.hid (hO.others _ _ HKd2.out rfl)
          have HK3 := Lib.hid (HK2.out.trans hO.keeps)
          have HC4 := Lib.hid hC4
          have HE3 := Lib.hid hE3
          have HPr := Lib.hid hC4.pr
          have HK18 : Hid (∀ W, Off (fun k => k = rb) W3 W → (W.cell? ⟨b1, 0, none⟩ = some (.int .i64 id) ∧ W.cell? ⟨b1, 1, none⟩ = some (.int .u64 (wd p 0 : Int)) ∧ W.cell? ⟨b1, 2, none⟩ = some (.int .u64 (wd p 1 : Int)) ∧ W.cell? ⟨b1, 3, none⟩ = some (.int .u64 (wd p 2 : Int)) ∧ W.cell? ⟨b1, 4, none⟩ = some (.int .u64 (wd p 3 : Int)) ∧ W.cell? ⟨b1, 5, none⟩ = some (.int .u64 (i0 : Int)) ∧ W.cell? ⟨b1, 6, none⟩ = some (.int .u64 (wd r 0 : Int)) ∧ W.cell? ⟨b1, 7, none⟩ = some (.int .u64 (wd r 1 : Int)) ∧ W.cell? ⟨b1, 8, none⟩ = some (.int .u64 (wd r 2 : Int)) ∧ W.cell? ⟨b1, 9, none⟩ = some (.int .u64 (wd r 3 : Int)) ∧ W.cell? ⟨b1, 10, none⟩ = some (.int .u64 (wd s 0 : Int)) ∧ W.cell? ⟨b1, 11, none⟩ = some (.int .u64 (wd s 1 : Int)) ∧ W.cell? ⟨b1, 12, none⟩ = some (.int .u64 (wd s 2 : Int)) ∧ W.cell? ⟨b1, 13, none⟩ = some (.int .u64 (wd s 3 : Int))) ∧ (W.cell? ⟨B, 0, none⟩ = some (.int .u64 (wd y 0 : Int)) ∧ W.cell? ⟨B, 1, none⟩ = some (.int .u64 (wd y 1 : Int)) ∧ W.cell? ⟨B, 2, none⟩ = some (.int .u64 (wd y 2 : Int)) ∧ W.cell? ⟨B, 3, none⟩ = some (.int .u64 (wd y 3 : Int))) ∧ Off (fun k => k = rb) W3 W) := Lib.hid (fun W h => ⟨fv_cells (h.heap HC4.out.fb (by have := HBB.out.c2; have := HBB.out.c3; have := HBB.out.c4; omega)), cells4 (h.heap HE3.out (by have := HBB.out.c5; omega)), h⟩)
          clear hC4 hE3 hO r0 HC3 HE2 HK2 HKd2 HN14
          gi_wp2
          refine wpIn_region_inv (fun a0 l a' w' => ∃ (u66 : Value) (u67 : Value) (u68 : Value) (u69 : Value) (u70 : Value) (u71 : Value), a' = (Act.put (Act.put (Act.put (Act.put (Act.put (Act.put a0 (some 66) u66) (some 67) u67) (some 68) u68) (some 69) u69) (some 70) u70) (some 71) u71) ∧ Slot l 0 u66 (FV id p i0 r s) ∧ Slot l 1 u67 (V u) ∧ Slot l 2 u68 (FV id p i0 r s) ∧ Slot l 3 u69 (V y) ∧ Slot l 4 u70 (V g) ∧ Slot l 5 u71 (V u2) ∧ Old l 6 rb W3 w' (.cells #[.int .u64 (wd u 0 : Int), .int .u64 (wd u 1 : Int), .int .u64 (wd u 2 : Int), .int .u64 (wd u 3 : Int)] 24) (.cells #[.int .u64 (wd u2 0 : Int), .int .u64 (wd u2 1 : Int), .int .u64 (wd u2 2 : Int), .int .u64 (wd u2 3 : Int)] 24) ∧ Dep l 1 6 ∧ Off (fun k => k = rb) W3 w') (by kernel_rfl) (by kernel_rfl) (by kernel_rfl) ?_ ⟨?_, ?_, ?_, ?_, ?_, ?_, ?_, trivial⟩ ?_
          · refine ⟨?z66, ?z67, ?z68, ?z69, ?z70, ?z71, ?fr, Slot.start _ _ _, Slot.start _ _ _, Slot.start _ _ _, Slot.start _ _ _, Slot.start _ _ _, Slot.start _ _ _, Old.start HPr.out _ _, Dep.start _ _, (Off.refl _ W3).drew⟩
            case fr => first | (simp only [Act.put, List.setIfInBounds_toArray, List.set_cons_zero, List.set_cons_succ]; rfl) | simp only [Act.put, List.setIfInBounds_toArray, List.set_cons_zero, List.set_cons_succ]
          · intro l a wr hI hl hd K' hK
            obtain ⟨u66, u67, u68, u69, u70, u71, ha, s0, s1, s2, s3, s4, s5, O0, P1_6, hO⟩ := hI
            simp only [Act.put, List.setIfInBounds_toArray, List.set_cons_zero, List.set_cons_succ] at ha
            subst ha
            have hc := HK18.out wr hO
            have p0 := hc.1.1
            have p1 := hc.1.2.1
            have p2 := hc.1.2.2.1
            have p3 := hc.1.2.2.2.1
            have p4 := hc.1.2.2.2.2.1
            have p5 := hc.1.2.2.2.2.2.1
            have p6 := hc.1.2.2.2.2.2.2.1
            have p7 := hc.1.2.2.2.2.2.2.2.1
            have p8 := hc.1.2.2.2.2.2.2.2.2.1
            have p9 := hc.1.2.2.2.2.2.2.2.2.2.1
            have p10 := hc.1.2.2.2.2.2.2.2.2.2.2.1
            have p11 := hc.1.2.2.2.2.2.2.2.2.2.2.2.1
            have p12 := hc.1.2.2.2.2.2.2.2.2.2.2.2.2.1
            have p13 := hc.1.2.2.2.2.2.2.2.2.2.2.2.2.2
            clear hc
            go_simp
            refine hK.out _ _ ⟨_, _, _, _, _, _, ?_, Slot.new _ _ _, s1.keep rfl, s2.keep rfl, s3.keep rfl, s4.keep rfl, s5.keep rfl, O0.keep (Off.refl _ wr) rfl, P1_6.keep rfl, hO⟩
            simp only [Act.put, List.setIfInBounds_toArray, List.set_cons_zero, List.set_cons_succ]
          · intro l a wr hI hl hd K' hK
            obtain ⟨u66, u67, u68, u69, u70, u71, ha, s0, s1, s2, s3, s4, s5, O0, P1_6, hO⟩ := hI
            simp only [Act.put, List.setIfInBounds_toArray, List.set_cons_zero, List.set_cons_succ] at ha
            subst ha
            have hZ := O0.was (P1_6 hl)
            obtain ⟨p0, p1, p2, p3⟩ := cells4 hZ
            clear hZ
            go_simp
            refine hK.out _ _ ⟨_, _, _, _, _, _, ?_, s0.keep rfl, Slot.new _ _ _, s2.keep rfl, s3.keep rfl, s4.keep rfl, s5.keep rfl, O0.keep (Off.refl _ wr) rfl, P1_6.keep rfl, hO⟩
            simp only [Act.put, List.setIfInBounds_toArray, List.set_cons_zero, List.set_cons_succ]
          · intro l a wr hI hl hd K' hK
            obtain ⟨u66, u67, u68, u69, u70, u71, ha, s0, s1, s2, s3, s4, s5, O0, P1_6, hO⟩ := hI
            simp only [Act.put, List.setIfInBounds_toArray, List.set_cons_zero, List.set_cons_succ] at ha
            subst ha
            have hc := HK18.out wr hO
            have p0 := hc.1.1
            have p1 := hc.1.2.1
            have p2 := hc.1.2.2.1
            have p3 := hc.1.2.2.2.1
            have p4 := hc.1.2.2.2.2.1
            have p5 := hc.1.2.2.2.2.2.1
            have p6 := hc.1.2.2.2.2.2.2.1
            have p7 := hc.1.2.2.2.2.2.2.2.1
            have p8 := hc.1.2.2.2.2.2.2.2.2.1
            have p9 := hc.1.2.2.2.2.2.2.2.2.2.1
            have p10 := hc.1.2.2.2.2.2.2.2.2.2.2.1
            have p11 := hc.1.2.2.2.2.2.2.2.2.2.2.2.1
            have p12 := hc.1.2.2.2.2.2.2.2.2.2.2.2.2.1
            have p13 := hc.1.2.2.2.2.2.2.2.2.2.2.2.2.2
            clear hc
            go_simp
            refine hK.out _ _ ⟨_, _, _, _, _, _, ?_, s0.keep rfl, s1.keep rfl, Slot.new _ _ _, s3.keep rfl, s4.keep rfl, s5.keep rfl, O0.keep (Off.refl _ wr) rfl, P1_6.keep rfl, hO⟩
            simp only [Act.put, List.setIfInBounds_toArray, List.set_cons_zero, List.set_cons_succ]
          · intro l a wr hI hl hd K' hK
            obtain ⟨u66, u67, u68, u69, u70, u71, ha, s0, s1, s2, s3, s4, s5, O0, P1_6, hO⟩ := hI
            simp only [Act.put, List.setIfInBounds_toArray, List.set_cons_zero, List.set_cons_succ] at ha
            subst ha
            have hc := HK18.out wr hO
            have p0 := hc.2.1.1
            have p1 := hc.2.1.2.1
            have p2 := hc.2.1.2.2.1
            have p3 := hc.2.1.2.2.2
            clear hc
            go_simp
            refine hK.out _ _ ⟨_, _, _, _, _, _, ?_, s0.keep rfl, s1.keep rfl, s2.keep rfl, Slot.new _ _ _, s4.keep rfl, s5.keep rfl, O0.keep (Off.refl _ wr) rfl, P1_6.keep rfl, hO⟩
            simp only [Act.put, List.setIfInBounds_toArray, List.set_cons_zero, List.set_cons_succ]
          · intro l a wr hI hl hd K' hK
            obtain ⟨u66, u67, u68, u69, u70, u71, ha, s0, s1, s2, s3, s4, s5, O0, P1_6, hO⟩ := hI
            simp only [Act.put, List.setIfInBounds_toArray, List.set_cons_zero, List.set_cons_succ] at ha
            have q2 := s2 (hd 2 (by decide))
            have q3 := s3 (hd 3 (by decide))
            subst ha q2 q3
            go_simp
            refine (held_inv (HFc.out wr) hO).mono ?_
            rintro e w1 ⟨rfl, hO1, hOW⟩
            go_wp2_with fail
            refine hK.out _ _ ⟨_, _, _, _, _, _, ?_, s0.keep rfl, s1.keep rfl, s2.keep rfl, s3.keep rfl, Slot.new _ _ _, s5.keep rfl, O0.keep hOW rfl, P1_6.keep rfl, hO1⟩
            simp only [Act.put, List.setIfInBounds_toArray, List.set_cons_zero, List.set_cons_succ]
          · intro l a wr hI hl hd K' hK
            obtain ⟨u66, u67, u68, u69, u70, u71, ha, s0, s1, s2, s3, s4, s5, O0, P1_6, hO⟩ := hI
            simp only [Act.put, List.setIfInBounds_toArray, List.set_cons_zero, List.set_cons_succ] at ha
            have q0 := s0 (hd 0 (by decide))
            have q1 := s1 (hd 1 (by decide))
            have q4 := s4 (hd 4 (by decide))
            subst ha q0 q1 q4
            go_simp
            refine (held_inv (HMu.out wr) hO).mono ?_
            rintro e w1 ⟨rfl, hO1, hOW⟩
            go_wp2_with fail
            refine hK.out _ _ ⟨_, _, _, _, _, _, ?_, s0.keep rfl, s1.keep rfl, s2.keep rfl, s3.keep rfl, s4.keep rfl, Slot.new _ _ _, O0.keep hOW rfl, P1_6.keep rfl, hO1⟩
            simp only [Act.put, List.setIfInBounds_toArray, List.set_cons_zero, List.set_cons_succ]
          · intro l a wr hI hl hd K' hK
            obtain ⟨u66, u67, u68, u69, u70, u71, ha, s0, s1, s2, s3, s4, s5, O0, P1_6, hO⟩ := hI
            simp only [Act.put, List.setIfInBounds_toArray, List.set_cons_zero, List.set_cons_succ] at ha
            have q5 := s5 (hd 5 (by decide))
            subst ha q5
            have hZ := (O0.was hl)
            obtain ⟨m0, m1, m2, m3⟩ := cells4 hZ
            have fz := fun j => frozen_of_heap hZ j
            have lt := heap_lt hZ
            clear hZ
            go_simp
            refine hK.out _ _ ⟨_, _, _, _, _, _, ?_, s0.keep rfl, s1.keep rfl, s2.keep rfl, s3.keep rfl, s4.keep rfl, s5.keep rfl, O0.put hl rfl, Dep.at (hd 1 (by decide)), setCells_in hO (fun _ => rfl) [.int .u64 (wd u2 0 : Int), .int .u64 (wd u2 1 : Int), .int .u64 (wd u2 2 : Int), .int .u64 (wd u2 3 : Int)]⟩
            simp only [Act.put, List.setIfInBounds_toArray, List.set_cons_zero, List.set_cons_succ]
          · intro l a wc hI hd
            obtain ⟨u66, u67, u68, u69, u70, u71, ha, s0, s1, s2, s3, s4, s5, O0, P1_6, hO⟩ := hI
            simp only [Act.put, List.setIfInBounds_toArray, List.set_cons_zero, List.set_cons_succ] at ha
            have q0 := s0 (hd 0 (by decide))
            have q1 := s1 (hd 1 (by decide))
            have q2 := s2 (hd 2 (by decide))
            have q3 := s3 (hd 3 (by decide))
            have q4 := s4 (hd 4 (by decide))
            have q5 := s5 (hd 5 (by decide))
            have r0 : wc.heap[rb]? = some (.cells #[.int .u64 (wd u2 0 : Int), .int .u64 (wd u2 1 : Int), .int .u64 (wd u2 2 : Int), .int .u64 (wd u2 3 : Int)] 24) := O0.now (hd 6 (by decide))
            subst ha q0 q1 q2 q3 q4 q5
            clear hd s0 s1 s2 s3 s4 s5 O0 P1_6
            have hC5 := HC4.out.put HBB.out hO r0
            have hk := (HK3.out.trans hO.keeps).from W5.heap.size
            have hkd := hO.others _ _ HKd3.out rfl
            clear r0 hO
            gi_wp2
            refine ⟨hk, fun _ => hC5.src, S2, ?_, by simp; omega, hkd⟩
            rw [HSn.out, ← HZ2.out]
            exact hC5
    case done2 =>
      rintro D2 ys W' hD2 rfl ⟨S0', hC, _, hKd⟩ hK2
      have hd := bat2_done p vs
      rw [← HN.out] at hd
      rw [hd, HEs2.out, HEs.out, ext_ext, ext_ext] at hC
      have hbe : coefU n (List.range n) ++ powE 64 ++ coefD n (List.range n) = batE n := by unfold batE; rw [if_neg (by omega)]
      rw [← List.append_assoc, hbe] at hC
      have s0 : W'.cell? ⟨b3, 0, none⟩ = some (.slice (some ⟨arr, 0, none⟩) n n) := cell_of_heap hC.sb 0
      have HCf := Lib.hid hC
      clear hC hd hbe hst
      gi_wp2
      have hKd2 : (W'.putObj D2 (.deferred none)).heap[D]? = some (.deferred (some [])) := (World.putObj_heap_other (by omega)).trans hKd
      refine ⟨by simp, .inl ⟨_, _, rfl, run_takeDeferred hK2, by simp, .inl ⟨_, _, rfl, run_takeDeferred hKd2, ?_⟩⟩⟩
      have hk1 := HCf.out.kept (grownBy_putObj' W' D2 (.deferred none)) (fun r e => by cases e; exact ⟨by omega, _, hK2, rfl⟩)
      have hk2 := hk1.kept (grownBy_putObj' _ D (.deferred none)) (fun r e => by cases e; exact ⟨hwD, _, hKd2, rfl⟩)
      refine ⟨_, results_tmp rfl _ _ _, ⟨arr, rfl, by have := HB2.out.c1; have := HB2.out.c2; omega, hk2.ars, ⟨S0', hk2.tp, fun b c => (hk2.new b c).imp (fun c => c) (fun h => by have := HB2.out.c1; have := HB2.out.c2; have := HB2.out.c3; omega)⟩, hk2.off⟩⟩
    case stop2 =>
      rintro D' c pre W _ _ h _
      exact h.elim
  case stop =>
    rintro D c pre W _ _ h _
    exact h.elim
end
end Go.Proofs.YtnegdlmpmmehmaaDoor
