/-
  The contract of the iterator that (*Tape).after returns, over this seat's translation: it yields the events after the first n ones that the tape had at the beginning, as long as the loop's rounds keep these events readable. Conditions: the tape lies in memory as TapeV says and has at most 100000 events.
-/
import Derived.Test.YtnegdlmpmmehmaaDoorTapeNew
import Derived.RangeFuncNested
import Derived.RangeFuncBound
import Derived.RangeFuncCalls
import Derived.RangeFuncLeaves
import Derived.RangeFuncBox
import Derived.RangeFuncFrom
import Derived.Shelf.Abstract
import Derived.Shelf.RegionOpen
import Derived.OwnWalkIn
import Derived.TacticsInMore
import Derived.LoopNIn
import Derived.LoopIn
namespace Go.Proofs.YtnegdlmpmmehmaaDoor
open Go.RowKit Go.Shelf
theorem wide_fn (f : Nat) : Fence.wide.fn f = True := rfl
attribute [local go_sem] Oper.semAt_some wide_fn

/-- The events es can be read from the tape v, which may have more of them by now. -/
def Reads (W : World) (v : Value) (es : List Ev) : Prop :=
  (v = .pointer none ∧ es = []) ∨ ∃ b es' S, v = .pointer (some ⟨b, 0, none⟩) ∧ TapeAt W b es' S ∧ es <+: es' ∧ es'.length ≤ 100000
/-- What the iterator reads between two rounds: its two boxes, and the tape. -/
def Rd (Bi Bt s : Nat) (v : Value) (es : List Ev) (W : World) : Prop :=
  W.cell? ⟨Bi, 0, none⟩ = some (.int .i64 (s : Int)) ∧ W.cell? ⟨Bt, 0, none⟩ = some v ∧ Reads W v es

theorem TapeV.reads {W : World} {v : Value} {es : List Ev} {S : Nat → Prop} (h : TapeV W v es S) (hl : es.length ≤ 100000) : Reads W v es := by
  rcases h with h | ⟨b, hv, ht⟩
  · exact .inl h
  · exact .inr ⟨b, es, S, hv, ht, List.prefix_refl _, hl⟩

/-- A tape lies in cells alone. -/
theorem TapeG.cells {w : World} {b nb : Nat} {es : List Ev} {S : Nat → Prop} (h : TapeG w b es S nb) : TapeG w b es (fun k => S k ∧ ∃ o : Obj, w.heap[k]? = some o ∧ o.isCells = true) nb := by
  obtain ⟨sv, ebs, h1, h2, h3, h4, h5, h6, h7, h8⟩ := h
  refine ⟨sv, ebs, h1, ⟨h2, _, h1, rfl⟩, h3, fun k hk => ?_, h5, h6, fun eb he => ?_, h8⟩
  · obtain ⟨cur, hc⟩ := ownBlock_row h3 hk
    exact ⟨h4 k hk, _, hc, rfl⟩
  · obtain ⟨hs, c, hc, hz⟩ := h7 eb he
    exact ⟨⟨hs, _, hc, rfl⟩, c, hc, hz⟩
/-- .. and abides whatever turns no cells. -/
theorem TapeG.kept {w w' : World} {row : Option Nat} {b nb : Nat} {es : List Ev} {S : Nat → Prop} (h : TapeG w b es S nb) (hg : w.grownBy w' row) (hr : ∀ r, row = some r → ∃ o : Obj, w.heap[r]? = some o ∧ o.isCells = false) : TapeG w' b es S nb := by
  have h2 := h.cells
  obtain ⟨sv, ebs, h1, h2, h3, h4, h5, h6, h7, h8⟩ := h2
  have K : ∀ k : Nat, (∃ o : Obj, w.heap[k]? = some o ∧ o.isCells = true) → w'.heap[k]? = w.heap[k]? := by
    rintro k ⟨o, ho, hc⟩
    exact grownBy_keeps_cells hg hr ho hc
  refine ⟨sv, ebs, (K b h2.2).trans h1, h2.1, ?_, fun k hk => (h4 k hk).1, h5, h6, ?_, ?_⟩
  · refine ⟨h3.1, ?_⟩
    rcases h3.2 with hn | ⟨g, cap, cur, rfl, hb, hg', r⟩
    · exact .inl hn
    · exact .inr ⟨g, cap, cur, rfl, hb, (K g (h4 g rfl).2).trans hg', r⟩
  · intro eb he
    obtain ⟨hs, c, hc, hz⟩ := h7 eb he
    exact ⟨hs.1, c, (K eb hs.2).trans hc, hz⟩
  · intro i e hi
    obtain ⟨eb, he, hv⟩ := h8 i e hi
    exact ⟨eb, he, ev_block (K eb (h7 eb (List.mem_of_getElem? he)).1.2) hv⟩
theorem Reads.kept {w w' : World} {row : Option Nat} {v : Value} {es : List Ev} (h : Reads w v es) (hg : w.grownBy w' row) (hr : ∀ r, row = some r → ∃ o : Obj, w.heap[r]? = some o ∧ o.isCells = false) : Reads w' v es := by
  rcases h with h | ⟨b, es', S, hv, ht, hp, hl⟩
  · exact .inl h
  · exact .inr ⟨b, es', S, hv, TapeG.kept ht hg hr, hp, hl⟩
theorem Rd.kept {w w' : World} {row : Option Nat} {Bi Bt s : Nat} {v : Value} {es : List Ev} (h : Rd Bi Bt s v es w) (hg : w.grownBy w' row) (hr : ∀ r, row = some r → ∃ o : Obj, w.heap[r]? = some o ∧ o.isCells = false) : Rd Bi Bt s v es w' :=
  ⟨cell_kept h.1 hg hr, cell_kept h.2.1 hg hr, h.2.2.kept hg hr⟩
theorem rdK_b {Bi Bt s : Nat} {v : Value} {es : List Ev} {n : Nat} (W : World) (l : Nat) (o o' : Obj) (_ : n ≤ l) (h : W.heap[l]? = some o) (hc : o.isCells = false) (_ : o.isWalk = false) : Rd Bi Bt s v es W → Rd Bi Bt s v es (W.putObj l o') :=
  fun hr => hr.kept (grownBy_putObj' W l o') (fun r e => by cases e; exact ⟨o, h, hc⟩)

theorem drop_get {es : List Ev} {s k : Nat} (hk : k < (es.drop s).length) : ∃ e, es[s + k]? = some e ∧ (es.drop s).take (k + 1) = (es.drop s).take k ++ [e] := by
  obtain ⟨e, he⟩ : ∃ e, (es.drop s)[k]? = some e := ⟨_, List.getElem?_eq_getElem hk⟩
  exact ⟨e, by rw [← he, List.getElem?_drop], take_push he⟩

set_option maxRecDepth 100000 in
set_option maxHeartbeats 2000000 in
theorem after1_in (n : Nat) (hn : 1 ≤ n) (l Bi Bt s : Nat) (p : Option Addr) (es : List Ev) (hs : s ≤ es.length) (hl : es.length ≤ 100000) (S : Nat → Prop) (J Jx : List Ev → World → Prop) (W : World)
    (hJ : ∀ s A B, J s A → A.grownBy B none → J s B)
    (hY : ∀ (pre : List Ev) (x : Ev) W, J pre W → pre.length < (es.drop s).length → YieldAt Fence.wide (n - 1) Tryd.prog l #[x.v] W fun e W' =>
      (e = .returned (.bool true) ∧ J (pre ++ [x]) W' ∧ (Rd Bi Bt s (.pointer p) es W → Rd Bi Bt s (.pointer p) es W')) ∨ (e = .returned (.bool false) ∧ Jx (pre ++ [x]) W'))
    (hR : Rd Bi Bt s (.pointer p) es W) (hT : TapeV W (.pointer p) es S) (h0 : J [] W) :
    CallsIn Fence.wide n Tryd.prog 67 #[.func (.yield l) #[] #[], .pointer (some ⟨Bi, 0, none⟩), .pointer (some ⟨Bt, 0, none⟩)] W fun e W' => (∃ v, e = .returned v) ∧
      ((∃ ys, ys = es.drop s ∧ J ys W') ∨ (∃ pre, (∃ k, k ≤ (es.drop s).length ∧ pre = (es.drop s).take k) ∧ Jx pre W')) := by
  refine callsIn_of_wp Tryd.func67 rfl trivial ?_ rfl
  simp only [Tryd.ntmps67, List.size_toArray, List.length_cons, List.length_nil, Nat.reduceAdd, Nat.reduceSub, Array.replicate_succ, Array.replicate_zero, List.push_toArray, List.append_toArray, List.nil_append, List.cons_append]
  have hmx : Tryd.prog.follows .mixedOrders = true := by kernel_rfl
  have hlen := fun w' (hw : TapeV w' (.pointer p) es S) => callsIn_wide (n := n - 1).2 (len_any (.pointer p) es S w' hw)
  have r0 := hR.1
  have r1 := hR.2.1
  have HH := Lib.hid hT
  have HR := Lib.hid hR
  obtain ⟨m, hm⟩ : ∃ m, m = (es.drop s).length := ⟨_, rfl⟩
  have hm2 : es.length = s + m := by rw [hm, List.length_drop]; omega
  rw [hm2] at hl
  have HM := Lib.hid hm
  have HL := Lib.hid hm2
  have hlen2 : ∀ w' : World, TapeV w' (.pointer p) es S → CallsIn Fence.wide (n - 1) Tryd.prog 58 #[.pointer p] w' fun r w'' => r = .returned (.int .i64 ((s : Int) + m)) ∧ w' = w'' := by
    intro w' hw
    have := hlen w' hw
    rw [hm2] at this
    simpa using this
  clear hlen hm hm2 hR hT
  gi_wp2
  gi_big_quiet_th_o ((go_loud (refine (hlen2 _ ?_).mono ?_); (exact HH.out); rintro e w' ⟨rfl, rfl⟩; exact ⟨rfl, _, rfl⟩))
  all_goals
    gi_wp2
    gi_loopw [4] (fun i wr => ∃ k : Nat, k ≤ m ∧ i = .int .i64 ((s : Int) + k) ∧ J ((es.drop s).take k) wr ∧ Rd Bi Bt s (.pointer p) es wr) (fun i _ => s + m - (intOf i).toNat)
    case atStart => exact ⟨0, Nat.zero_le _, by simp, hJ _ _ _ h0 ⟨rfl, rfl, rfl, Nat.le_refl _, fun _ _ _ => rfl⟩, HR.out⟩
    case round =>
      obtain ⟨k, hk, rfl, hJs, hRd⟩ := hrel
      have t1 := hRd.2.1
      by_cases hlt : k < m
      · obtain ⟨e, he, htk⟩ := drop_get (es := es) (s := s) (k := k) (by have := HM.out; omega)
        obtain ⟨_, hnil⟩ | ⟨b, es', S', hp, hT', hpre, hl'⟩ := hRd.2.2
        · subst hnil; simp at he
        · obtain rfl : p = some ⟨b, 0, none⟩ := by simpa using hp
          have he' : es'[s + k]? = some e := by
            have hb := (List.getElem?_eq_some_iff.1 he).1
            rw [← he]; exact (List.prefix_iff_getElem?.1 hpre (s + k) hb).trans (List.getElem?_eq_getElem hb).symm
          have hat := callsIn_wide (n := n - 1).2 (at_any b es' S' wr hT' hl' (s + k) e he')
          have HE := Lib.hid htk
          have HRd := Lib.hid hRd
          clear he he' htk hp hRd hT' hpre
          have hcast : ((s + k : Nat) : Int) = (s : Int) + k := by omega
          rw [hcast] at hat
          have hlk : ((es.drop s).take k).length < (es.drop s).length := by have := HM.out; rw [List.length_take]; omega
          have HY := Lib.hid hY
          clear hY
          gi_wp2
          refine hat.mono ?_
          rintro r w1 ⟨rfl, hO1⟩
          have hRd1 := HRd.out.kept hO1.to_grown (fun r h => by cases h)
          obtain ⟨fn, tmps, assign, body, hy, hround⟩ := HY.out _ e w1 (hJ _ _ _ hJs hO1.to_grown) hlk
          have HRd1 := Lib.hid hRd1
          rw [← HE.out] at hround
          clear hat HY hRd1 HRd hO1 t1 r0 r1 hlen2 hlk
          gi_wp2
          refine hround.mono ?_
          rintro r W3 (⟨rfl, hJ3, hk3⟩ | ⟨rfl, hJx3⟩)
          · have hRd3 := hk3 HRd1.out
            clear hk3 hround hy
            gi_wp2
            go_roundw
            case rel => exact ⟨k + 1, by omega, by go_num, hJ3, hRd3⟩
            case measure => simp [intOf]; omega
          · clear hround hy
            gi_wp2
            refine bodyPost_ret (results_none rfl _ _ _) rfl ?_
            exact ⟨⟨_, rfl⟩, .inr ⟨_, ⟨k + 1, by have := HM.out; omega, rfl⟩, hJx3⟩⟩
      · obtain rfl : k = m := by omega
        clear hY
        gi_wp2
        go_end0
        have := HM.out
        subst this
        rw [List.take_length] at hJs
        exact ⟨⟨_, rfl⟩, .inl ⟨_, rfl, hJs⟩⟩

set_option maxHeartbeats 400000 in
theorem after_any (p : Option Addr) (s : Int) (w : World) :
    Calls Tryd.prog 60 #[.pointer p, .int .i64 s] w fun e w' => e = .returned (.func (.func 67) #[] #[.pointer (some ⟨w.heap.size + 1, 0, none⟩), .pointer (some ⟨w.heap.size, 0, none⟩)]) ∧
      w' = (w.alloc (.cells #[.pointer p] 41)).alloc (.cells #[.int .i64 s] 3) := by
  go_enter Tryd.func60, Tryd.ntmps60
  go_wp2
  go_ret
  exact ⟨rfl, rfl⟩

theorem below_grown {w W : World} (h : Below w.heap.size w W) : w.grownBy W none := ⟨h.os, h.tape, h.output, h.size, fun k hk _ => h.block k hk⟩
theorem TapeV.grown {w w' : World} {v : Value} {es : List Ev} {S : Nat → Prop} (h : TapeV w v es S) (hg : w.grownBy w' none) : TapeV w' v es S :=
  h.off (S' := fun _ => False) (Off.of_grown hg) (fun _ _ _ c => c)
theorem TapeV.kept {w w' : World} {row : Option Nat} {v : Value} {es : List Ev} {S : Nat → Prop} (h : TapeV w v es S) (hg : w.grownBy w' row) (hr : ∀ r, row = some r → ∃ o : Obj, w.heap[r]? = some o ∧ o.isCells = false) : TapeV w' v es S := by
  rcases h with h | ⟨b, hv, ht⟩
  · exact .inl h
  · exact .inr ⟨b, hv, TapeG.kept ht hg hr⟩

/-- The loop's source: the tape, and the iterator's two boxes. -/
def Src (Bi Bt s : Nat) (p : Option Addr) (es : List Ev) (S : Nat → Prop) (W : World) : Prop :=
  TapeV W (.pointer p) es S ∧ Boxed W Bi 3 (.int .i64 (s : Int)) ∧ Boxed W Bt 41 (.pointer p)
theorem Src.rd {Bi Bt s : Nat} {p : Option Addr} {es : List Ev} {S : Nat → Prop} {W : World} (h : Src Bi Bt s p es S W) (hl : es.length ≤ 100000) : Rd Bi Bt s (.pointer p) es W :=
  ⟨h.2.1.cell, h.2.2.cell, h.1.reads hl⟩
theorem Src.off {Bi Bt s : Nat} {p : Option Addr} {es : List Ev} {S S' : Nat → Prop} {W W' : World} (h : Src Bi Bt s p es S W) (ho : Off S' W W') (hd : ∀ k, k < W.heap.size → S k → ¬ S' k) (hi : ¬ S' Bi) (ht : ¬ S' Bt) : Src Bi Bt s p es S W' :=
  ⟨h.1.off ho hd, ho.heap h.2.1 hi, ho.heap h.2.2 ht⟩
theorem Boxed.kept_own {W W' : World} {row : Option Nat} {B : Nat} {t : TypeId} {v : Value} (h : Boxed W B t v) (hg : W.grownBy W' row) (hr : ∀ r, row = some r → ∃ o : Obj, W.heap[r]? = some o ∧ o.isCells = false) : Boxed W' B t v :=
  (grownBy_keeps_cells hg hr h rfl).trans h
theorem Src.kept {Bi Bt s : Nat} {p : Option Addr} {es : List Ev} {S : Nat → Prop} {W W' : World} {row : Option Nat} (h : Src Bi Bt s p es S W) (hg : W.grownBy W' row) (hr : ∀ r, row = some r → ∃ o : Obj, W.heap[r]? = some o ∧ o.isCells = false) : Src Bi Bt s p es S W' :=
  ⟨h.1.kept hg hr, Boxed.kept_own h.2.1 hg hr, Boxed.kept_own h.2.2 hg hr⟩
/-- 'What lay outside S lies as it lay' abides the turn of a later block. -/
theorem Off.later {S : Nat → Prop} {w W W' : World} {row : Option Nat} (h : Off S w W) (hg : W.grownBy W' row) (hr : ∀ r, row = some r → w.heap.size ≤ r) : Off S w W' :=
  ⟨hg.os.trans h.os, hg.tape.trans h.tape, hg.output.trans h.output, Nat.le_trans h.size hg.size,
    fun k hk hn => (hg.block k (Nat.lt_of_lt_of_le hk h.size) (fun e => by have := hr k e.symm; omega)).trans (h.block k hk hn),
    fun k o hk ho => by
      have h1 := h.others k o hk ho
      exact (hg.block k (heap_lt h1) (fun e => by have := hr k e.symm; have := heap_lt hk; omega)).trans h1⟩

/-- The iterator as a loop takes it. -/
theorem after_stops (n : Nat) (hn : 1 ≤ n) (Bi Bt s : Nat) (p : Option Addr) (es : List Ev) (hs : s ≤ es.length) (hl : es.length ≤ 100000) (S : Nat → Prop) (w : World)
    (hi : w.cell? ⟨Bi, 0, none⟩ = some (.int .i64 (s : Int))) (ht : w.cell? ⟨Bt, 0, none⟩ = some (.pointer p)) (hT : TapeV w (.pointer p) es S) :
    SeqStopsK Fence.wide n Tryd.prog 67 #[.pointer (some ⟨Bi, 0, none⟩), .pointer (some ⟨Bt, 0, none⟩)] (fun x : Ev => #[x.v]) (fun A B => Rd Bi Bt s (.pointer p) es A → Rd Bi Bt s (.pointer p) es B)
      (fun ys => ys = es.drop s) (fun pre => ∃ k, k ≤ (es.drop s).length ∧ pre = (es.drop s).take k) (es.drop s).length w := fun l J Jx W hW hJ _ hY h0 => by
  have hT' := hT.grown (below_grown hW)
  have hg := below_grown hW
  exact after1_in n hn l Bi Bt s p es hs hl S J Jx W (fun x A B hx hg => hJ x A B none hx hg (fun r e => by cases e)) (fun pre x W1 hj hlen => hY pre x W1 hj hlen)
    ⟨hg.cell hi (by simp), hg.cell ht (by simp), hT'.reads hl⟩ hT' h0
end Go.Proofs.YtnegdlmpmmehmaaDoor
