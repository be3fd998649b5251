/-
  The contract of New over this seat's translation: a new tape with the events of the list. Conditions: the list lies in memory as its slice says and has at most 90000 events.
-/
import Derived.Test.YtnegdlmpmmehmaaDoorTapeNote
namespace Go.Proofs.YtnegdlmpmmehmaaDoor
open Go.RowKit

/-- The slice v holds the events es; its cells, where it has any, lie within S. -/
def EvsAt (w : World) (v : Value) (es : List Ev) (S : Nat → Prop) : Prop :=
  ∃ a cap, v = .slice a es.length cap ∧ es.length ≤ cap ∧ cap ≤ maxLen ∧ (a = none → cap = 0) ∧
    (0 < es.length → ∃ b off, a = some ⟨b, off, none⟩ ∧ S b ∧ ∀ j e, es[j]? = some e → evAt w b (off + j * 3) e)
theorem EvsAt.off {w w' : World} {v : Value} {es : List Ev} {S S' : Nat → Prop} (h : EvsAt w v es S) (ho : Off S' w w') (hd : ∀ k, k < w.heap.size → S k → ¬ S' k) : EvsAt w' v es S := by
  obtain ⟨a, cap, hv, h1, h2, h3, h4⟩ := h
  refine ⟨a, cap, hv, h1, h2, h3, fun hp => ?_⟩
  obtain ⟨b, off, ha, hS, hc⟩ := h4 hp
  refine ⟨b, off, ha, hS, fun j e hj => ?_⟩
  have he := hc j e hj
  have hlt : b < w.heap.size := World.block_lt_of_cell? w _ he.1
  exact ho.ev he (hd b hlt hS)
theorem EvsAt.mono {w : World} {v : Value} {es : List Ev} {S S' : Nat → Prop} (h : EvsAt w v es S) (hs : ∀ k, k < w.heap.size → S k → S' k) : EvsAt w v es S' := by
  obtain ⟨a, cap, hv, h1, h2, h3, h4⟩ := h
  refine ⟨a, cap, hv, h1, h2, h3, fun hp => ?_⟩
  obtain ⟨b, off, ha, hS, hc⟩ := h4 hp
  refine ⟨b, off, ha, hs b ?_ hS, hc⟩
  obtain ⟨e, he⟩ : ∃ e, es[0]? = some e := ⟨es[0], List.getElem?_eq_getElem hp⟩
  exact World.block_lt_of_cell? w _ (hc 0 e he).1

theorem take_push {es : List Ev} {k : Nat} {e : Ev} (h : es[k]? = some e) : es.take (k + 1) = es.take k ++ [e] := by
  obtain ⟨hlt, rfl⟩ := List.getElem?_eq_some_iff.1 h
  rw [List.take_succ_eq_append_getElem hlt]

theorem tape_new (w : World) : TapeAt (w.alloc (.cells #[.slice none 0 0, .int .i64 0] 74)) w.heap.size [] (fun k => w.heap.size ≤ k) := by
  refine ⟨.slice none 0 0, [], World.alloc_heap_new w _, Nat.le_refl _, World.ownsRow_nil _ _ _ _, fun k hk => by simp [Value.ownBlock] at hk, rfl, List.nodup_nil, fun _ h => by simp at h, fun i e h => by simp at h⟩

set_option maxHeartbeats 2000000 in
theorem new_any (sv : Value) (es : List Ev) (S : Nat → Prop) (w : World) (hI : EvsAt w sv es S) (hl : es.length ≤ 90000) :
    Calls Tryd.prog 19 #[sv] w fun r w' => r = .returned (.pointer (some ⟨w.heap.size, 0, none⟩)) ∧ TapeAt w' w.heap.size es (fun k => w.heap.size ≤ k) ∧ Off (fun _ => False) w w' := by
  obtain ⟨a, cap, rfl, h1, h2, h3, h4⟩ := hI
  have HT := Lib.hid (tape_new w)
  clear h1 h2 h3
  obtain ⟨n, hn⟩ : ∃ n, n = es.length := ⟨_, rfl⟩
  rw [← hn] at h4 hl ⊢
  have HN := Lib.hid hn
  clear hn
  go_enter Tryd.func19, Tryd.ntmps19
  go_wp2
  go_loopw [10] (fun i wr => ∃ k : Nat, k ≤ n ∧ i = .int .i64 k ∧ TapeAt wr w.heap.size (es.take k) (fun k => w.heap.size ≤ k) ∧ Off (fun _ => False) w wr) (fun i _ => n - (intOf i).toNat)
  case atStart => exact ⟨0, Nat.zero_le _, rfl, HT.out, (Off.refl _ w).alloc _⟩
  case round =>
    obtain ⟨k, hk, rfl, hT, hO⟩ := hrel
    by_cases hlt : k < n
    · obtain ⟨b, off, rfl, _, hcell⟩ := h4 (by omega)
      obtain ⟨e, he⟩ : ∃ e, es[k]? = some e := ⟨es[k]'(by have := HN.out; omega), List.getElem?_eq_getElem _⟩
      obtain ⟨c0, c1, c2⟩ := hO.ev (hcell k e he) (fun c => c)
      have hlen : (es.take k).length < 100000 := by rw [List.length_take]; omega
      have HE := Lib.hid he
      clear h4 hcell he
      obtain ⟨ek, ea, eo⟩ := e
      go_wp2_with fail
      refine (note_any _ (es.take k) _ _ (TapeG.grown hT (World.grownBy_alloc wr _ none)) hlen (ek, ea, eo)).mono ?_
      rintro r w1 ⟨rfl, hT1, hO1⟩
      rw [← take_push HE.out] at hT1
      have hO2 : Off (fun _ => False) w w1 := (hO.alloc _).trans hO1 (fun j hj h => by omega)
      have hT2 : TapeAt w1 w.heap.size (es.take (k + 1)) (fun j => w.heap.size ≤ j) := TapeG.mono hT1 (fun j _ h => h.elim id (fun h => by have := hO.size; simp at h; omega))
      clear hT hT1 hO hO1
      go_wp2
      go_roundw
      case rel => exact ⟨k + 1, by omega, by go_num, hT2, hO2⟩
      case measure => simp [intOf]; omega
    · obtain rfl : k = n := by omega
      clear h4
      go_wp2
      go_ret
      have := HN.out
      subst this
      rw [List.take_length] at hT
      exact ⟨rfl, hT, hO⟩

set_option maxRecDepth 100000 in
/-- Two events as '==' and '!=' compare them. -/
theorem equal_ev (x y : Ev) (w : World) : (Op.equalIn 10000 76 x.v y.v).run Tryd.prog w = .ok (decide (x = y)) w := by
  obtain ⟨a, b, c⟩ := x
  obtain ⟨d, e, f⟩ := y
  simp only [Ev.v]
  rw [run_equalIn_struct w 9999 _ _ _ Tryd.underlying76 Tryd.stoodInHeld76]
  simp [Op.eqFields, go_sem, part]
  by_cases h1 : a = d <;> by_cases h2 : b = e <;> by_cases h3 : c = f <;> simp [h1, h2, h3]
set_option maxRecDepth 100000 in
theorem neq_ev (x y : Ev) (w : World) : (binOp .neq 76 x.v y.v).run Tryd.prog w = .ok (.bool (!decide (x = y))) w := by
  have h := equal_ev x y w
  simp only [Ev.v] at h ⊢
  rw [run_neq_struct, h]
  rfl
end Go.Proofs.YtnegdlmpmmehmaaDoor
