/-
  poly's calls on two tapes, one after the other: the tapes hold the events that the chapter says. Conditions: the field's constants are those of its modulus, the lists are short.
-/
import Derived.Test.YtiemajbcmmbjbaaDoorPolEval
import Derived.Test.YtiemajbcmmbjbaaDoorPolQuot
import Derived.Test.YtiemajbcmmbjbaaDoorPolAdd
import Derived.Test.YtiemajbcmmbjbaaDoorPolMul
import Derived.Test.YtiemajbcmmbjbaaDoorPolLists
import Derived.Test.YtiemajbcmmbjbaaDoorConcatN
namespace Go.Proofs.YtiemajbcmmbjbaaDoor
open Go.RowKit
/-- What lies there between the calls. -/
structure PevC (u2 A : World) (N3 N4 : Nat) (id : Int) (p i r s fb : Nat) (a : Option Addr) (n cap : Nat) (vs : List Nat) (a2 : Option Addr) (m cap2 : Nat) (us : List Nat) (q1 q2 : Option Addr) (e1 e2 : List Ev) : Prop where
  F : A.heap[fb]? = some (.cells #[.int .i64 id, .int .u64 (wd p 0 : Int), .int .u64 (wd p 1 : Int), .int .u64 (wd p 2 : Int), .int .u64 (wd p 3 : Int), .int .u64 (i : Int), .int .u64 (wd r 0 : Int), .int .u64 (wd r 1 : Int), .int .u64 (wd r 2 : Int), .int .u64 (wd r 3 : Int), .int .u64 (wd s 0 : Int), .int .u64 (wd s 1 : Int), .int .u64 (wd s 2 : Int), .int .u64 (wd s 3 : Int)] 28 (0, 0))
  fl : fb < u2.heap.size
  L : LsAt A (.slice a n cap) (vs.map (fm p)) (fun k => k < u2.heap.size)
  M : LsAt A (.slice a2 m cap2) (us.map (fm p)) (fun k => k < u2.heap.size)
  t1 : ∃ S1, Tp A q1 e1 S1 ∧ ∀ k, S1 k → (u2.heap.size ≤ k ∧ k < N3) ∨ N4 ≤ k
  t2 : ∃ S2, Tp A q2 e2 S2 ∧ ∀ k, S2 k → N3 ≤ k ∧ k < N4
  off : Off (fun _ => False) u2 A
  n3 : u2.heap.size ≤ N3
  sz : N4 ≤ A.heap.size
theorem PevC.keep {u2 A A' : World} {N3 N4 : Nat} {id : Int} {p i r s fb : Nat} {a a2 : Option Addr} {n cap m cap2 : Nat} {vs us : List Nat} {q1 q2 : Option Addr} {e1 e2 : List Ev} (h : PevC u2 A N3 N4 id p i r s fb a n cap vs a2 m cap2 us q1 q2 e1 e2) (ho : Off (fun _ => False) A A') : PevC u2 A' N3 N4 id p i r s fb a n cap vs a2 m cap2 us q1 q2 e1 e2 := by
  obtain ⟨S1, t1, s1⟩ := h.t1
  obtain ⟨S2, t2, s2⟩ := h.t2
  exact ⟨ho.heap h.F (fun c => c), h.fl, h.L.off ho (fun _ _ _ c => c), h.M.off ho (fun _ _ _ c => c), ⟨S1, t1.off0 ho, s1⟩, ⟨S2, t2.off0 ho, s2⟩, h.off.trans ho (fun _ _ c => c), h.n3, Nat.le_trans h.sz ho.size⟩
theorem PevC.note {u2 A A' : World} {N3 N4 : Nat} {id : Int} {p i r s fb : Nat} {a a2 : Option Addr} {n cap m cap2 : Nat} {vs us : List Nat} {q1 q2 : Option Addr} {e1 e2 : List Ev} {S1 : Nat → Prop} {ls : List Ev} (h : PevC u2 A N3 N4 id p i r s fb a n cap vs a2 m cap2 us q1 q2 e1 e2) (s1 : ∀ k, S1 k → (u2.heap.size ≤ k ∧ k < N3) ∨ N4 ≤ k) (ho : Off S1 A A') (hn : Noted A.heap.size q1 e1 ls S1 A') (hN : N3 ≤ N4) : PevC u2 A' N3 N4 id p i r s fb a n cap vs a2 m cap2 us q1 q2 (ext q1 e1 ls) e2 := by
  obtain ⟨S2, t2, s2⟩ := h.t2
  obtain ⟨S', t1, t3⟩ := hn
  have c : ∀ k, k < u2.heap.size → ¬ S1 k := fun k hk hs => by have := s1 k hs; have := h.n3; omega
  exact ⟨ho.heap h.F (c _ h.fl), h.fl, h.L.off ho (fun k _ hk => c k hk), h.M.off ho (fun k _ hk => c k hk), ⟨S', t1, fun k hk => (t3 k hk).elim (s1 k) (fun d => .inr (Nat.le_trans h.sz d))⟩,
    ⟨S2, t2.off ho (fun k hk d => by have := s1 k hk; have := s2 k d; omega), s2⟩, h.off.trans ho (fun k hk hs => c k hk hs), h.n3, Nat.le_trans h.sz ho.size⟩
theorem PevC.lst {u2 A : World} {N3 N4 : Nat} {id : Int} {p i r s fb : Nat} {a a2 : Option Addr} {n cap m cap2 : Nat} {vs us : List Nat} {q1 q2 : Option Addr} {e1 e2 : List Ev} {S1 : Nat → Prop} (h : PevC u2 A N3 N4 id p i r s fb a n cap vs a2 m cap2 us q1 q2 e1 e2) (s1 : ∀ k, S1 k → (u2.heap.size ≤ k ∧ k < N3) ∨ N4 ≤ k) (hN : N3 ≤ N4) : ∀ b, b < u2.heap.size → b < A.heap.size ∧ ¬ S1 b :=
  fun b hb => ⟨Nat.lt_of_lt_of_le hb h.off.size, fun c => by have := s1 b c; have := h.n3; omega⟩
section
variable {u2 A : World} {N3 N4 : Nat} {id : Int} {p i r s fb : Nat} {a a2 : Option Addr} {n cap m cap2 : Nat} {vs us : List Nat} {q1 q2 : Option Addr} {e1 e2 : List Ev}
theorem ev_eval (hF : Fld id p i r s) (h : PevC u2 A N3 N4 id p i r s fb a n cap vs a2 m cap2 us q1 q2 e1 e2) (hN : N3 ≤ N4) (hn : n = vs.length) (hn2 : n ≤ 100) (he : e1.length ≤ 1000) :
    Calls Tryd.prog 13 #[.pointer q1, FV id p i r s, .slice a n cap, V r] A fun e A' => (∃ v, e = .returned v) ∧ PevC u2 A' N3 N4 id p i r s fb a n cap vs a2 m cap2 us q1 q2 (ext q1 e1 (coefD n (List.range n))) e2 := by
  obtain ⟨S1, t1, s1⟩ := h.t1
  have hr : V r = V (fm p 1) := by rw [fm_one, hF.rr]
  rw [hr]
  refine (eval_any hF vs n cap a hn (by omega) q1 e1 S1 _ A h.L (h.lst s1 hN) t1 (by omega) 1).mono ?_
  rintro e A' ⟨rfl, hn', hO⟩
  exact ⟨⟨_, rfl⟩, h.note s1 hO hn' hN⟩
theorem ev_quot (hF : Fld id p i r s) (h : PevC u2 A N3 N4 id p i r s fb a n cap vs a2 m cap2 us q1 q2 e1 e2) (hN : N3 ≤ N4) (hn : n = vs.length) (hn2 : n ≤ 100) (he : e1.length ≤ 1000) :
    Calls Tryd.prog 23 #[.pointer q1, FV id p i r s, .slice a n cap, V r] A fun e A' => (∃ v, e = .returned v) ∧ PevC u2 A' N3 N4 id p i r s fb a n cap vs a2 m cap2 us q1 q2 (ext q1 e1 (coefD n (List.range n))) e2 := by
  obtain ⟨S1, t1, s1⟩ := h.t1
  have hr : V r = V (fm p 1) := by rw [fm_one, hF.rr]
  rw [hr]
  refine (quotient_any hF vs n cap a hn (by omega) q1 e1 S1 _ A h.L (h.lst s1 hN) t1 (by omega) 1).mono ?_
  rintro e A' ⟨_, rfl, _, _, hn', hO⟩
  exact ⟨⟨_, rfl⟩, h.note s1 hO hn' hN⟩
theorem ev_scale (hF : Fld id p i r s) (h : PevC u2 A N3 N4 id p i r s fb a n cap vs a2 m cap2 us q1 q2 e1 e2) (hN : N3 ≤ N4) (hn : n = vs.length) (hn2 : n ≤ 100) (he : e1.length ≤ 1000) :
    Calls Tryd.prog 22 #[.pointer q1, FV id p i r s, .slice a n cap, V r] A fun e A' => (∃ v, e = .returned v) ∧ PevC u2 A' N3 N4 id p i r s fb a n cap vs a2 m cap2 us q1 q2 (ext q1 e1 (coefU n (List.range n))) e2 := by
  obtain ⟨S1, t1, s1⟩ := h.t1
  have hr : V r = V (fm p 1) := by rw [fm_one, hF.rr]
  rw [hr]
  refine (scale_any hF vs n cap a hn (by omega) q1 e1 S1 _ A h.L (h.lst s1 hN) t1 (by omega) 1).mono ?_
  rintro e A' ⟨_, rfl, _, _, hn', hO⟩
  exact ⟨⟨_, rfl⟩, h.note s1 hO hn' hN⟩
theorem ev_add (hF : Fld id p i r s) (h : PevC u2 A N3 N4 id p i r s fb a n cap vs a2 m cap2 us q1 q2 e1 e2) (hN : N3 ≤ N4) (hn : n = vs.length) (hm : m = us.length) (hn2 : n ≤ 100) (hm2 : m ≤ 100) (he : e1.length ≤ 1000) :
    Calls Tryd.prog 17 #[.pointer q1, FV id p i r s, .slice a n cap, .slice a2 m cap2] A fun e A' => (∃ v, e = .returned v) ∧ PevC u2 A' N3 N4 id p i r s fb a n cap vs a2 m cap2 us q1 q2 (ext q1 e1 (upE (max n m))) e2 := by
  obtain ⟨S1, t1, s1⟩ := h.t1
  by_cases hc : m ≤ n
  · refine (add_keep hF vs us n cap m cap2 a a2 hn hm hc (by omega) q1 e1 S1 _ _ A h.L (h.lst s1 hN) h.M t1 (by omega)).mono ?_
    rintro e A' ⟨_, rfl, _, _, hn', hO⟩
    rw [coefU_up] at hn'
    rw [Nat.max_eq_left hc]
    exact ⟨⟨_, rfl⟩, h.note s1 hO hn' hN⟩
  · refine (add_swap hF us vs m cap2 n cap a2 a hm hn (by omega) (by omega) q1 e1 S1 _ _ A h.M (h.lst s1 hN) h.L t1 (by omega)).mono ?_
    rintro e A' ⟨_, rfl, _, _, hn', hO⟩
    rw [coefU_up] at hn'
    rw [Nat.max_eq_right (by omega)]
    exact ⟨⟨_, rfl⟩, h.note s1 hO hn' hN⟩
theorem pairE_range (n m : Nat) : ∀ i, i ≤ n → pairE n m (List.range i) = prE m i
  | 0, _ => rfl
  | i + 1, h => by
    rw [List.range_succ, pairE_snoc, pairE_range n m i (by omega), Nat.mod_eq_of_lt (a := i) (b := n) (by omega)]
    congr 1
    unfold rowE
    exact List.map_congr_left (fun y hy => by rw [Nat.mod_eq_of_lt (List.mem_range.1 hy)])
theorem prE_nil (n : Nat) : prE 0 n = [] := by
  induction n with
  | zero => rfl
  | succ n ih => simp [prE, ih, rowE]
/-- Mul on the second tape: both tapes behind it. -/
theorem ev_mul (hF : Fld id p i r s) (h : PevC u2 A N3 N4 id p i r s fb a n cap vs a2 m cap2 us q1 q2 e1 e2) (hn : n = vs.length) (hm : m = us.length) (hn2 : n ≤ 100) (hm2 : m ≤ 100) (he : e2.length ≤ 1000) :
    Calls Tryd.prog 19 #[.pointer q2, FV id p i r s, .slice a n cap, .slice a2 m cap2] A fun e A' => (∃ v, e = .returned v) ∧ (∃ S1, Tp A' q1 e1 S1) ∧ (∃ S2, Tp A' q2 (ext q2 e2 (prE m n)) S2) ∧ Off (fun _ => False) u2 A' := by
  obtain ⟨S1, t1, s1⟩ := h.t1
  obtain ⟨S2, t2, s2⟩ := h.t2
  by_cases h0 : n = 0 ∨ m = 0
  · refine (mul_nil n cap m cap2 a a2 h0 q2 A).mono ?_
    rintro e A' ⟨rfl, hO⟩
    have hp : prE m n = [] := by
      rcases h0 with h | h
      · subst h; rfl
      · subst h; exact prE_nil n
    exact ⟨⟨_, rfl⟩, ⟨S1, t1.off0 hO⟩, ⟨S2, by rw [hp, ext_nil]; exact t2.off0 hO⟩, h.off.trans hO (fun _ _ c => c)⟩
  · refine (mul_some hF vs us n cap m cap2 a a2 hn hm (by omega) (by omega) (Nat.le_trans (Nat.mul_le_mul hn2 hm2) (by decide)) (by omega) q2 e2 S2 _ _ A h.L (fun b hb => ⟨Nat.lt_of_lt_of_le hb h.off.size, fun c => by have := s2 b c; have := h.n3; omega⟩) h.M (fun b hb => ⟨Nat.lt_of_lt_of_le hb h.off.size, fun c => by have := s2 b c; have := h.n3; omega⟩) t2 (by omega)).mono ?_
    rintro e A' ⟨_, rfl, _, _, ⟨S', t3, _⟩, hO⟩
    rw [pairE_range n m n (Nat.le_refl _)] at t3
    exact ⟨⟨_, rfl⟩, ⟨S1, t1.off hO (fun k hk d => by have := s2 k hk; have := s1 k d; omega)⟩, ⟨S', t3⟩, h.off.trans hO (fun k hk c => by have := s2 k c; have := h.n3; omega)⟩
end
end Go.Proofs.YtiemajbcmmbjbaaDoor
