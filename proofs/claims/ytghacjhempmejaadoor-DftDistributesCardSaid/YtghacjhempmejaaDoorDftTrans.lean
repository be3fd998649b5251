/-
  transform: the steps on words as a plain function, and that the program takes them. Conditions: no step fails (okF); the roots are those of the table, at least as many as the list has elements.
-/
import Derived.Test.YtghacjhempmejaaDoorDftSplit
import Derived.Test.YtghacjhempmejaaDoorDftRoots
import Derived.Laws.ComplexArith
namespace Go.Proofs.YtghacjhempmejaaDoor
open Go.RowKit Ieee
set_option maxRecDepth 100000
set_option linter.unusedVariables false
set_option maxHeartbeats 4000000
attribute [local go_sem] run_store_com
def cmulW (u v : Nat × Nat) : Nat × Nat := (cMulBits u.1 u.2 v.1 v.2).getD (0, 0)
def caddW (u v : Nat × Nat) : Nat × Nat := (cSumBits .add .f64 u.1 u.2 v.1 v.2).getD (0, 0)
def csubW (u v : Nat × Nat) : Nat × Nat := (cSumBits .sub .f64 u.1 u.2 v.1 v.2).getD (0, 0)
/-- The odd element with the index j times its root. -/
def twF (e : Nat) (O : List (Nat × Nat)) (j : Nat) : Nat × Nat := cmulW (O.getD j (0, 0)) (rootF (e + 1) j)
def bflyF (e : Nat) (E O : List (Nat × Nat)) (j : Nat) : Nat × Nat := if j < pw e then caddW (E.getD j (0, 0)) (twF e O j) else csubW (E.getD (j - pw e) (0, 0)) (twF e O (j - pw e))
def fftW : Nat → List (Nat × Nat) → List (Nat × Nat)
  | 0, L => L
  | e + 1, L => (List.range (pw (e + 1))).map (bflyF e (fftW e (evL L (pw e))) (fftW e (odL L (pw e))))
def stepOk (e : Nat) (E O : List (Nat × Nat)) (j : Nat) : Prop :=
  (cMulBits (O.getD j (0, 0)).1 (O.getD j (0, 0)).2 (rootF (e + 1) j).1 (rootF (e + 1) j).2).isSome = true ∧ (cSumBits .add .f64 (E.getD j (0, 0)).1 (E.getD j (0, 0)).2 (twF e O j).1 (twF e O j).2).isSome = true ∧ (cSumBits .sub .f64 (E.getD j (0, 0)).1 (E.getD j (0, 0)).2 (twF e O j).1 (twF e O j).2).isSome = true
def okF : Nat → List (Nat × Nat) → Prop
  | 0, _ => True
  | e + 1, L => okF e (evL L (pw e)) ∧ okF e (odL L (pw e)) ∧ ∀ j, j < pw e → stepOk e (fftW e (evL L (pw e))) (fftW e (odL L (pw e))) j
theorem fftW_len (e : Nat) (L : List (Nat × Nat)) (h : L.length = pw e) : (fftW e L).length = pw e := by
  cases e with
  | zero => exact h
  | succ e => unfold fftW; simp
theorem some_getD {α : Type} {o : Option α} {d : α} (h : o.isSome = true) : o = some (o.getD d) := by
  cases o with
  | none => cases h
  | some x => rfl
/-- Both halves, filled up to a and up to b. -/
def fill2 (f : Nat → Nat × Nat) (h n a b : Nat) : List (Nat × Nat) := (List.range n).map (fun j => if j < a ∨ (h ≤ j ∧ j < h + b) then f j else (0, 0))
theorem fill2_start (f : Nat → Nat × Nat) (h n : Nat) : fill2 f h n 0 0 = (List.range n).map zeroC := by
  unfold fill2
  exact List.map_congr_left (fun i _ => if_neg (by omega))
theorem fill2_full (f : Nat → Nat × Nat) {h n : Nat} (hn : n = 2 * h) : fill2 f h n h h = (List.range n).map f := by
  unfold fill2
  exact List.map_congr_left (fun i hi => if_pos (by have := List.mem_range.1 hi; omega))
theorem fill2_set1 (f : Nat → Nat × Nat) {h n a b : Nat} (hn : n = 2 * h) (ha : a < h) (hb : b ≤ h) : (fill2 f h n a b).set a (f a) = fill2 f h n (a + 1) b := by
  unfold fill2
  apply List.ext_getElem?
  intro m
  by_cases hm : m < n
  · rw [List.getElem?_set, List.getElem?_map, List.getElem?_map, List.getElem?_range hm]
    by_cases e : a = m
    · subst e
      rw [if_pos rfl, if_pos (by simp; omega)]
      simp
    · rw [if_neg e]
      simp only [Option.map_some]
      congr 1
      by_cases c : m < a ∨ (h ≤ m ∧ m < h + b)
      · rw [if_pos c, if_pos (by omega)]
      · rw [if_neg c, if_neg (by omega)]
  · rw [List.getElem?_eq_none (by simp; omega), List.getElem?_eq_none (by simp; omega)]
theorem fill2_set2 (f : Nat → Nat × Nat) {h n a b : Nat} (hn : n = 2 * h) (ha : a ≤ h) (hb : b < h) : (fill2 f h n a b).set (b + h) (f (b + h)) = fill2 f h n a (b + 1) := by
  unfold fill2
  apply List.ext_getElem?
  intro m
  by_cases hm : m < n
  · rw [List.getElem?_set, List.getElem?_map, List.getElem?_map, List.getElem?_range hm]
    by_cases e : b + h = m
    · subst e
      rw [if_pos rfl, if_pos (by simp; omega)]
      simp only [Option.map_some]
      rw [if_pos (by omega)]
    · rw [if_neg e]
      simp only [Option.map_some]
      congr 1
      by_cases c : m < a ∨ (h ≤ m ∧ m < h + b)
      · rw [if_pos c, if_pos (by omega)]
      · rw [if_neg c, if_neg (by omega)]
  · rw [List.getElem?_eq_none (by simp; omega), List.getElem?_eq_none (by simp; omega)]
theorem fill2_get (f : Nat → Nat × Nat) {h n a b m : Nat} (hm : m < n) : ∃ z, (fill2 f h n a b)[m]? = some z := by
  unfold fill2
  rw [List.getElem?_map, List.getElem?_range hm]; exact ⟨_, rfl⟩
/-- What a call gives that makes a list of complex numbers: a block of its own. -/
def MadeC (w : World) (r : Ending) (w' : World) (n : Nat) (L : List (Nat × Nat)) : Prop := ∃ g, r = .returned (.slice (some ⟨g, 0, none⟩) n n) ∧ w.heap.size ≤ g ∧ w'.heap[g]? = some (.cells (cCells L) 34) ∧ Off (fun _ => False) w w'
theorem Cs.cell {w w' : World} {a : Option Addr} {n cap : Nat} {xs : List (Nat × Nat)} {S' : Nat → Prop} (h : Cs w (.slice a n cap) xs) (ho : Off S' w w') (hd : ∀ k, k < w.heap.size → ¬ S' k) {j : Nat} {x : Nat × Nat} (hx : xs[j]? = some x) : ∃ b off, a = some ⟨b, off, none⟩ ∧ w'.cell? ⟨b, off + j, none⟩ = some (.complex .f64 x.1 x.2) := by
  have h2 : CsAt w (.slice a n cap) xs (fun k => k < w.heap.size) := CsAt.mono h (fun _ hk _ => hk)
  obtain ⟨b, off, e, _, hc⟩ := CsAt.get (h2.off ho (fun k hk _ => hd k hk)) hx
  exact ⟨b, off, e, hc⟩
theorem transform_one (x : Nat × Nat) (v vr : Value) (w : World) (hV : Cs w v [x]) :
    Calls Tryd.prog 27 #[v, vr] w fun r w' => MadeC w r w' 1 [x] := by
  obtain ⟨a, cap, rfl, hV2⟩ := hV.open
  obtain ⟨b, off, rfl, _, d1⟩ := CsAt.get (j := 0) hV2 rfl
  rw [Nat.add_zero] at d1
  simp only [List.length_singleton]
  have H1 := Lib.hid (show (w.alloc (.cells #[cv x] 34)).heap[w.heap.size]? = some (.cells (cCells [x]) 34) from heap_new' rfl _)
  have H2 := Lib.hid (show Off (fun _ => False) w (w.alloc (.cells #[cv x] 34)) from (Off.refl _ w).alloc _)
  clear hV hV2
  go_enter Tryd.func27, Tryd.ntmps27
  go_wp2
  go_ret
  exact ⟨w.heap.size, rfl, Nat.le_refl _, H1.out, H2.out⟩
theorem transform_step (h n st NE : Nat) (hn : n = 2 * h) (h0 : 0 < h) (hh : h ≤ 128) (hNE : NE = st * n) (hE8 : NE ≤ 256) (hst0 : 0 < st) (evs ods A B Rt : List (Nat × Nat)) (tw bf : Nat → Nat × Nat) (a ar : Option Addr) (cap capr : Nat) (w : World)
    (hSP : Calls Tryd.prog 33 #[.slice a n cap] w fun e w' => ∃ v1 v2, e = .returned (.tuple #[v1, v2]) ∧ Cs w' v1 evs ∧ Cs w' v2 ods ∧ Off (fun _ => False) w w')
    (hR : Cs w (.slice ar NE capr) Rt)
    (ih1 : ∀ (v vr : Value) (w : World), Cs w v evs → Cs w vr Rt → Calls Tryd.prog 27 #[v, vr] w fun r w' => MadeC w r w' h A)
    (ih2 : ∀ (v vr : Value) (w : World), Cs w v ods → Cs w vr Rt → Calls Tryd.prog 27 #[v, vr] w fun r w' => MadeC w r w' h B)
    (hstep : ∀ k, k < h → ∃ x y r, A[k]? = some x ∧ B[k]? = some y ∧ Rt[k * st]? = some r ∧ cMulBits y.1 y.2 r.1 r.2 = some ((tw k).1, (tw k).2) ∧ cSumBits .add .f64 x.1 x.2 (tw k).1 (tw k).2 = some ((bf k).1, (bf k).2) ∧ cSumBits .sub .f64 x.1 x.2 (tw k).1 (tw k).2 = some ((bf (k + h)).1, (bf (k + h)).2)) :
    Calls Tryd.prog 27 #[.slice a n cap, .slice ar NE capr] w fun r w' => MadeC w r w' n ((List.range n).map bf) := by
  have hmk := run_make_com n (by omega)
  rw [← fill2_full bf hn]
  have HR := Lib.hid hR
  have HIH1 := Lib.hid ih1
  have HIH2 := Lib.hid ih2
  have HS := Lib.hid hstep
  have HN := Lib.hid hn
  have HST := Lib.hid hNE
  have hn1 : ((n : Int) == 1) = false := by simp; omega
  have hn1d : decide ((n : Int) = 1) = false := by simp; omega
  have hdiv : (NE : Int).tdiv (n : Int) = (st : Int) := by
    rw [hNE]
    push_cast
    exact Int.mul_tdiv_cancel _ (by omega)
  have hwst : IntKind.i64.wrap (st : Int) = (st : Int) := by
    have : st ≤ NE := by rw [hNE]; exact Nat.le_mul_of_pos_right _ (by omega)
    rw [IntKind.wrap_i64]; omega
  have hn0 : ((n : Int) == 0) = false := by simp; omega
  have hn00 : 0 < n := by omega
  clear hR ih1 ih2 hstep hNE hn
  go_enter Tryd.func27, Tryd.ntmps27
  go_wp2_with first | (go_at_call 33; refine hSP.mono ?_; rintro r w1 ⟨v1, v2, rfl, hc1, hc2, hO1⟩; have hI1 := Lib.hid (HIH1.out v1 _ w1 hc1 (Cs.off HR.out hO1)); have HC2 := Lib.hid hc2; have HO1 := Lib.hid hO1; clear hc1 hc2 hO1) | (go_at_call 27; refine (hI1.out).mono ?_; rintro r w2 ⟨g1, rfl, hg1, hA, hO2⟩; have hI2 := Lib.hid (HIH2.out v2 _ w2 (Cs.off HC2.out hO2) (Cs.off HR.out (HO1.out.trans hO2 (fun _ _ c => c)))); clear hI1; have HG1 := Lib.hid hg1; have HA := Lib.hid hA; have HO2 := Lib.hid hO2; clear hg1 hA hO2) | (go_at_call 27; refine (hI2.out).mono ?_; rintro r w3 ⟨g2, rfl, hg2, hB, hO3⟩; clear hI2; have HG2 := Lib.hid hg2; have HB := Lib.hid hB; have HO3 := Lib.hid hO3; clear hg2 hB hO3) | fail
  have HA3 := Lib.hid (HO3.out.heap HA.out (fun c => c))
  have HR3 := Lib.hid (Cs.off (Cs.off (Cs.off HR.out HO1.out) HO2.out) HO3.out)
  have hsz1 := HO1.out.size
  have hsz2 := HO2.out.size
  have hsz3 := HO3.out.size
  have HOw := Lib.hid (((HO1.out.trans HO2.out (fun _ _ c => c)).trans HO3.out (fun _ _ c => c)) : Off (fun _ => False) w w3)
  have HgA := Lib.hid (heap_lt HA3.out)
  have HgB := Lib.hid (heap_lt HB.out)
  obtain ⟨W4, hW4⟩ : ∃ W4, W4 = w3.alloc (.cells (Array.replicate n (Value.complex .f64 0 0)) 34) := ⟨_, rfl⟩
  obtain ⟨g, hg⟩ : ∃ g, g = w3.heap.size := ⟨_, rfl⟩
  have H4 := Lib.hid (show W4.heap[g]? = some (.cells (cCells (fill2 bf h n 0 0)) 34) by rw [fill2_start, hW4, hg]; exact zeros_new)
  have O4 := Lib.hid (show Off (fun _ => False) w3 W4 by rw [hW4]; exact (Off.refl _ w3).alloc _)
  rw [← hW4, ← hg]
  have Hg := Lib.hid hg
  have HSZ := Lib.hid (show w.heap.size ≤ w3.heap.size by omega)
  clear hW4 hg hmk hSP hsz1 hsz2 hsz3 HG1 HG2 HA HO1 HO2 HO3 HC2 HIH1 HIH2 hdiv hn1 hn1d hn0
  go_loopw [40] (fun i wr => ∃ k : Nat, k ≤ h ∧ i = .int .i64 (k : Int) ∧ wr.heap[g]? = some (.cells (cCells (fill2 bf h n k k)) 34) ∧ Off (fun j => j = g) W4 wr) (fun i _ => h - (intOf i).toNat)
  case atStart => exact ⟨0, Nat.zero_le _, rfl, H4.out, Off.refl _ _⟩
  case round =>
    obtain ⟨k, hk, rfl, hL, hO⟩ := hrel
    by_cases hkn : k < h
    · obtain ⟨x, y, r, hx, hy, hr, e1, e2, e3⟩ := HS.out k hkn
      have hki : (k : Int) < (h : Int) := by omega
      have hO3 : Off (fun j => j = g) w3 wr := (O4.out.mono (fun _ _ c => c.elim)).trans hO (fun _ _ c => c)
      have mA := cell_c (hO3.heap HA3.out (fun e => by have := HgA.out; have := Hg.out; omega)) hx
      have mB := cell_c (hO3.heap HB.out (fun e => by have := HgB.out; have := Hg.out; omega)) hy
      obtain ⟨br, or, rfl, mR⟩ := Cs.cell HR3.out hO3 (fun j hj e => by have := Hg.out; omega) hr
      have hq8 : k * st < NE := by
        have := HST.out
        have hn := HN.out
        rw [this, Nat.mul_comm st]
        exact Nat.mul_lt_mul_of_pos_right (by omega) hst0
      have hkn2 : k < n := by have := HN.out; omega
      have hkn3 : k + h < n := by have := HN.out; omega
      have hkn2i : (k : Int) < (n : Int) := by omega
      have hkn3i : (k : Int) + (h : Int) < (n : Int) := by omega
      obtain ⟨q, hq⟩ : ∃ q, q = k * st := ⟨_, rfl⟩
      have hqI : (k : Int) * (st : Int) = (q : Int) := by rw [hq]; push_cast; rfl
      rw [← hq] at mR hq8
      have hwq : IntKind.i64.wrap (q : Int) = (q : Int) := by rw [IntKind.wrap_i64]; omega
      have hwk : IntKind.i64.wrap ((k : Int) + 1) = (k : Int) + 1 := by rw [IntKind.wrap_i64]; omega
      have hwh : IntKind.i64.wrap ((k : Int) + (h : Int)) = (k : Int) + (h : Int) := by rw [IntKind.wrap_i64]; omega
      have E1 := fun (W : World) (t : TypeId) => run_complex_mul (P := Tryd.prog) W t y.1 y.2 r.1 r.2 (tw k).1 (tw k).2 e1
      have E2 := fun (W : World) (t : TypeId) => run_complex_sum (P := Tryd.prog) W .add (.inl rfl) t .f64 x.1 x.2 (tw k).1 (tw k).2 _ _ e2
      have E3 := fun (W : World) (t : TypeId) => run_complex_sum (P := Tryd.prog) W .sub (.inr rfl) t .f64 x.1 x.2 (tw k).1 (tw k).2 _ _ e3
      obtain ⟨z1, hz1⟩ := fill2_get bf (h := h) (n := n) (a := k) (b := k) (m := k) (by have := HN.out; omega)
      have m1 := cell_c hL hz1
      have f1 : wr.frozen? ⟨g, k, none⟩ = false := frozen_of_heap hL k
      have hL2 := com_store hL k (bf k)
      rw [fill2_set1 bf HN.out hkn (by omega)] at hL2
      obtain ⟨z2, hz2⟩ := fill2_get bf (h := h) (n := n) (a := k + 1) (b := k) (m := k + h) (by have := HN.out; omega)
      have m2 : (wr.setCell ⟨g, k, none⟩ (.complex .f64 (bf k).1 (bf k).2)).cell? ⟨g, k + h, none⟩ = some (.complex .f64 z2.1 z2.2) := cell_c hL2 hz2
      have f2 : (wr.setCell ⟨g, k, none⟩ (.complex .f64 (bf k).1 (bf k).2)).frozen? ⟨g, k + h, none⟩ = false := frozen_of_heap hL2 (k + h)
      have hL3 := com_store hL2 (k + h) (bf (k + h))
      rw [fill2_set2 bf HN.out (by omega) hkn] at hL3
      have HL3 := Lib.hid hL3
      have HO3 := Lib.hid ((hO.trans (setCells_off g [.complex .f64 (bf k).1 (bf k).2] k wr) (fun _ _ c => c)).trans (setCells_off g [.complex .f64 (bf (k + h)).1 (bf (k + h)).2] (k + h) _) (fun _ _ c => c) : Off (fun j => j = g) W4 _)
      have lt := heap_lt hL
      clear hL hO hO3 hx hy hr e1 e2 e3 hL2 hL3 hz1 hz2 hq
      go_upto_region 10 with fail
      go_region
      go_wp2
      go_roundw
      case rel => exact ⟨k + 1, by omega, by simp, HL3.out, HO3.out.drew⟩
      case measure => simp [intOf] <;> omega
    · obtain rfl : h = k := by omega
      have hki : ¬ ((h : Nat) : Int) < (h : Int) := by omega
      have HL3 := Lib.hid hL
      have HO3 := Lib.hid (HOw.out.trans (((O4.out.mono (fun _ _ c => c.elim)).trans hO (fun _ _ c => c)) : Off (fun j => j = g) w3 wr) (fun j hj e => by have := Hg.out; have := HSZ.out; omega))
      clear hL hO
      go_wp2
      go_ret
      exact ⟨g, rfl, by have := Hg.out; have := HSZ.out; omega, HL3.out, HO3.out⟩
theorem transform_any (E : Nat) (hE : E < 9) (e : Nat) : ∀ (he : e ≤ E) (L : List (Nat × Nat)) (hL : L.length = pw e) (hok : okF e L) (v vr : Value) (w : World) (hV : Cs w v L) (hR : Cs w vr (rootsL E)),
    Calls Tryd.prog 27 #[v, vr] w fun r w' => MadeC w r w' (pw e) (fftW e L) := by
  induction e with
  | zero =>
    intro he L hL hok v vr w hV hR
    obtain ⟨x, rfl⟩ : ∃ x, L = [x] := List.length_eq_one_iff.1 hL
    exact transform_one x v vr w hV
  | succ e ih =>
    intro he L hL hok v vr w hV hR
    have hpe : pw (e + 1) = 2 * pw e := by rw [pw_next, Nat.mul_comm]
    have h8 := pw_le (show e + 1 < 9 by omega)
    have h0 := pw_pos e
    obtain ⟨ok1, ok2, ok3⟩ := hok
    obtain ⟨a, cap, rfl, _⟩ := id hV
    obtain ⟨ar, capr, rfl, _⟩ := id hR
    have hSP := split_any L (pw e) (by omega) (by omega) _ w hV
    have hrl : (rootsL E).length = pw E := by unfold rootsL; simp
    have hstE : pw E = pw (E - (e + 1)) * pw (e + 1) := by unfold pw; rw [← Nat.pow_add]; congr 1; omega
    have l1 := fftW_len e (evL L (pw e)) (evL_len _ _)
    have l2 := fftW_len e (odL L (pw e)) (odL_len _ _)
    have hroot : ∀ k, k < pw e → (rootsL E)[k * pw (E - (e + 1))]? = some (rootF (e + 1) k) := fun k hk => by
      have hlt : k * pw (E - (e + 1)) < pw E := by
        rw [hstE, Nat.mul_comm (pw (E - (e + 1)))]
        exact Nat.mul_lt_mul_of_pos_right (by omega) (pw_pos _)
      unfold rootsL
      rw [List.getElem?_map, List.getElem?_range hlt]
      simp only [Option.map_some, rootF]
      have : pw (E - (e + 1)) * pw (8 - E) = pw (8 - (e + 1)) := by unfold pw; rw [← Nat.pow_add]; congr 1; omega
      rw [Nat.mul_assoc, this]
    rw [hL] at hSP hV ⊢
    rw [hrl] at hR ⊢
    refine transform_step (pw e) (pw (e + 1)) (pw (E - (e + 1))) (pw E) hpe h0 (by omega) hstE (pw_le hE) (pw_pos _) _ _ _ _ (rootsL E) (twF e (fftW e (odL L (pw e)))) (bflyF e (fftW e (evL L (pw e))) (fftW e (odL L (pw e)))) a ar cap capr w hSP hR
      (fun v vr w c1 c2 => ih (by omega) _ (evL_len _ _) ok1 v vr w c1 c2) (fun v vr w c1 c2 => ih (by omega) _ (odL_len _ _) ok2 v vr w c1 c2) (fun k hk => ?_)
    obtain ⟨s1, s2, s3⟩ := ok3 k hk
    have b1 : bflyF e (fftW e (evL L (pw e))) (fftW e (odL L (pw e))) k = caddW ((fftW e (evL L (pw e))).getD k (0, 0)) (twF e (fftW e (odL L (pw e))) k) := if_pos hk
    have b2 : bflyF e (fftW e (evL L (pw e))) (fftW e (odL L (pw e))) (k + pw e) = csubW ((fftW e (evL L (pw e))).getD k (0, 0)) (twF e (fftW e (odL L (pw e))) k) := by
      unfold bflyF; rw [if_neg (by omega), Nat.add_sub_cancel]
    refine ⟨(fftW e (evL L (pw e))).getD k (0, 0), (fftW e (odL L (pw e))).getD k (0, 0), rootF (e + 1) k, ?_, ?_, hroot k hk, some_getD s1, ?_, ?_⟩
    · rw [List.getD_eq_getElem?_getD, List.getElem?_eq_getElem (by omega)]; rfl
    · rw [List.getD_eq_getElem?_getD, List.getElem?_eq_getElem (by omega)]; rfl
    · rw [b1]; exact some_getD s2
    · rw [b2]; exact some_getD s3
end Go.Proofs.YtghacjhempmejaaDoor
