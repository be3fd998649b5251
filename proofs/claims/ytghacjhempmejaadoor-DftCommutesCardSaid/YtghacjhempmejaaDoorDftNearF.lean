/-
  transform stands for numbers near the transform, and no step fails. Condition: the parts of the elements are at most 2 ^ r, r at most 100.
-/
import Derived.Test.YtghacjhempmejaaDoorDftFft
namespace Go.Proofs.YtghacjhempmejaaDoor
open Ieee
set_option linter.unusedVariables false
def FCz (p : Nat × Nat) (z : CQ) : Prop := FC p.1 p.2 z.re z.im
theorem Cl.nr {z w : CQ} {e f : Rat} (h : Cl z w e) (k : Nr w f) : Nr z (f + e) := by
  have a := Nr.add k h
  rw [show w.add (z.sub w) = z from CQ.eq (by simp only [CQ.add, CQ.sub]; grind) (by simp only [CQ.add, CQ.sub]; grind)] at a
  exact a
theorem bfly_near {ew ow rw : Nat × Nat} {y z c T U C : CQ} {e r : Nat} {ε : Rat} (he : e < 9) (hr : r ≤ 100) (fy : FCz ew y) (fz : FCz ow z) (fc : FCz rw c) (hy : Cl y T ε) (hz : Cl z U ε) (hc : Cl c C dW)
    (nT : Nr T (2 * ((2 : Rat) ^ e * (2 : Rat) ^ r))) (nU : Nr U (2 * ((2 : Rat) ^ e * (2 : Rat) ^ r))) (nC : Nr C 1) (hε : ε ≤ (2 : Rat) ^ e * (2 : Rat) ^ r / 1000000) :
    ∃ t p q : Nat × Nat, cMulBits ow.1 ow.2 rw.1 rw.2 = some t ∧ cSumBits .add .f64 ew.1 ew.2 t.1 t.2 = some p ∧ cSumBits .sub .f64 ew.1 ew.2 t.1 t.2 = some q ∧
      (∃ P, FCz p P ∧ Cl P (T.add (U.mul C)) (3 * ε + 72 * ((2 : Rat) ^ e * (2 : Rat) ^ r) / 9007199254740992)) ∧ (∃ Q, FCz q Q ∧ Cl Q (T.add ((U.mul C).mul ⟨-1, 0⟩)) (3 * ε + 72 * ((2 : Rat) ^ e * (2 : Rat) ^ r) / 9007199254740992)) := by
  have hM : (2 : Rat) ^ (e + r + 3) = 8 * ((2 : Rat) ^ e * (2 : Rat) ^ r) := by rw [two_pow_add, two_pow_add, show (2 : Rat) ^ 3 = 8 by decide +kernel]; grind
  have hM0 : 0 < (2 : Rat) ^ e * (2 : Rat) ^ r := Rat.mul_pos (two_pow_pos e) (two_pow_pos r)
  have hK : eps (e + r + 3) = 8 * ((2 : Rat) ^ e * (2 : Rat) ^ r) / 9007199254740992 := by unfold eps; rw [hM]
  generalize (2 : Rat) ^ e * (2 : Rat) ^ r = M at *
  have hz4 : Nr z (4 * M) := (hz.nr nU).mono (by grind)
  have hc2 : Nr c 2 := (hc.nr nC).mono (by unfold dW; decide +kernel)
  obtain ⟨t1, t2, u, v, e1, f1, a1, a2⟩ := fc_mul fz fc (e + r + 3) (by omega) hz4.1 hz4.2 hc2.1 hc2.2 (by rw [hM]; grind)
  rw [hK] at a1 a2
  have ht : Cl ⟨u, v⟩ (z.mul c) (6 * (8 * M / 9007199254740992)) := ⟨a1, a2⟩
  have hzc := Cl.mul hz hc hz4 nC
  have htU := ht.trans hzc
  have htU2 : Cl ⟨u, v⟩ (U.mul C) (64 * M / 9007199254740992 + 2 * ε) := htU.mono (by unfold dW; grind)
  have nUC : Nr (U.mul C) (4 * M) := (nU.mul nC).mono (by grind)
  have nt : Nr ⟨u, v⟩ (5 * M) := (htU2.nr nUC).mono (by grind)
  have ny : Nr y (3 * M) := (hy.nr nT).mono (by grind)
  obtain ⟨p1, p2, pu, pv, e2, f2, b1, b2⟩ := fc_add fy f1 (e + r + 3) (by omega) ((ny.1.add nt.1).mono (by rw [hM]; grind)) ((ny.2.add nt.2).mono (by rw [hM]; grind))
  obtain ⟨q1, q2, qu, qv, e3, f3, c1, c2⟩ := fc_sub fy f1 (e + r + 3) (by omega) ((ny.1.sub nt.1).mono (by rw [hM]; grind)) ((ny.2.sub nt.2).mono (by rw [hM]; grind))
  rw [hK] at b1 b2 c1 c2
  refine ⟨(t1, t2), (p1, p2), (q1, q2), e1, e2, e3, ⟨⟨pu, pv⟩, f2, ?_⟩, ⟨⟨qu, qv⟩, f3, ?_⟩⟩
  · have k : Cl ⟨pu, pv⟩ (y.add ⟨u, v⟩) (8 * M / 9007199254740992) := ⟨b1, b2⟩
    exact (k.trans (hy.add htU2)).mono (by grind)
  · have k : Cl ⟨qu, qv⟩ (y.add ((⟨u, v⟩ : CQ).mul ⟨-1, 0⟩)) (8 * M / 9007199254740992) := by
      refine ⟨?_, ?_⟩
      · rw [show ((⟨qu, qv⟩ : CQ).sub (y.add ((⟨u, v⟩ : CQ).mul ⟨-1, 0⟩))).re = qu - (y.re - u) by simp only [CQ.sub, CQ.add, CQ.mul]; grind]; exact c1
      · rw [show ((⟨qu, qv⟩ : CQ).sub (y.add ((⟨u, v⟩ : CQ).mul ⟨-1, 0⟩))).im = qv - (y.im - v) by simp only [CQ.sub, CQ.add, CQ.mul]; grind]; exact c2
    exact (k.trans (hy.add htU2.neg)).mono (by grind)
theorem getD_map {f : Nat → Nat × Nat} {n j : Nat} (h : j < n) : ((List.range n).map f).getD j (0, 0) = f j := by
  rw [List.getD_eq_getElem?_getD, List.getElem?_map, List.getElem?_range h]; rfl
theorem pw_rat (e : Nat) : ((pw e : Nat) : Rat) = (2 : Rat) ^ e := by unfold pw; rw [Rat.natCast_pow]; rfl
theorem fft_near (e : Nat) : ∀ (he : e < 9) (r : Nat) (hr : r ≤ 100) (L : List (Nat × Nat)) (x : Nat → CQ) (hL : L.length = pw e) (hf : ∀ j, j < pw e → FCz (L.getD j (0, 0)) (x j)) (hx : ∀ j, j < pw e → Nr (x j) ((2 : Rat) ^ r)),
    okF e L ∧ ∀ k, k < pw e → ∃ z, FCz ((fftW e L).getD k (0, 0)) z ∧ Cl z (trZ (pw e) (cN e) x (pw e) k) (erE e r) := by
  induction e with
  | zero =>
    intro he r hr L x hL hf hx
    refine ⟨trivial, fun k hk => ?_⟩
    have h1 : pw 0 = 1 := rfl
    obtain rfl : k = 0 := by omega
    refine ⟨x 0, hf 0 (by omega), ?_⟩
    have e1 : trZ (pw 0) (cN 0) x (pw 0) 0 = x 0 := by
      unfold trZ
      rw [h1]
      simp only [sumC]
      rw [Nat.mul_zero, Nat.zero_mod, cN_zero, CQ.zero_add]
      exact CQ.eq (by simp only [CQ.mul, CQ.one]; grind) (by simp only [CQ.mul, CQ.one]; grind)
    rw [e1]
    exact (Cl.refl _).mono (erE_nonneg 0 r)
  | succ e ih =>
    intro he r hr L x hL hf hx
    have hp : pw (e + 1) = 2 * pw e := by rw [pw_next, Nat.mul_comm]
    have h0 := pw_pos e
    obtain ⟨ok1, n1⟩ := ih (by omega) r hr (evL L (pw e)) (fun j => x (2 * j)) (evL_len _ _) (fun j hj => by unfold evL; rw [getD_map hj]; exact hf (2 * j) (by omega)) (fun j hj => hx (2 * j) (by omega))
    obtain ⟨ok2, n2⟩ := ih (by omega) r hr (odL L (pw e)) (fun j => x (2 * j + 1)) (odL_len _ _) (fun j hj => by unfold odL; rw [getD_map hj]; exact hf (2 * j + 1) (by omega)) (fun j hj => hx (2 * j + 1) (by omega))
    have key : ∀ k, k < pw e → ∃ t p q : Nat × Nat, cMulBits ((fftW e (odL L (pw e))).getD k (0, 0)).1 ((fftW e (odL L (pw e))).getD k (0, 0)).2 (rootF (e + 1) k).1 (rootF (e + 1) k).2 = some t ∧ cSumBits .add .f64 ((fftW e (evL L (pw e))).getD k (0, 0)).1 ((fftW e (evL L (pw e))).getD k (0, 0)).2 t.1 t.2 = some p ∧ cSumBits .sub .f64 ((fftW e (evL L (pw e))).getD k (0, 0)).1 ((fftW e (evL L (pw e))).getD k (0, 0)).2 t.1 t.2 = some q ∧
        (∃ P, FCz p P ∧ Cl P (trZ (pw (e + 1)) (cN (e + 1)) x (pw (e + 1)) k) (erE (e + 1) r)) ∧ (∃ Q, FCz q Q ∧ Cl Q (trZ (pw (e + 1)) (cN (e + 1)) x (pw (e + 1)) (k + pw e)) (erE (e + 1) r)) := fun k hk => by
      obtain ⟨y, fy, cy⟩ := n1 k hk
      obtain ⟨z, fz, cz⟩ := n2 k hk
      obtain ⟨c, fc, cc⟩ := rootF_fc (e := e + 1) (k := k) he (by omega)
      have nT := trZ_nr (e := e) (m := pw e) (x := fun j => x (2 * j)) (by omega) (fun j hj => hx (2 * j) (by omega)) k
      have nU := trZ_nr (e := e) (m := pw e) (x := fun j => x (2 * j + 1)) (by omega) (fun j hj => hx (2 * j + 1) (by omega)) k
      rw [pw_rat] at nT nU
      have hε := erE_small (show e < 9 by omega) r
      have h1e : (1 : Rat) ≤ (2 : Rat) ^ e := by
        rw [← pw_rat]
        have : ((1 : Nat) : Rat) ≤ ((pw e : Nat) : Rat) := by exact_mod_cast h0
        exact this
      have hMr : (2 : Rat) ^ r ≤ (2 : Rat) ^ e * (2 : Rat) ^ r := by
        have := Rat.mul_le_mul_of_nonneg_right h1e (Rat.le_of_lt (two_pow_pos r)); grind
      obtain ⟨t, p, q, e1, e2, e3, ⟨P, f1, c1⟩, ⟨Q, f2, c2⟩⟩ := bfly_near (e := e) (r := r) (ε := erE e r) (by omega) hr fy fz fc cy cz cc (nT.mono (by grind)) (nU.mono (by grind)) (cN_small he (by omega)) (by grind)
      obtain ⟨t1, t2⟩ := tr_low (R := (2 : Rat) ^ r) he hx hk
      rw [pw_rat] at t1 t2
      have hM0 : 0 < (2 : Rat) ^ e * (2 : Rat) ^ r := Rat.mul_pos (two_pow_pos e) (two_pow_pos r)
      have hE : erE (e + 1) r = 3 * erE e r + (2 : Rat) ^ e * (2 : Rat) ^ r / 70368744177664 := by
        unfold erE
        rw [show gE (e + 1) = 3 * gE e + (2 : Rat) ^ e from rfl]; grind
      have hdR : dR ≤ 1 / 1000000000000000000 := by unfold dR; decide +kernel
      have hm1 := Rat.mul_le_mul_of_nonneg_left hdR (Rat.le_of_lt hM0)
      have ea : (2 : Rat) ^ e * (2 * ((2 : Rat) ^ r * dR)) = 2 * ((2 : Rat) ^ e * (2 : Rat) ^ r * dR) := by grind
      have eb : (2 : Rat) ^ e * (2 * ((2 : Rat) ^ r * (2 * dR))) = 4 * ((2 : Rat) ^ e * (2 : Rat) ^ r * dR) := by grind
      rw [ea] at t1
      rw [eb] at t2
      have k1 := c1.trans t1.symm
      have k2 := c2.trans t2.symm
      have hd0 := Rat.mul_nonneg (Rat.le_of_lt hM0) dR_nonneg
      rw [hE]
      clear hε hE ea eb nT nU t1 t2 cy cz cc c1 c2 ok1 ok2 n1 n2 hf hx
      generalize (2 : Rat) ^ e * (2 : Rat) ^ r * dR = D at *
      generalize (2 : Rat) ^ e * (2 : Rat) ^ r = M at *
      generalize erE e r = ε at *
      exact ⟨t, p, q, e1, e2, e3, ⟨P, f1, k1.mono (by grind)⟩, ⟨Q, f2, k2.mono (by grind)⟩⟩
    have htw : ∀ k, k < pw e → ∀ t, cMulBits ((fftW e (odL L (pw e))).getD k (0, 0)).1 ((fftW e (odL L (pw e))).getD k (0, 0)).2 (rootF (e + 1) k).1 (rootF (e + 1) k).2 = some t → twF e (fftW e (odL L (pw e))) k = t := fun k hk t ht => by
      unfold twF cmulW
      rw [ht]; rfl
    refine ⟨⟨ok1, ok2, fun k hk => ?_⟩, fun k hk => ?_⟩
    · obtain ⟨t, p, q, e1, e2, e3, _, _⟩ := key k hk
      unfold stepOk
      rw [htw k hk t e1, e1, e2, e3]
      exact ⟨rfl, rfl, rfl⟩
    · rw [show fftW (e + 1) L = (List.range (pw (e + 1))).map (bflyF e (fftW e (evL L (pw e))) (fftW e (odL L (pw e)))) from rfl, getD_map hk]
      unfold bflyF
      by_cases c : k < pw e
      · obtain ⟨t, p, q, e1, e2, e3, ⟨P, f1, c1⟩, _⟩ := key k c
        rw [if_pos c, htw k c t e1]
        unfold caddW
        rw [e2]
        exact ⟨P, f1, c1⟩
      · obtain ⟨t, p, q, e1, e2, e3, _, ⟨Q, f2, c2⟩⟩ := key (k - pw e) (by omega)
        rw [if_neg c, htw (k - pw e) (by omega) t e1]
        unfold csubW
        rw [e3]
        rw [show k - pw e + pw e = k by omega] at c2
        exact ⟨Q, f2, c2⟩
end Go.Proofs.YtghacjhempmejaaDoor
