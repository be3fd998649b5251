/-
  Multiply's steps give whole numbers near those of the product. Condition: the lists have 1 to 64 elements from -1000 to 1000.
-/
import Derived.Test.YtghacjhempmejaaDoorDftNearF
import Derived.Test.YtghacjhempmejaaDoorDftMult
import Derived.Test.YtghacjhempmejaaDoorDftLink
import Derived.Test.YtghacjhempmejaaDoorFltAll
namespace Go.Proofs.YtghacjhempmejaaDoor
open Ieee
set_option linter.unusedVariables false
theorem pw_word : (List.range 9).all (fun e => double.read (floatOfInt .f64 ((pw e : Nat) : Int)) == .number false (2 ^ 52) ((e : Int) - 52)) = true := by decide +kernel
theorem div_near {x : Nat} {a : Rat} {e : Nat} (he : e < 9) (hx : FR x a) (K : Nat) (hK : K ≤ 900) (ha : Ab a ((2 : Rat) ^ K)) : ∃ z c, floatBits .quo .f64 x (floatOfInt .f64 ((pw e : Nat) : Int)) = some z ∧ z < 2 ^ 64 ∧ FR z c ∧ Ab (c - a / (pw e : Nat)) (eps K) := by
  have hy := List.all_eq_true.1 pw_word e (List.mem_range.2 he)
  rw [beq_iff_eq] at hy
  have hpos : (0 : Rat) < ((pw e : Nat) : Rat) := by rw [pw_rat]; exact two_pow_pos e
  have h1 : (1 : Rat) ≤ ((pw e : Nat) : Rat) := by
    have h := pw_pos e
    have : ((1 : Nat) : Rat) ≤ ((pw e : Nat) : Rat) := by exact_mod_cast h
    exact this
  refine fa_div2 hx e (by omega) hy K hK (a / (pw e : Nat)) (by rw [← pw_rat]; grind) ?_
  have hp := two_pow_pos K
  obtain ⟨a1, a2⟩ := ha
  generalize (2 : Rat) ^ K = T at *
  generalize ((pw e : Nat) : Rat) = N at *
  have hT := Rat.mul_le_mul_of_nonneg_left h1 (Rat.le_of_lt hp)
  constructor
  · refine Rat.le_of_mul_le_mul_right ?_ hpos
    rw [show a / N * N = a by grind]; grind
  · refine Rat.le_of_mul_le_mul_right ?_ hpos
    rw [show -(a / N) * N = -a by grind]; grind
theorem fr_zero : FR 0 0 := by
  have h := fr_num (x := 0) (V := 0) (by decide)
  rw [show ((0 : Int) : Rat) / (p200 : Nat) = 0 by rw [show ((0 : Int) : Rat) = 0 from rfl]; grind] at h
  exact h
theorem sumC_cut (f : Nat → CQ) (n : Nat) : ∀ N, n ≤ N → (∀ j, n ≤ j → j < N → f j = CQ.zero) → sumC N f = sumC n f := by
  intro N
  induction N with
  | zero => intro h _; obtain rfl : n = 0 := by omega
            rfl
  | succ N ih =>
    intro h hz
    by_cases e : n = N + 1
    · subst e; rfl
    · simp only [sumC]
      rw [hz N (by omega) (by omega), CQ.add_zero]
      exact ih (by omega) (fun j h1 h2 => hz j h1 (by omega))
/-- The elements of a list of integers, and zeros behind them. -/
def elR (l : List Int) (j : Nat) : Rat := ((l.getD j 0 : Int) : Rat)
theorem elR_ab {l : List Int} (h : ∀ x ∈ l, -1000 ≤ x ∧ x ≤ 1000) (j : Nat) : Ab (elR l j) 1000 := by
  obtain ⟨h1, h2⟩ := getD_small h j
  unfold elR
  generalize l.getD j 0 = x at *
  have hb : x.natAbs ≤ 1000 := by omega
  have h := abs_cast hb
  rw [show ((1000 : Nat) : Rat) = 1000 from rfl] at h
  exact ⟨h.1, h.2⟩
theorem elR_out {l : List Int} {j : Nat} (h : l.length ≤ j) : elR l j = 0 := by
  unfold elR
  rw [List.getD_eq_getElem?_getD, List.getElem?_eq_none h]; rfl
theorem numD_fc {l : List Int} (h : ∀ x ∈ l, -1000 ≤ x ∧ x ≤ 1000) {n j : Nat} (hj : j < n) : FCz ((numD l n).getD j (0, 0)) ⟨elR l j, 0⟩ := by
  unfold numD
  rw [List.getD_eq_getElem?_getD, fillQ_get _ _ hj]
  simp only [Option.getD_some]
  by_cases c : j < l.length
  · rw [if_pos c]
    obtain ⟨h1, h2⟩ := getD_small h j
    exact ⟨fl_fr (by omega), fr_zero⟩
  · rw [if_neg c, elR_out (by omega)]
    exact ⟨fr_zero, fr_zero⟩
theorem tr_ints {l : List Int} {e : Nat} (hl : l.length ≤ pw e) (k : Nat) : trZ (pw e) (cN e) (fun j => ⟨elR l j, 0⟩) (pw e) k = trC (pw e) (cN e) (elR l) l.length k := by
  unfold trZ trC
  rw [sumC_cut _ l.length _ hl (fun j h1 h2 => by
    show (⟨elR l j, 0⟩ : CQ).mul _ = _
    rw [elR_out h1]; exact CQ.eq (by simp only [CQ.mul, CQ.zero]; grind) (by simp only [CQ.mul, CQ.zero]; grind))]
  exact sumC_congr (fun j _ => CQ.eq (by simp only [CQ.mul, CQ.sc]; grind) (by simp only [CQ.mul, CQ.sc]; grind))
theorem trC_nr {l : List Int} (h : ∀ x ∈ l, -1000 ≤ x ∧ x ≤ 1000) {e : Nat} (he : e < 9) (hl : l.length ≤ 64) (k : Nat) : Nr (trC (pw e) (cN e) (elR l) l.length k) 64000 := by
  have a := sumC_nr (n := l.length) (f := fun i => (cN e (i * k % pw e)).sc (elR l i)) (fun i _ => Nr.sc (cN_small he (Nat.mod_lt _ (pw_pos e))) (elR_ab h i))
  refine Nr.mono (z := trC (pw e) (cN e) (elR l) l.length k) a ?_
  have : ((l.length : Nat) : Rat) ≤ ((64 : Nat) : Rat) := by exact_mod_cast hl
  rw [show ((64 : Nat) : Rat) = 64 from rfl] at this
  grind
theorem gE_7 {e : Nat} (he : e < 8) : gE e ≤ 2059 ∧ gE e ≤ 17 * (pw e : Nat) := by
  have : (List.range 8).all (fun e => decide (gE e ≤ 2059) && decide (gE e ≤ 17 * (pw e : Nat))) = true := by decide +kernel
  have h := List.all_eq_true.1 this e (List.mem_range.2 he)
  simpa using h
theorem mulok (la lb : List Int) (ha : ∀ x ∈ la, -1000 ≤ x ∧ x ≤ 1000) (hb : ∀ x ∈ lb, -1000 ≤ x ∧ x ≤ 1000) (l1 : la.length ≤ 64) (l2 : lb.length ≤ 64) (p1 : 0 < la.length) (p2 : 0 < lb.length) (e : Nat) (he : e < 8) (hfit : la.length + lb.length - 1 ≤ pw e) : MulOk e la lb := by
  have hN := pw_pos e
  have he9 : e < 9 := by omega
  obtain ⟨g1, g2⟩ := gE_7 he
  have g0 := gE_nonneg e
  have t10 : (2 : Rat) ^ 10 = 1024 := by decide +kernel
  have t34 : (2 : Rat) ^ 34 = 17179869184 := by decide +kernel
  have t43 : (2 : Rat) ^ 43 = 8796093022208 := by decide +kernel
  -- the transforms of the lists
  obtain ⟨okA, nA⟩ := fft_near e he9 10 (by omega) (numD la (pw e)) (fun j => ⟨elR la j, 0⟩) (fillQ_len _ _ _ _) (fun j hj => numD_fc ha hj) (fun j hj => ⟨(elR_ab ha j).mono (by rw [t10]; decide +kernel), Ab.zero.mono (by rw [t10]; decide +kernel)⟩)
  obtain ⟨okB, nB⟩ := fft_near e he9 10 (by omega) (numD lb (pw e)) (fun j => ⟨elR lb j, 0⟩) (fillQ_len _ _ _ _) (fun j hj => numD_fc hb hj) (fun j hj => ⟨(elR_ab hb j).mono (by rw [t10]; decide +kernel), Ab.zero.mono (by rw [t10]; decide +kernel)⟩)
  have er10 : erE e 10 ≤ 1 / 32000000 := by
    unfold erE; rw [t10]; grind
  have er0 := erE_nonneg e 10
  -- the products
  have hprod : ∀ k, k < pw e → ∃ t : Nat × Nat, cMulBits ((fftW e (numD la (pw e))).getD k (0, 0)).1 ((fftW e (numD la (pw e))).getD k (0, 0)).2 ((fftW e (numD lb (pw e))).getD k (0, 0)).1 ((fftW e (numD lb (pw e))).getD k (0, 0)).2 = some t ∧
      ∃ p, FCz t p ∧ Cl p ((trC (pw e) (cN e) (elR la) la.length k).mul (trC (pw e) (cN e) (elR lb) lb.length k)) (1 / 100) ∧ Nr p ((2 : Rat) ^ 34) := fun k hk => by
    obtain ⟨y, fy, cy⟩ := nA k hk
    obtain ⟨z, fz, cz⟩ := nB k hk
    rw [tr_ints (by omega)] at cy cz
    have nTa := trC_nr ha he9 l1 k
    have nTb := trC_nr hb he9 l2 k
    have ny : Nr y 131072 := (cy.nr nTa).mono (by grind)
    have nz : Nr z 131072 := (cz.nr nTb).mono (by grind)
    have ny2 : Nr y 65536 := (cy.nr nTa).mono (by grind)
    obtain ⟨t1, t2, u, v, e1, f1, a1, a2⟩ := fc_mul fy fz 34 (by omega) ny.1 ny.2 nz.1 nz.2 (by rw [t34]; decide +kernel)
    have e34 : eps 34 = 17179869184 / 9007199254740992 := by unfold eps; rw [t34]
    rw [e34] at a1 a2
    have ht : Cl ⟨u, v⟩ (y.mul z) (6 * (17179869184 / 9007199254740992)) := ⟨a1, a2⟩
    have hyz := Cl.mul cy cz ny2 nTb
    have h := ht.trans hyz
    have hp : Cl ⟨u, v⟩ ((trC (pw e) (cN e) (elR la) la.length k).mul (trC (pw e) (cN e) (elR lb) lb.length k)) (1 / 100) := h.mono (by grind)
    exact ⟨(t1, t2), e1, ⟨u, v⟩, f1, hp, (hp.nr (nTa.mul nTb)).mono (by rw [t34]; decide +kernel)⟩
  have hpr : ∀ k, k < pw e → ∀ t, cMulBits ((fftW e (numD la (pw e))).getD k (0, 0)).1 ((fftW e (numD la (pw e))).getD k (0, 0)).2 ((fftW e (numD lb (pw e))).getD k (0, 0)).1 ((fftW e (numD lb (pw e))).getD k (0, 0)).2 = some t → (prodL e la lb).getD k (0, 0) = t := fun k hk t ht => by
    unfold prodL
    rw [getD_map hk]
    unfold prodF cmulW
    rw [ht]; rfl
  have hpz : ∀ k, ∃ p : CQ, k < pw e → FCz ((prodL e la lb).getD k (0, 0)) p ∧ Cl p ((trC (pw e) (cN e) (elR la) la.length k).mul (trC (pw e) (cN e) (elR lb) lb.length k)) (1 / 100) ∧ Nr p ((2 : Rat) ^ 34) := fun k => by
    by_cases hk : k < pw e
    · obtain ⟨t, e1, p, f1, c1, n1⟩ := hprod k hk
      exact ⟨p, fun _ => by rw [hpr k hk t e1]; exact ⟨f1, c1, n1⟩⟩
    · exact ⟨CQ.zero, fun h => (hk h).elim⟩
  obtain ⟨p, hp⟩ := Classical.axiomOfChoice hpz
  -- the transform of the products
  obtain ⟨okP, nP⟩ := fft_near e he9 34 (by omega) (prodL e la lb) p (by unfold prodL; simp) (fun j hj => (hp j hj).1) (fun j hj => (hp j hj).2.2)
  have er34 : erE e 34 ≤ (pw e : Nat) * (17 / 4096) := by
    unfold erE; rw [t34]; grind
  have hNr : (0 : Rat) < ((pw e : Nat) : Rat) := by rw [pw_rat]; exact two_pow_pos e
  have hN128 : ((pw e : Nat) : Rat) ≤ 128 := by
    have h : pw e ≤ 128 := Nat.pow_le_pow_right (n := 2) (i := e) (j := 7) (by omega) (by omega)
    have h2 : ((pw e : Nat) : Rat) ≤ ((128 : Nat) : Rat) := by exact_mod_cast h
    exact h2
  have hbig : ∀ k, k < pw e → ∃ z : CQ, FCz ((fftW e (prodL e la lb)).getD k (0, 0)) z ∧ Nr z ((2 : Rat) ^ 43) ∧ Cl z (sumC (pw e) (fun j => ((trC (pw e) (cN e) (elR la) la.length j).mul (trC (pw e) (cN e) (elR lb) lb.length j)).mul (cN e (k * j % pw e)))) ((pw e : Nat) * (1 / 40)) := fun k hk => by
    obtain ⟨z, fz, cz⟩ := nP k hk
    have nT := trZ_nr (m := pw e) he9 (fun j hj => (hp j hj).2.2) k
    have cS : Cl (trZ (pw e) (cN e) p (pw e) k) (sumC (pw e) (fun j => ((trC (pw e) (cN e) (elR la) la.length j).mul (trC (pw e) (cN e) (elR lb) lb.length j)).mul (cN e (k * j % pw e)))) ((pw e : Nat) * (2 * (1 / 100 * 1))) := by
      unfold trZ
      refine Cl.sum (fun j hj => ?_)
      have a := Nr.mul (hp j hj).2.1 (cN_small he9 (Nat.mod_lt (j * k) hN))
      rw [Nat.mul_comm k j]
      unfold Cl
      rw [show ((p j).mul (cN e (j * k % pw e))).sub ((((trC (pw e) (cN e) (elR la) la.length j).mul (trC (pw e) (cN e) (elR lb) lb.length j))).mul (cN e (j * k % pw e))) = ((p j).sub ((trC (pw e) (cN e) (elR la) la.length j).mul (trC (pw e) (cN e) (elR lb) lb.length j))).mul (cN e (j * k % pw e)) from CQ.eq (by simp only [CQ.mul, CQ.sub]; grind) (by simp only [CQ.mul, CQ.sub]; grind)]
      exact a
    refine ⟨z, fz, (cz.nr nT).mono (by rw [t34, t43]; grind), (cz.trans cS).mono (by grind)⟩
  refine ⟨he9, hfit, okA, okB, fun k hk => ?_, okP, fun k hk => ?_, fun j hj => ?_, fun x hx => ?_⟩
  · obtain ⟨t, e1, _⟩ := hprod k hk
    rw [e1]; rfl
  · obtain ⟨z, fz, nz, _⟩ := hbig k hk
    obtain ⟨_, _, d1, _⟩ := div_near he9 fz.1 43 (by omega) nz.1
    obtain ⟨_, _, d2, _⟩ := div_near he9 fz.2 43 (by omega) nz.2
    rw [d1, d2]; exact ⟨rfl, rfl⟩
  · have hjN : j < pw e := by omega
    obtain ⟨z, fz, nz, cz⟩ := hbig ((pw e - j) % pw e) (Nat.mod_lt _ hN)
    obtain ⟨w, c, d1, d2, d3, d4⟩ := div_near he9 fz.1 43 (by omega) nz.1
    have hw : ((invL e (prodL e la lb)).getD j (0, 0)).1 = w := by
      unfold invL
      rw [getD_map hjN]
      unfold invF
      simp only
      rw [d1]; rfl
    rw [hw]
    have hcv : (cvL la lb).getD j 0 = cvS la lb j la.length := by
      unfold cvL
      rw [List.getD_eq_getElem?_getD, List.getElem?_map, List.getElem?_range hj]; rfl
    rw [hcv]
    have hc := (rts e he9).conv (elR la) (elR lb) la.length lb.length ((pw e - j) % pw e) 1000 (fun i _ => elR_ab ha i) (fun i _ => elR_ab hb i)
    have hcr := conv_re (N := pw e) (elR la) (elR lb) la.length lb.length ((pw e - j) % pw e) j (fun i i' h1 h2 => by
      by_cases j0 : j = 0
      · subst j0
        rw [Nat.sub_zero, Nat.mod_self, Nat.add_zero, Nat.mod_eq_of_lt (by omega)]
      · rw [Nat.mod_eq_of_lt (show pw e - j < pw e by omega)]
        constructor
        · intro h
          by_cases c1 : i + i' + (pw e - j) < pw e
          · rw [Nat.mod_eq_of_lt c1] at h; omega
          · rw [Nat.mod_eq_sub_mod (by omega), Nat.mod_eq_of_lt (by omega)] at h; omega
        · intro h
          rw [show i + i' + (pw e - j) = pw e by omega, Nat.mod_self])
    have hl := cv_link la lb j la.length
    have hl2 : sumR la.length (fun i => if i ≤ j ∧ j - i < lb.length then elR la i * elR lb (j - i) else 0) = ((cvS la lb j la.length : Int) : Rat) := hl
    rw [hl2] at hcr
    have hz := (cz.trans hc).1
    simp only [CQ.sub] at hz
    rw [hcr] at hz
    have hdR : dR ≤ 1 / 1000000000000000000 := by unfold dR; decide +kernel
    have hd0 := dR_nonneg
    have m1 : ((la.length : Nat) : Rat) ≤ 64 := by
      have : ((la.length : Nat) : Rat) ≤ ((64 : Nat) : Rat) := by exact_mod_cast l1
      exact this
    have m2 : ((lb.length : Nat) : Rat) ≤ 64 := by
      have : ((lb.length : Nat) : Rat) ≤ ((64 : Nat) : Rat) := by exact_mod_cast l2
      exact this
    have m10 : (0 : Rat) ≤ ((la.length : Nat) : Rat) := Rat.natCast_nonneg
    have m20 : (0 : Rat) ≤ ((lb.length : Nat) : Rat) := Rat.natCast_nonneg
    have hsm : ((la.length : Nat) : Rat) * (((lb.length : Nat) : Rat) * (1000 * 1000 * (((pw e : Nat) : Rat) * (5 * dR) + ((pw e : Nat) : Rat) * dR))) ≤ ((pw e : Nat) : Rat) * (1 / 1000) := by
      have q0 : 0 ≤ 1000 * 1000 * (((pw e : Nat) : Rat) * (5 * dR) + ((pw e : Nat) : Rat) * dR) := by
        have := Rat.mul_nonneg (Rat.le_of_lt hNr) hd0; grind
      have q1 := Rat.mul_le_mul_of_nonneg_right m2 q0
      have q2 := Rat.mul_le_mul_of_nonneg_left q1 m10
      have q3 : 0 ≤ 64 * (1000 * 1000 * (((pw e : Nat) : Rat) * (5 * dR) + ((pw e : Nat) : Rat) * dR)) := by grind
      have q4 := Rat.mul_le_mul_of_nonneg_right m1 q3
      have q5 := Rat.mul_le_mul_of_nonneg_left hdR (Rat.le_of_lt hNr)
      grind
    have hz2 := hz.mono (show _ ≤ ((pw e : Nat) : Rat) * (1 / 30) by grind)
    refine round_conv d3 d2 ?_ ?_
    · have e43 : eps 43 = 8796093022208 / 9007199254740992 := by unfold eps; rw [t43]
      rw [e43] at d4
      generalize ((cvS la lb j la.length : Int) : Rat) = C at *
      generalize ((pw e : Nat) : Rat) = N at *
      have hdiv : Ab (z.re / N - C) (1 / 30) := by
        obtain ⟨b1, b2⟩ := hz2
        constructor
        · refine Rat.le_of_mul_le_mul_right ?_ hNr
          rw [show (z.re / N - C) * N = z.re - N * C by grind]; grind
        · refine Rat.le_of_mul_le_mul_right ?_ hNr
          rw [show -(z.re / N - C) * N = -(z.re - N * C) by grind]; grind
      have := d4.add hdiv
      rw [show c - z.re / N + (z.re / N - C) = c - C by grind] at this
      exact this.mono (by decide +kernel)
    · have := cvS_small ha hb j la.length
      omega
  · unfold cvL at hx
    obtain ⟨m, _, rfl⟩ := List.mem_map.1 hx
    have := cvS_small ha hb m la.length
    omega
end Go.Proofs.YtghacjhempmejaaDoor
