/-
  The first element of a transform is near the sum; the transform of ones is near 0 but for its first element. Condition: up to 16 of the statements' numbers.
-/
import Derived.Test.YtghacjhempmejaaDoorDftBack
import Derived.Test.YtghacjhempmejaaDoorRepeatC
namespace Go.Proofs.YtghacjhempmejaaDoor
open Go.RowKit Ieee
set_option linter.unusedVariables false
/-- The sum as the statement makes it. -/
def sumW (X : List (Nat × Nat)) : Nat → Nat × Nat
  | 0 => (0, 0)
  | k + 1 => caddW (sumW X k) (X.getD k (0, 0))
theorem eps8 : eps 8 = 256 / 9007199254740992 := by unfold eps; rw [show (2 : Rat) ^ 8 = 256 by decide +kernel]
theorem sum_nr (ls : List Int) : ∀ k, Nr (sumC k (numR ls)) ((k : Rat) * 6) := fun k => sumC_nr (fun j _ => numR_nr ls j)
theorem sum_near (ls : List Int) (N : Nat) (hN : N ≤ 16) : ∀ k, k ≤ N → ∃ s, FCz (sumW (numsL ls N) k) s ∧ Cl s (sumC k (numR ls)) ((k : Rat) * (256 / 9007199254740992))
  | 0, _ => ⟨CQ.zero, zero_fc, (Cl.refl _).mono (by rw [show ((0 : Nat) : Rat) = 0 from rfl]; grind)⟩
  | k + 1, hk => by
    obtain ⟨s, fs, cs⟩ := sum_near ls N hN k (by omega)
    have fx := numsL_fc ls (n := N) (i := k) (by omega)
    have nx := numR_nr ls k
    have hk16 : ((k : Nat) : Rat) ≤ 16 := by
      have h : k ≤ 16 := by omega
      have h2 : ((k : Nat) : Rat) ≤ ((16 : Nat) : Rat) := by exact_mod_cast h
      exact h2
    have hk0 : (0 : Rat) ≤ ((k : Nat) : Rat) := Rat.natCast_nonneg
    have ns := cs.nr (sum_nr ls k)
    have nt : Nr (s.add (numR ls k)) 128 := (ns.add nx).mono (by grind)
    have t8 : (2 : Rat) ^ 8 = 256 := by decide +kernel
    obtain ⟨p, q, u, v, e1, f1, a1, a2⟩ := fc_add fs fx 8 (by omega) (nt.1.mono (by rw [t8]; decide +kernel)) (nt.2.mono (by rw [t8]; decide +kernel))
    rw [eps8] at a1 a2
    have hw : sumW (numsL ls N) (k + 1) = (p, q) := by
      show caddW (sumW (numsL ls N) k) ((numsL ls N).getD k (0, 0)) = _
      unfold caddW
      rw [e1]; rfl
    rw [hw]
    refine ⟨⟨u, v⟩, f1, ?_⟩
    have h1 : Cl ⟨u, v⟩ (s.add (numR ls k)) (256 / 9007199254740992) := ⟨a1, a2⟩
    have h2 := h1.trans (cs.add (Cl.refl (numR ls k)))
    have e : ((k + 1 : Nat) : Rat) = (k : Rat) + 1 := by rw [Rat.natCast_add]; rfl
    rw [e]
    exact h2.mono (by grind)
theorem sumw_ok (ls : List Int) (N : Nat) (hN : N ≤ 16) (k : Nat) (hk : k < N) : cSumBits .add .f64 (sumW (numsL ls N) k).1 (sumW (numsL ls N) k).2 ((numsL ls N).getD k (0, 0)).1 ((numsL ls N).getD k (0, 0)).2 = some ((sumW (numsL ls N) (k + 1)).1, (sumW (numsL ls N) (k + 1)).2) := by
  obtain ⟨s, fs, cs⟩ := sum_near ls N hN k (by omega)
  have fx := numsL_fc ls (n := N) (i := k) (by omega)
  have nx := numR_nr ls k
  have hk16 : ((k : Nat) : Rat) ≤ 16 := by
    have h : k ≤ 16 := by omega
    have h2 : ((k : Nat) : Rat) ≤ ((16 : Nat) : Rat) := by exact_mod_cast h
    exact h2
  have hk0 : (0 : Rat) ≤ ((k : Nat) : Rat) := Rat.natCast_nonneg
  have ns := cs.nr (sum_nr ls k)
  have nt : Nr (s.add (numR ls k)) 128 := (ns.add nx).mono (by grind)
  have t8 : (2 : Rat) ^ 8 = 256 := by decide +kernel
  obtain ⟨p, q, u, v, e1, _, _, _⟩ := fc_add fs fx 8 (by omega) (nt.1.mono (by rw [t8]; decide +kernel)) (nt.2.mono (by rw [t8]; decide +kernel))
  have hw : sumW (numsL ls N) (k + 1) = (p, q) := by
    show caddW (sumW (numsL ls N) k) ((numsL ls N).getD k (0, 0)) = _
    unfold caddW
    rw [e1]; rfl
  rw [hw]; exact e1
theorem Close.of {x y : Nat × Nat} {z w u : CQ} {e f : Rat} (fx : FCz x z) (fy : FCz y w) (h : Cl z u e) (k : Cl w u f) (hb : e + f ≤ 1 / 2097152) : Close x y := by
  have a := (h.trans k.symm).mono hb
  exact ⟨z.re, z.im, w.re, w.im, fx, fy, a.1, a.2⟩
theorem fr_one : FR 4607182418800017408 1 := by
  have h := fl_fr (z := 1) (by decide)
  have e : fl 1 = 4607182418800017408 := by decide +kernel
  rw [e] at h; exact h
theorem tr_first (e : Nat) (x : Nat → CQ) (m : Nat) : trZ (pw e) (cN e) x m 0 = sumC m x := by
  unfold trZ
  refine sumC_congr (fun j _ => ?_)
  rw [Nat.mul_zero, Nat.zero_mod, cN_zero]
  exact CQ.eq (by simp only [CQ.mul, CQ.one]; grind) (by simp only [CQ.mul, CQ.one]; grind)
theorem lin_near (ls : List Int) {e : Nat} (he : e < 5) : Close ((fftW e (numsL ls (pw e))).getD 0 (0, 0)) (sumW (numsL ls (pw e)) (pw e)) ∧ okF e (List.replicate (pw e) (4607182418800017408, 0)) ∧
    Close ((fftW e (List.replicate (pw e) (4607182418800017408, 0))).getD 0 (0, 0)) (floatOfInt .f64 ((pw e : Nat) : Int), 0) ∧ ∀ k, 0 < k → k < pw e → Close ((fftW e (List.replicate (pw e) (4607182418800017408, 0))).getD k (0, 0)) (0, 0) := by
  have he9 : e < 9 := by omega
  have hN := pw_pos e
  have hN16 : pw e ≤ 16 := Nat.pow_le_pow_right (n := 2) (i := e) (j := 4) (by omega) (by omega)
  have hNq : ((pw e : Nat) : Rat) ≤ 16 := by
    have h2 : ((pw e : Nat) : Rat) ≤ ((16 : Nat) : Rat) := by exact_mod_cast hN16
    exact h2
  have hN0 : (0 : Rat) ≤ ((pw e : Nat) : Rat) := Rat.natCast_nonneg
  have t3 : (2 : Rat) ^ 3 = 8 := by decide +kernel
  have t0 : (2 : Rat) ^ 0 = 1 := by decide +kernel
  have g1 := gE_small he9
  have g0 := gE_nonneg e
  have er3 : erE e 3 ≤ 1 / 100000000 := by unfold erE; rw [t3]; grind
  have er0 : erE e 0 ≤ 1 / 100000000 := by unfold erE; rw [t0]; grind
  obtain ⟨_, n1⟩ := fft_near e he9 3 (by omega) (numsL ls (pw e)) (numR ls) (by unfold numsL; simp) (fun j hj => numsL_fc ls hj) (fun j _ => (numR_nr ls j).mono (by rw [t3]; decide +kernel))
  have hone : ∀ j, j < pw e → FCz ((List.replicate (pw e) ((4607182418800017408, 0) : Nat × Nat)).getD j (0, 0)) CQ.one := fun j hj => by
    rw [List.getD_eq_getElem?_getD, List.getElem?_replicate, if_pos hj]
    exact ⟨fr_one, fr_zero⟩
  obtain ⟨ok2, n2⟩ := fft_near e he9 0 (by omega) (List.replicate (pw e) (4607182418800017408, 0)) (fun _ => CQ.one) (by simp) hone (fun j _ => ⟨⟨by rw [t0]; exact Rat.le_refl, by rw [t0]; decide +kernel⟩, Ab.zero.mono (by rw [t0]; decide +kernel)⟩)
  refine ⟨?_, ok2, ?_, fun k hk0 hk => ?_⟩
  · obtain ⟨z, fz, cz⟩ := n1 0 hN
    obtain ⟨s, fs, cs⟩ := sum_near ls (pw e) hN16 (pw e) (Nat.le_refl _)
    rw [tr_first] at cz
    refine Close.of fz fs cz cs ?_
    grind
  · obtain ⟨z, fz, cz⟩ := n2 0 hN
    rw [tr_first, sum_one] at cz
    have fn : FCz (floatOfInt .f64 ((pw e : Nat) : Int), 0) ⟨((pw e : Nat) : Rat), 0⟩ := ⟨fl_fr (z := ((pw e : Nat) : Int)) (by omega), fr_zero⟩
    refine Close.of fz fn cz (Cl.refl _) ?_
    grind
  · obtain ⟨z, fz, cz⟩ := n2 k hk
    have hs := rts_sum he9 hk0 hk
    have e1 : trZ (pw e) (cN e) (fun _ => CQ.one) (pw e) k = sumC (pw e) (fun j => cN e (k * j % pw e)) := by
      unfold trZ
      exact sumC_congr (fun j _ => by rw [Nat.mul_comm j k]; exact CQ.eq (by simp only [CQ.mul, CQ.one]; grind) (by simp only [CQ.mul, CQ.one]; grind))
    rw [e1] at cz
    have h0 : Cl CQ.zero (sumC (pw e) (fun j => cN e (k * j % pw e))) (((pw e : Nat) : Rat) * dR) := by
      refine Cl.symm ?_
      unfold Cl
      rw [show (sumC (pw e) (fun j => cN e (k * j % pw e))).sub CQ.zero = sumC (pw e) (fun j => cN e (k * j % pw e)) from CQ.eq (by simp only [CQ.sub, CQ.zero]; grind) (by simp only [CQ.sub, CQ.zero]; grind)]
      exact hs
    have hdR : dR ≤ 1 / 1000000000000000000 := by unfold dR; decide +kernel
    have hd0 := dR_nonneg
    have q1 := Rat.mul_le_mul_of_nonneg_right hNq hd0
    refine Close.of fz zero_fc cz h0 ?_
    grind
theorem slice_tail (g n : Nat) (hn : 0 < n) (hb : n ≤ 1000) : ∃ (a : Option Addr) (c : Nat), (∀ W, (Instr.slice 30 (.slice (some ⟨g, 0, none⟩) n n) (some (.int .i64 1)) none none).run Tryd.prog W = .ok (.slice a (n - 1) c) W) ∧ (1 < n → a = some ⟨g, 1, none⟩) := by
  by_cases h : 1 < n
  · exact ⟨some ⟨g, 1, none⟩, n - 1, fun W => slice_from_c g n n 1 (by omega) (by omega) W, fun _ => rfl⟩
  · obtain rfl : n = 1 := by omega
    have he : Tryd.prog.elem 30 = 34 := by simp [Program.elem, Tryd.underlying30]
    refine ⟨some ⟨g, 0, none⟩, 0, fun W => ?_, fun c => by omega⟩
    rw [run_slice_l W 30 _ _ _ (by rw [he]; exact Tryd.underlying30) .i64 _ (by omega) (by omega), he, Tryd.sizeOf34]
    simp [Result.andThen, sliced]
end Go.Proofs.YtghacjhempmejaaDoor
