/-
  Multiply of package dft. Conditions: the tables of the coefficients are as they are laid; the steps on words give whole numbers near those of the product (MulOk).
-/
import Derived.Test.YtghacjhempmejaaDoorDftInt2
import Derived.Test.YtghacjhempmejaaDoorDftInv
import Derived.Test.YtghacjhempmejaaDoorDftLen
namespace Go.Proofs.YtghacjhempmejaaDoor
open Go.RowKit Ieee
set_option maxRecDepth 100000
set_option linter.unusedVariables false
set_option maxHeartbeats 4000000
attribute [local go_sem] run_store_com
theorem addr_zero' (a : Addr) : a.add 0 = a := by unfold Addr.add; split <;> simp_all
theorem slice_com (a : Option Addr) (n cap k : Nat) (hk : k ≤ cap) (W : World) : (Instr.slice 30 (.slice a n cap) none (some (.int .i64 (k : Int))) none).run Tryd.prog W = .ok (.slice a k cap) W := by
  have he : Tryd.prog.elem 30 = 34 := by simp [Program.elem, Tryd.underlying30]
  rw [run_slice_h W 30 _ _ _ (by rw [he]; exact Tryd.underlying30) .i64 _ (by omega) (by omega), he, Tryd.sizeOf34]
  cases a <;> simp [Result.andThen, sliced, addr_zero']
theorem Cs.take {w : World} {a : Option Addr} {n cap : Nat} {xs : List (Nat × Nat)} (h : Cs w (.slice a n cap) xs) (m : Nat) (hm : m ≤ n) : Cs w (.slice a m cap) (xs.take m) := by
  obtain ⟨a', cap', hv, h1, h4⟩ := h
  cases hv
  refine ⟨a, cap, by rw [List.length_take, Nat.min_eq_left hm], by rw [List.length_take]; omega, fun hp => ?_⟩
  rw [List.length_take] at hp
  obtain ⟨b, off, ha, hS, hc⟩ := h4 (by omega)
  refine ⟨b, off, ha, hS, fun j x hj => hc j x ?_⟩
  rw [List.getElem?_take] at hj
  split at hj
  · exact hj
  · cases hj
def prodF (FA FB : List (Nat × Nat)) (k : Nat) : Nat × Nat := cmulW (FA.getD k (0, 0)) (FB.getD k (0, 0))
def prodL (e : Nat) (la lb : List Int) : List (Nat × Nat) := (List.range (pw e)).map (prodF (fftW e (numD la (pw e))) (fftW e (numD lb (pw e))))
/-- That no step fails, and what comes of them. -/
structure MulOk (e : Nat) (la lb : List Int) : Prop where
  size : e < 9
  fits : la.length + lb.length - 1 ≤ pw e
  okA : okF e (numD la (pw e))
  okB : okF e (numD lb (pw e))
  mul : ∀ k, k < pw e → (cMulBits ((fftW e (numD la (pw e))).getD k (0, 0)).1 ((fftW e (numD la (pw e))).getD k (0, 0)).2 ((fftW e (numD lb (pw e))).getD k (0, 0)).1 ((fftW e (numD lb (pw e))).getD k (0, 0)).2).isSome = true
  okP : okF e (prodL e la lb)
  okJ : okI e (fftW e (prodL e la lb))
  ints : ∀ j, j < la.length + lb.length - 1 → floatToIntVal .f64 (roundW ((invL e (prodL e la lb)).getD j (0, 0)).1) .i64 = some ((cvL la lb).getD j 0)
  small : ∀ x ∈ cvL la lb, x.natAbs ≤ 500000000000
/-- The loop that multiplies: f up to k, the elements of A from there on. -/
theorem mult_main (e N ln : Nat) (la lb : List Int) (n1 n2 : Nat) (hn1 : n1 = la.length) (hn2 : n2 = lb.length) (h1 : n1 ≤ 64) (h2 : n2 ≤ 64) (p1 : 0 < n1) (p2 : 0 < n2) (hN : N = pw e) (hln : ln = n1 + n2 - 1) (he : e = lenN (ln - 1)) (oa : oobC la = false) (ob : oobC lb = false) (hok : MulOk e la lb) (a1 a2 : Option Addr) (cap1 cap2 : Nat) (w : World) (hV : Iv w (.slice a1 n1 cap1) la) (hU : Iv w (.slice a2 n2 cap2) lb) (hT : TabAt w) :
    Calls Tryd.prog 9 #[.slice a1 n1 cap1, .slice a2 n2 cap2] w fun r w' => ∃ u, r = .returned (.tuple #[u, .int .i64 0]) ∧ Iv w' u (cvL la lb) ∧ Off (fun _ => False) w w' := by
  have he9 := hok.size
  have hN8 := pw_le he9
  have hN0 := pw_pos e
  have hfit : ln ≤ N := by rw [hln, hN, hn1, hn2]; exact hok.fits
  have lA : (fftW e (numD la (pw e))).length = pw e := fftW_len _ _ (fillQ_len _ _ _ _)
  have lB : (fftW e (numD lb (pw e))).length = pw e := fftW_len _ _ (fillQ_len _ _ _ _)
  have lP : (prodL e la lb).length = pw e := by unfold prodL; simp
  have lI : (invL e (prodL e la lb)).length = pw e := by unfold invL; simp
  have hI1 := fun W => inrange_any la (.slice a1 n1 cap1) W
  have hI2 := fun W => inrange_any lb (.slice a2 n2 cap2) W
  rw [oa, show (!false) = true from rfl] at hI1
  rw [ob, show (!false) = true from rfl] at hI2
  have hLen := fun W => len_any (ln - 1) (by omega) W
  rw [← he] at hLen
  have hNum1 := fun W => dnumbers_any la N (by omega) (by omega) (.slice a1 n1 cap1) W
  have hNum2 := fun W => dnumbers_any lb N (by omega) (by omega) (.slice a2 n2 cap2) W
  rw [hN] at hNum1 hNum2
  have hTA := fun v W c => trans_any e he9 (numD la (pw e)) (fillQ_len _ _ _ _) hok.okA v W c
  have hTB := fun v W c => trans_any e he9 (numD lb (pw e)) (fillQ_len _ _ _ _) hok.okB v W c
  have hInv := fun v W c => inverse_any e he9 (prodL e la lb) lP hok.okP hok.okJ v W c
  have hInts := fun v W => integers_any ((invL e (prodL e la lb)).take ln) (cvL la lb) (by rw [List.length_take, lI]; unfold cvL; simp; omega) (by rw [List.length_take, lI]; omega) (fun j x hx => by
    rw [List.getElem?_take] at hx
    split at hx
    · next hj =>
      have := hok.ints j (by omega)
      rw [List.getD_eq_getElem?_getD, hx] at this
      exact this
    · cases hx) hok.small v W
  have hMul := hok.mul
  have hPL : prodL e la lb = fillQ (prodF (fftW e (numD la (pw e))) (fftW e (numD lb (pw e)))) (fun k => (fftW e (numD la (pw e))).getD k (0, 0)) (pw e) (pw e) := by rw [fillQ_full]; rfl
  have hPS : fftW e (numD la (pw e)) = fillQ (prodF (fftW e (numD la (pw e))) (fftW e (numD lb (pw e)))) (fun k => (fftW e (numD la (pw e))).getD k (0, 0)) (pw e) 0 := by
    rw [fillQ_start]
    apply List.ext_getElem?
    intro j
    by_cases hj : j < pw e
    · rw [List.getElem?_map, List.getElem?_range hj, List.getElem?_eq_getElem (by omega)]
      simp only [Option.map_some]
      rw [List.getD_eq_getElem?_getD, List.getElem?_eq_getElem (by omega)]; rfl
    · rw [List.getElem?_eq_none (by omega), List.getElem?_eq_none (by simp; omega)]
  obtain ⟨f, hf⟩ : ∃ f, f = prodF (fftW e (numD la (pw e))) (fftW e (numD lb (pw e))) := ⟨_, rfl⟩
  have hfk : ∀ k, f k = cmulW ((fftW e (numD la (pw e))).getD k (0, 0)) ((fftW e (numD lb (pw e))).getD k (0, 0)) := fun k => by rw [hf]; rfl
  rw [← hf] at hPL hPS
  obtain ⟨A, hA⟩ : ∃ A, A = numD la (pw e) := ⟨_, rfl⟩
  obtain ⟨B, hB⟩ : ∃ B, B = numD lb (pw e) := ⟨_, rfl⟩
  obtain ⟨P, hP⟩ : ∃ P, P = prodL e la lb := ⟨_, rfl⟩
  rw [← hA] at hNum1 hTA hMul hPL hPS lA hfk
  rw [← hB] at hNum2 hTB hMul lB hfk
  rw [← hP] at hInv hInts hPL lI lP
  have lA0 : A.length = pw e := by rw [hA]; exact fillQ_len _ _ _ _
  have lB0 : B.length = pw e := by rw [hB]; exact fillQ_len _ _ _ _
  clear hf hA hB hP hok oa ob
  obtain ⟨FA, hFA⟩ : ∃ FA, FA = fftW e A := ⟨_, rfl⟩
  obtain ⟨FB, hFB⟩ : ∃ FB, FB = fftW e B := ⟨_, rfl⟩
  obtain ⟨J, hJ⟩ : ∃ J, J = invL e P := ⟨_, rfl⟩
  rw [← hFA] at hTA hMul hPL hPS lA hfk
  rw [← hFB] at hTB hMul lB hfk
  rw [← hJ] at hInv hInts lI
  clear hFA hFB hJ
  rw [← hN] at hNum1 hNum2 hTA hTB hInv hMul hPL hPS lA lB lA0 lB0 lP lI hN8 hN0
  have hp2 : (2 : Int) ^ e = (N : Int) := by rw [hN]; unfold pw; push_cast; rfl
  have hsh : IntKind.i64.wrap (1 * 2 ^ e) = (N : Int) := by rw [Int.one_mul, hp2, IntKind.wrap_i64]; omega
  have hsh2 : IntKind.i64.wrap (2 ^ e) = (N : Int) := by rw [hp2, IntKind.wrap_i64]; omega
  clear hp2
  have HV := Lib.hid hV
  have HU := Lib.hid hU
  have HT := Lib.hid hT
  have HPL := Lib.hid hPL
  have HPS := Lib.hid hPS
  have HMul := Lib.hid hMul
  have HF := Lib.hid hfk
  have HlA := Lib.hid lA
  have HlB := Lib.hid lB
  have HlA0 := Lib.hid lA0
  have HlB0 := Lib.hid lB0
  have HlP := Lib.hid lP
  have HlI := Lib.hid lI
  have HI1 := Lib.hid hI1
  have HI2 := Lib.hid hI2
  have HNum1 := Lib.hid hNum1
  have HNum2 := Lib.hid hNum2
  have HTA := Lib.hid hTA
  have HTB := Lib.hid hTB
  have HInv := Lib.hid hInv
  have HInts := Lib.hid hInts
  have g1 : ¬ (64 : Int) < (n1 : Int) := by omega
  have g2 : ¬ (64 : Int) < (n2 : Int) := by omega
  have b1 : decide ((64 : Int) < (n1 : Int)) = false := by simp; omega
  have b2 : decide ((64 : Int) < (n2 : Int)) = false := by simp; omega
  have b3 : decide ((n1 : Int) = 0) = false := by simp; omega
  have b4 : decide ((n2 : Int) = 0) = false := by simp; omega
  have g3 : ((n1 : Int) == 0) = false := by simp; omega
  have g4 : ((n2 : Int) == 0) = false := by simp; omega
  have w1 : IntKind.i64.wrap ((n1 : Int) + (n2 : Int)) = (n1 : Int) + (n2 : Int) := by rw [IntKind.wrap_i64]; omega
  have w2 : IntKind.i64.wrap ((n1 : Int) + (n2 : Int) - 1) = (ln : Int) := by rw [IntKind.wrap_i64]; omega
  have w3 : IntKind.i64.wrap ((ln : Int) - 1) = ((ln - 1 : Nat) : Int) := by rw [IntKind.wrap_i64]; omega
  have w4 : IntKind.u64.wrap ((ln - 1 : Nat) : Int) = ((ln - 1 : Nat) : Int) := by rw [IntKind.wrap_u64]; omega
  obtain ⟨l1, hl1⟩ : ∃ l1, l1 = ln - 1 := ⟨_, rfl⟩
  rw [← hl1] at w3 w4 hLen
  have he64 : ¬ (64 : Int) ≤ (e : Int) := by omega
  clear hV hU hT hPL hPS hMul hfk lA lB lA0 lB0 lP lI hI1 hI2 hNum1 hNum2 hTA hTB hInv hInts hl1 hN he hn1 hn2 hln
  go_enter Tryd.func9, Tryd.ntmps9
  go_wp2_with first | (go_at_call_of 21 (Value.slice a1 n1 cap1); refine (HI1.out _ HV.out).mono ?_; rintro r w' ⟨rfl, rfl⟩) | (go_at_call_of 21 (Value.slice a2 n2 cap2); refine (HI2.out _ HU.out).mono ?_; rintro r w' ⟨rfl, rfl⟩) | (go_at_call 22; refine (hLen _).mono ?_; rintro r w' ⟨rfl, rfl⟩) | (go_at_call_of 23 (Value.slice a1 n1 cap1); refine (HNum1.out _ HV.out).mono ?_; rintro r W1 ⟨ga, rfl, hga, hL1, hO1⟩; have HX1 := Lib.hid (HTA.out (.slice (some ⟨ga, 0, none⟩) N N) W1 (cs_blk (S := fun _ => True) hL1 HlA0.out.symm (by omega) trivial) (HT.out.off hO1)); have HO1 := Lib.hid hO1; clear hga hL1 hO1 HTA HNum1) | (go_at_call_of 18 (Value.slice (some (⟨ga, 0, none⟩ : Addr)) N N); refine HX1.out.mono ?_; rintro r W2 ⟨gA, rfl, hgA, hLA, hO2⟩; clear HX1; have HO2 := Lib.hid (HO1.out.trans hO2 (fun _ _ c => c)); have HGA := Lib.hid (Nat.le_trans HO1.out.size hgA); have HLA := Lib.hid hLA; clear hgA hLA hO2 HO1) | (go_at_call_of 23 (Value.slice a2 n2 cap2); refine (HNum2.out _ (Iv.off HU.out HO2.out)).mono ?_; rintro r W3 ⟨gb, rfl, hgb, hL3, hO3⟩; have HX2 := Lib.hid (HTB.out (.slice (some ⟨gb, 0, none⟩) N N) W3 (cs_blk (S := fun _ => True) hL3 HlB0.out.symm (by omega) trivial) (HT.out.off (HO2.out.trans hO3 (fun _ _ c => c)))); have HO3 := Lib.hid hO3; clear hgb hL3 hO3 HTB HNum2) | (go_at_call_of 18 (Value.slice (some (⟨gb, 0, none⟩ : Addr)) N N); refine HX2.out.mono ?_; rintro r W4 ⟨gB, rfl, hgB, hLB, hO4⟩; clear HX2; have HO24 := Lib.hid (HO3.out.trans hO4 (fun _ _ c => c)); have HGB := Lib.hid (Nat.le_trans HO3.out.size hgB); have HLB := Lib.hid hLB; clear hgB hLB hO4 HO3) | fail
  have HgA2 := Lib.hid (heap_lt HLA.out)
  have HO := Lib.hid (HO2.out.trans HO24.out (fun _ _ c => c))
  have HA4 := Lib.hid (HO24.out.heap HLA.out (fun c => c))
  clear HLA HO24 HO2 HI1 HI2 hLen HU HV
  rw [HPS.out] at HA4
  go_loopw [55] (fun i wr => ∃ k : Nat, k ≤ N ∧ i = .int .i64 (k : Int) ∧ wr.heap[gA]? = some (.cells (cCells (fillQ f (fun k => FA.getD k (0, 0)) N k)) 34) ∧ Off (fun j => j = gA) W4 wr) (fun i _ => N - (intOf i).toNat)
  case atStart => exact ⟨0, Nat.zero_le _, rfl, HA4.out, Off.refl _ _⟩
  case round =>
    obtain ⟨k, hk, rfl, hL, hO⟩ := hrel
    by_cases hkn : k < N
    · have hki : (k : Int) < (N : Int) := by omega
      have hwk : IntKind.i64.wrap ((k : Int) + 1) = (k : Int) + 1 := by rw [IntKind.wrap_i64]; omega
      obtain ⟨y, hy⟩ : ∃ y, FB[k]? = some y := ⟨_, List.getElem?_eq_getElem (by have := HlB.out; omega)⟩
      have ey : FB.getD k (0, 0) = y := by rw [List.getD_eq_getElem?_getD, hy]; rfl
      have mB := cell_c (hO.heap HLB.out (fun e => by have := HgA2.out; have := HGB.out; omega)) hy
      have mA := cell_c hL (fillQ_get f (fun k => FA.getD k (0, 0)) hkn)
      rw [if_neg (Nat.lt_irrefl _)] at mA
      obtain ⟨x, hx⟩ : ∃ x, x = FA.getD k (0, 0) := ⟨_, rfl⟩
      have q1 := some_getD (d := (0, 0)) (HMul.out k hkn)
      have q2 := HF.out k
      rw [← hx] at q1 q2 mA
      rw [ey] at q1 q2
      unfold cmulW at q2
      rw [← q2] at q1
      have E1 := fun (W : World) (t : TypeId) => run_complex_mul (P := Tryd.prog) W t x.1 x.2 y.1 y.2 (f k).1 (f k).2 q1
      have lt := heap_lt hL
      have fz : wr.frozen? ⟨gA, k, none⟩ = false := frozen_of_heap hL k
      have hst := com_store hL k (f k)
      rw [fillQ_set _ _ hkn] at hst
      have HST := Lib.hid hst
      have HO3 := Lib.hid (hO.trans (setCells_off gA [.complex .f64 (f k).1 (f k).2] k wr) (fun _ _ c => c) : Off (fun j => j = gA) W4 _)
      clear hL hO hst hy ey hx q1 q2
      go_wp2
      go_roundw
      case rel => exact ⟨k + 1, by omega, by simp, HST.out, HO3.out⟩
      case measure => simp [intOf] <;> omega
    · obtain rfl : N = k := by omega
      have hki : ¬ ((N : Nat) : Int) < (N : Int) := by omega
      rw [← HPL.out] at hL
      have hOw : Off (fun _ => False) w wr := HO.out.trans hO (fun j hj e => by have := HGA.out; omega)
      have hX := HInv.out (.slice (some ⟨gA, 0, none⟩) N N) wr (cs_blk (S := fun _ => True) hL HlP.out.symm (by omega) trivial) (HT.out.off hOw)
      have HOw := Lib.hid hOw
      have HX := Lib.hid hX
      have hsl := fun (a : Option Addr) (W : World) => slice_com a N N ln hfit W
      clear hL hO hOw hX
      go_wp2_with first | (go_at_call 17; refine HX.out.mono ?_; rintro r W5 ⟨gJ, rfl, hgJ, hLJ, hO5⟩; have HY := Lib.hid (HInts.out (.slice (some ⟨gJ, 0, none⟩) ln N) W5 (Cs.take (cs_blk (S := fun _ => True) hLJ HlI.out.symm (by omega) trivial) ln hfit)); have HO5 := Lib.hid hO5; clear hgJ hLJ hO5 HX) | (go_at_call 24; refine HY.out.mono ?_; rintro r W6 ⟨u, rfl, hu, hO6⟩; have HIu := Lib.hid hu; have HO6 := Lib.hid hO6; clear hu hO6) | fail
      refine bodyPost_ret (results_tmp2 rfl _ _ _) rfl ?_
      exact ⟨u, rfl, HIu.out, (HOw.out.trans HO5.out (fun _ _ c => c)).trans HO6.out (fun _ _ c => c)⟩
/-- Multiply answers as the plain product says. -/
theorem mult_any (la lb : List Int) (hok : mulE la lb = 0 → 0 < la.length → 0 < lb.length → MulOk (lenN (la.length + lb.length - 1 - 1)) la lb) (n1 n2 cap1 cap2 : Nat) (a1 a2 : Option Addr) (hn1 : n1 = la.length) (hn2 : n2 = lb.length) (w : World) (hV : Iv w (.slice a1 n1 cap1) la) (hU : Iv w (.slice a2 n2 cap2) lb) (hT : TabAt w) :
    Calls Tryd.prog 9 #[.slice a1 n1 cap1, .slice a2 n2 cap2] w fun e w' => ∃ u, e = .returned (.tuple #[u, .int .i64 (mulE la lb)]) ∧ Iv w' u (mulP la lb) ∧ Off (fun _ => False) w w' := by
  by_cases c1 : 64 < n1
  · have e : mulE la lb = 8 := by unfold mulE; rw [if_pos (by rw [← hn1]; exact .inl c1)]
    have eP : mulP la lb = [] := by unfold mulP; rw [e, if_pos (.inl (by decide))]
    rw [e, eP]
    have hb1 : decide ((64 : Int) < (n1 : Int)) = true := by simp; omega
    have hp1 : (64 : Int) < (n1 : Int) := by omega
    clear hok e eP hn1 hn2 hV hU hT c1
    go_enter Tryd.func9, Tryd.ntmps9
    go_wp2
    refine bodyPost_ret (results_tmp2 rfl _ _ _) rfl ?_
    exact ⟨.slice none 0 0, rfl, Iv.nil _, Off.refl _ w⟩
  have hb1 : decide ((64 : Int) < (n1 : Int)) = false := by simp; omega
  have hp1 : ¬ (64 : Int) < (n1 : Int) := by omega
  by_cases c2 : 64 < n2
  · have e : mulE la lb = 8 := by unfold mulE; rw [if_pos (by rw [← hn2]; exact .inr c2)]
    have eP : mulP la lb = [] := by unfold mulP; rw [e, if_pos (.inl (by decide))]
    rw [e, eP]
    have hb2 : decide ((64 : Int) < (n2 : Int)) = true := by simp; omega
    have hp2 : (64 : Int) < (n2 : Int) := by omega
    clear hok e eP hn1 hn2 hV hU hT c1 c2
    go_enter Tryd.func9, Tryd.ntmps9
    go_wp2
    refine bodyPost_ret (results_tmp2 rfl _ _ _) rfl ?_
    exact ⟨.slice none 0 0, rfl, Iv.nil _, Off.refl _ w⟩
  have hb2 : decide ((64 : Int) < (n2 : Int)) = false := by simp; omega
  have hp2 : ¬ (64 : Int) < (n2 : Int) := by omega
  have hE : ¬ (64 < la.length ∨ 64 < lb.length) := by rw [← hn1, ← hn2]; omega
  have hI1 := inrange_any la (.slice a1 n1 cap1) w hV
  have hI2 := inrange_any lb (.slice a2 n2 cap2) w hU
  by_cases o1 : oobC la = true
  · have e : mulE la lb = 19 := by unfold mulE; rw [if_neg hE, if_pos (.inl o1)]
    have eP : mulP la lb = [] := by unfold mulP; rw [e, if_pos (.inl (by decide))]
    rw [e, eP]
    rw [o1, show (!true) = false from rfl] at hI1
    clear hok e eP hn1 hn2 hV hU hT c1 c2 hI2 hE o1
    go_enter Tryd.func9, Tryd.ntmps9
    go_wp2_with first | (go_at_call_of 21 (Value.slice a1 n1 cap1); refine hI1.mono ?_; rintro r w' ⟨rfl, rfl⟩) | fail
    refine bodyPost_ret (results_tmp2 rfl _ _ _) rfl ?_
    exact ⟨.slice none 0 0, rfl, Iv.nil _, Off.refl _ w⟩
  rw [Bool.not_eq_true] at o1
  rw [o1, show (!false) = true from rfl] at hI1
  by_cases o2 : oobC lb = true
  · have e : mulE la lb = 19 := by unfold mulE; rw [if_neg hE, if_pos (.inr o2)]
    have eP : mulP la lb = [] := by unfold mulP; rw [e, if_pos (.inl (by decide))]
    rw [e, eP]
    rw [o2, show (!true) = false from rfl] at hI2
    clear hok e eP hn1 hn2 hV hU hT c1 c2 hE o1 o2
    go_enter Tryd.func9, Tryd.ntmps9
    go_wp2_with first | (go_at_call_of 21 (Value.slice a1 n1 cap1); refine hI1.mono ?_; rintro r w' ⟨rfl, rfl⟩) | (go_at_call_of 21 (Value.slice a2 n2 cap2); refine hI2.mono ?_; rintro r w' ⟨rfl, rfl⟩) | fail
    refine bodyPost_ret (results_tmp2 rfl _ _ _) rfl ?_
    exact ⟨.slice none 0 0, rfl, Iv.nil _, Off.refl _ w⟩
  rw [Bool.not_eq_true] at o2
  rw [o2, show (!false) = true from rfl] at hI2
  have e : mulE la lb = 0 := by unfold mulE; rw [if_neg hE, if_neg (by rw [o1, o2]; simp)]
  by_cases z1 : n1 = 0
  · have eP : mulP la lb = [] := by unfold mulP; rw [if_pos (.inr (.inl (by omega)))]
    rw [e, eP]
    subst z1
    clear hok e eP hn1 hn2 hV hU hT c1 c2 hE o1 o2
    go_enter Tryd.func9, Tryd.ntmps9
    go_wp2_with first | (go_at_call_of 21 (Value.slice a1 0 cap1); refine hI1.mono ?_; rintro r w' ⟨rfl, rfl⟩) | (go_at_call_of 21 (Value.slice a2 n2 cap2); refine hI2.mono ?_; rintro r w' ⟨rfl, rfl⟩) | fail
    refine bodyPost_ret (results_tmp2 rfl _ _ _) rfl ?_
    exact ⟨.slice none 0 0, rfl, Iv.nil _, Off.refl _ w⟩
  by_cases z2 : n2 = 0
  · have eP : mulP la lb = [] := by unfold mulP; rw [if_pos (.inr (.inr (by omega)))]
    rw [e, eP]
    subst z2
    have b3 : decide ((n1 : Int) = 0) = false := by simp; omega
    have g3 : ((n1 : Int) == 0) = false := by simp; omega
    clear hok e eP hn1 hn2 hV hU hT c1 c2 hE o1 o2
    go_enter Tryd.func9, Tryd.ntmps9
    go_wp2_with first | (go_at_call_of 21 (Value.slice a1 n1 cap1); refine hI1.mono ?_; rintro r w' ⟨rfl, rfl⟩) | (go_at_call_of 21 (Value.slice a2 0 cap2); refine hI2.mono ?_; rintro r w' ⟨rfl, rfl⟩) | fail
    refine bodyPost_ret (results_tmp2 rfl _ _ _) rfl ?_
    exact ⟨.slice none 0 0, rfl, Iv.nil _, Off.refl _ w⟩
  have eP : mulP la lb = cvL la lb := by unfold mulP; rw [if_neg (by rw [e, ← hn1, ← hn2]; simp; omega)]
  rw [eP]
  have hk := hok e (by omega) (by omega)
  rw [e]
  exact mult_main _ _ (n1 + n2 - 1) la lb n1 n2 hn1 hn2 (by omega) (by omega) (by omega) (by omega) rfl rfl (by rw [hn1, hn2]) o1 o2 hk a1 a2 cap1 cap2 w hV hU hT
end Go.Proofs.YtghacjhempmejaaDoor
