/-
  Transform and Inverse: the words that they give, or nothing. Conditions: the tables of the coefficients are as they are laid; no step fails (okF, okI).
-/
import Derived.Test.YtghacjhempmejaaDoorDftTrans
namespace Go.Proofs.YtghacjhempmejaaDoor
open Go.RowKit Ieee
set_option maxRecDepth 100000
set_option linter.unusedVariables false
set_option maxHeartbeats 4000000
attribute [local go_sem] run_store_com
theorem size_none (n : Nat) (hn : isP (n : Int) = false) (a : Option Addr) (cap : Nat) (w : World) :
    Calls Tryd.prog 18 #[.slice a n cap] w fun e w' => e = .returned (.slice none 0 0) ∧ w = w' := by
  have hS := issize_any (n : Int)
  rw [hn] at hS
  clear hn
  go_enter Tryd.func18, Tryd.ntmps18
  go_wp2_with first | (go_at_call 25; refine (hS _).mono ?_; rintro e w' ⟨rfl, rfl⟩) | fail
  go_ret
  exact ⟨rfl, rfl⟩
theorem trans_any (e : Nat) (he : e < 9) (L : List (Nat × Nat)) (hL : L.length = pw e) (hok : okF e L) (v : Value) (w : World) (hV : Cs w v L) (hT : TabAt w) :
    Calls Tryd.prog 18 #[v] w fun r w' => MadeC w r w' (pw e) (fftW e L) := by
  obtain ⟨a, cap, rfl, _⟩ := id hV
  rw [hL] at hV ⊢
  have hS := issize_any ((pw e : Nat) : Int)
  rw [isP_pw he] at hS
  have hR := roots_any e he w hT
  have hX := Lib.hid (fun vr W c1 c2 => transform_any e he e (Nat.le_refl _) L hL hok (.slice a (pw e) cap) vr W c1 c2)
  have hrl : (rootsL e).length = pw e := by unfold rootsL; simp
  have HRL := Lib.hid hrl
  obtain ⟨n, hn⟩ : ∃ n, n = pw e := ⟨_, rfl⟩
  have HN8 := Lib.hid (show n ≤ 1000 by have := pw_le he; omega)
  rw [← hn] at hV hS hR hX HRL ⊢
  have HV := Lib.hid hV
  clear hV hL hok hn hrl hT he
  go_enter Tryd.func18, Tryd.ntmps18
  go_wp2_with first | (go_at_call 25; refine (hS _).mono ?_; rintro e w' ⟨rfl, rfl⟩) | (go_at_call 13; refine hR.mono ?_; rintro e w1 ⟨g, rfl, hg, hL1, hO1⟩; have HX := Lib.hid (hX.out _ w1 (Cs.off HV.out hO1) (cs_blk (S := fun _ => True) hL1 HRL.out.symm HN8.out trivial)); have HO1 := Lib.hid hO1; clear hg hL1 hO1 hX) | (go_at_call 27; refine HX.out.mono ?_; rintro e w2 ⟨g2, rfl, hg2, hL2, hO2⟩; have HL2 := Lib.hid hL2; have HO2 := Lib.hid hO2; have HG2 := Lib.hid hg2; clear hL2 hO2 hg2 HX) | fail
  go_ret
  exact ⟨g2, rfl, Nat.le_trans HO1.out.size HG2.out, HL2.out, HO1.out.trans HO2.out (fun _ _ c => c)⟩
def invF (e : Nat) (M : List (Nat × Nat)) (k : Nat) : Nat × Nat :=
  ((floatBits .quo .f64 (M.getD ((pw e - k) % pw e) (0, 0)).1 (floatOfInt .f64 ((pw e : Nat) : Int))).getD 0, (floatBits .quo .f64 (M.getD ((pw e - k) % pw e) (0, 0)).2 (floatOfInt .f64 ((pw e : Nat) : Int))).getD 0)
def okI (e : Nat) (M : List (Nat × Nat)) : Prop := ∀ k, k < pw e → (floatBits .quo .f64 (M.getD k (0, 0)).1 (floatOfInt .f64 ((pw e : Nat) : Int))).isSome = true ∧ (floatBits .quo .f64 (M.getD k (0, 0)).2 (floatOfInt .f64 ((pw e : Nat) : Int))).isSome = true
def invL (e : Nat) (L : List (Nat × Nat)) : List (Nat × Nat) := (List.range (pw e)).map (invF e (fftW e L))
theorem inverse_none (n : Nat) (hn : isP (n : Int) = false) (a : Option Addr) (cap : Nat) (w : World) :
    Calls Tryd.prog 17 #[.slice a n cap] w fun e w' => ∃ b c, e = .returned (.slice b 0 c) ∧ Off (fun _ => False) w w' := by
  have hX := size_none n hn a cap w
  have hmk : ∀ W, (Instr.makeSlice 30 (.int .i64 0) (.int .i64 0)).run Tryd.prog W = .ok (.slice (some ⟨W.heap.size, 0, none⟩) 0 0) (W.alloc (.cells #[] 34)) := run_make_com 0 (by omega)
  clear hn
  have HO := Lib.hid (show Off (fun _ => False) w (w.alloc (.cells (Array.replicate 0 (Value.complex .f64 0 0)) 34)) from (Off.refl _ w).alloc _)
  go_enter Tryd.func17, Tryd.ntmps17
  go_wp2_with first | (go_at_call 18; refine hX.mono ?_; rintro e w' ⟨rfl, rfl⟩) | fail
  have hz : ¬ (0 : Int) < 0 := by omega
  go_loopw [17] (fun i wr => i = .int .i64 0 ∧ Off (fun _ => False) w wr) (fun i _ => 0)
  case atStart => exact ⟨rfl, HO.out⟩
  case round =>
    obtain ⟨rfl, hO⟩ := hrel
    go_wp2
    go_ret
    exact ⟨⟨_, _, rfl⟩, hO⟩
theorem inverse_any (e : Nat) (he : e < 9) (L : List (Nat × Nat)) (hL : L.length = pw e) (hok : okF e L) (hoi : okI e (fftW e L)) (v : Value) (w : World) (hV : Cs w v L) (hT : TabAt w) :
    Calls Tryd.prog 17 #[v] w fun r w' => MadeC w r w' (pw e) (invL e L) := by
  have hX := trans_any e he L hL hok v w hV hT
  obtain ⟨a, cap, rfl, _⟩ := hV
  have hn8 := pw_le he
  have hn0 := pw_pos e
  have hlen := fftW_len e L hL
  have hmk := run_make_com (pw e) (by omega)
  rw [hL] at hX ⊢
  rw [show invL e L = fillQ (invF e (fftW e L)) zeroC (pw e) (pw e) by rw [fillQ_full]; rfl]
  have HF := Lib.hid (show ∀ k, k < pw e → floatBits .quo .f64 ((fftW e L).getD ((pw e - k) % pw e) (0, 0)).1 (floatOfInt .f64 ((pw e : Nat) : Int)) = some (invF e (fftW e L) k).1 ∧ floatBits .quo .f64 ((fftW e L).getD ((pw e - k) % pw e) (0, 0)).2 (floatOfInt .f64 ((pw e : Nat) : Int)) = some (invF e (fftW e L) k).2 from fun k hk => by
    obtain ⟨h1, h2⟩ := hoi ((pw e - k) % pw e) (Nat.mod_lt _ hn0)
    exact ⟨some_getD h1, some_getD h2⟩)
  obtain ⟨f, hf⟩ : ∃ f, f = invF e (fftW e L) := ⟨_, rfl⟩
  obtain ⟨M, hM⟩ : ∃ M, M = fftW e L := ⟨_, rfl⟩
  rw [← hf] at HF ⊢
  rw [← hM] at HF hX hlen
  obtain ⟨n, hn⟩ : ∃ n, n = pw e := ⟨_, rfl⟩
  rw [← hn] at HF hX hmk hn8 hn0 hlen ⊢
  have HLEN := Lib.hid hlen
  clear hL hok hoi hT hf hM hn hlen he
  go_enter Tryd.func17, Tryd.ntmps17
  go_wp2_with first | (go_at_call 18; refine hX.mono ?_; rintro r w1 ⟨g1, rfl, hg1, hL1, hO1⟩; have HG1 := Lib.hid hg1; have HL1 := Lib.hid hL1; have HO1 := Lib.hid hO1; clear hg1 hL1 hO1 hX) | fail
  obtain ⟨W4, hW4⟩ : ∃ W4, W4 = w1.alloc (.cells (Array.replicate n (Value.complex .f64 0 0)) 34) := ⟨_, rfl⟩
  obtain ⟨g, hg⟩ : ∃ g, g = w1.heap.size := ⟨_, rfl⟩
  have H4 := Lib.hid (show W4.heap[g]? = some (.cells (cCells (fillQ f zeroC n 0)) 34) by rw [fillQ_start, hW4, hg]; exact zeros_new)
  have O4 := Lib.hid (show Off (fun _ => False) w1 W4 by rw [hW4]; exact (Off.refl _ w1).alloc _)
  rw [← hW4, ← hg]
  have Hg := Lib.hid hg
  have HgL := Lib.hid (heap_lt HL1.out)
  have HSZ := Lib.hid HO1.out.size
  clear hW4 hg hmk
  go_loopw [17] (fun i wr => ∃ k : Nat, k ≤ n ∧ i = .int .i64 (k : Int) ∧ wr.heap[g]? = some (.cells (cCells (fillQ f zeroC n k)) 34) ∧ Off (fun j => j = g) W4 wr) (fun i _ => n - (intOf i).toNat)
  case atStart => exact ⟨0, Nat.zero_le _, rfl, H4.out, Off.refl _ _⟩
  case round =>
    obtain ⟨k, hk, rfl, hL, hO⟩ := hrel
    by_cases hkn : k < n
    · have hki : (k : Int) < (n : Int) := by omega
      obtain ⟨q1, q2⟩ := HF.out k hkn
      obtain ⟨q, hq⟩ : ∃ q, q = (n - k) % n := ⟨_, rfl⟩
      have hqn : q < n := by rw [hq]; exact Nat.mod_lt _ hn0
      have hqi : (q : Int) < (n : Int) := by omega
      have hmod : ((n : Int) - (k : Int)).tmod (n : Int) = (q : Int) := by
        rw [show (n : Int) - (k : Int) = ((n - k : Nat) : Int) by omega, hq]
        exact Int.tmod_eq_emod_of_nonneg (by omega)
      rw [← hq] at q1 q2
      obtain ⟨y, hy⟩ : ∃ y, M[q]? = some y := ⟨_, List.getElem?_eq_getElem (by have := HLEN.out; omega)⟩
      have ey : M.getD q (0, 0) = y := by rw [List.getD_eq_getElem?_getD, hy]; rfl
      rw [ey] at q1 q2
      have hO3 : Off (fun j => j = g) w1 wr := (O4.out.mono (fun _ _ c => c.elim)).trans hO (fun _ _ c => c)
      have mA := cell_c (hO3.heap HL1.out (fun e => by have := HgL.out; have := Hg.out; omega)) hy
      have hwk : IntKind.i64.wrap ((k : Int) + 1) = (k : Int) + 1 := by rw [IntKind.wrap_i64]; omega
      have hws : IntKind.i64.wrap ((n : Int) - (k : Int)) = (n : Int) - (k : Int) := by rw [IntKind.wrap_i64]; omega
      have hwq : IntKind.i64.wrap (q : Int) = (q : Int) := by rw [IntKind.wrap_i64]; omega
      have E1 := fun (W : World) (t : TypeId) => run_float_arith (P := Tryd.prog) W .quo t .f64 _ _ _ q1
      have E2 := fun (W : World) (t : TypeId) => run_float_arith (P := Tryd.prog) W .quo t .f64 _ _ _ q2
      have m1 := cell_c hL (fillQ_get f zeroC hkn)
      have f1 : wr.frozen? ⟨g, k, none⟩ = false := frozen_of_heap hL k
      have hL2 := com_store hL k (f k)
      rw [fillQ_set _ _ hkn] at hL2
      have HL3 := Lib.hid hL2
      have HO3 := Lib.hid (hO.trans (setCells_off g [.complex .f64 (f k).1 (f k).2] k wr) (fun _ _ c => c) : Off (fun j => j = g) W4 _)
      have lt := heap_lt hL
      have hkn0 : ¬ (n : Int) = 0 := by omega
      clear hL hO hO3 hy hL2 hq ey q1 q2
      go_wp2
      go_roundw
      case rel => exact ⟨k + 1, by omega, by simp, HL3.out, HO3.out⟩
      case measure => simp [intOf] <;> omega
    · obtain rfl : n = k := by omega
      have hki : ¬ ((n : Nat) : Int) < (n : Int) := by omega
      have HL3 := Lib.hid hL
      have HO3 := Lib.hid (HO1.out.trans (((O4.out.mono (fun _ _ c => c.elim)).trans hO (fun _ _ c => c)) : Off (fun j => j = g) w1 wr) (fun j hj e => by have := Hg.out; have := HSZ.out; omega))
      clear hL hO
      go_wp2
      go_ret
      exact ⟨g, rfl, by have := Hg.out; have := HSZ.out; omega, HL3.out, HO3.out⟩
end Go.Proofs.YtghacjhempmejaaDoor
