/-
  Roots: the words of the table, in a block of the call's own, or nothing. Conditions: the tables of the coefficients are as they are laid.
-/
import Derived.Test.YtghacjhempmejaaDoorDftOwn
namespace Go.Proofs.YtghacjhempmejaaDoor
open Go.RowKit Ieee
set_option maxRecDepth 100000
set_option maxHeartbeats 4000000
attribute [local go_sem] run_store_com
def rootF (e k : Nat) : Nat × Nat := wW (k * pw (8 - e))
def rootsL (e : Nat) : List (Nat × Nat) := (List.range (pw e)).map (rootF e)
theorem pw_pos (e : Nat) : 0 < pw e := Nat.two_pow_pos e
theorem pw_le {e : Nat} (h : e < 9) : pw e ≤ 256 := Nat.pow_le_pow_right (n := 2) (i := e) (j := 8) (by omega) (by omega)
theorem isP_pw {e : Nat} (h : e < 9) : isP ((pw e : Nat) : Int) = true := isP_of h rfl
theorem roots_none (n : Int) (hn : isP n = false) (w : World) :
    Calls Tryd.prog 13 #[.int .i64 n] w fun e w' => e = .returned (.slice none 0 0) ∧ w = w' := by
  have hS := issize_any n
  rw [hn] at hS
  go_enter Tryd.func13, Tryd.ntmps13
  go_wp2_with first | (go_at_call 25; refine (hS _).mono ?_; rintro e w' ⟨rfl, rfl⟩) | fail
  go_ret
  exact ⟨rfl, rfl⟩
theorem roots_any (e : Nat) (he : e < 9) (w : World) (hT : TabAt w) :
    Calls Tryd.prog 13 #[.int .i64 ((pw e : Nat) : Int)] w fun r w' => ∃ g, r = .returned (.slice (some ⟨g, 0, none⟩) (pw e) (pw e)) ∧ w.heap.size ≤ g ∧ w'.heap[g]? = some (.cells (cCells (rootsL e)) 34) ∧ Off (fun _ => False) w w' := by
  have hS := issize_any ((pw e : Nat) : Int)
  rw [isP_pw he] at hS
  have hR := fun k hk W hW => root_any e k he hk W hW
  have hn8 := pw_le he
  have hmk := run_make_com (pw e) (by omega)
  obtain ⟨n, hn⟩ : ∃ n, n = pw e := ⟨_, rfl⟩
  have HN := Lib.hid hn
  rw [show rootsL e = fillQ (rootF e) zeroC n n by rw [fillQ_full, hn]; rfl]
  rw [← hn] at hS hR hn8 hmk ⊢
  clear hn
  obtain ⟨W1, hW1⟩ : ∃ W1, W1 = w.alloc (.cells (Array.replicate n (Value.complex .f64 0 0)) 34) := ⟨_, rfl⟩
  obtain ⟨g, hg⟩ : ∃ g, g = w.heap.size := ⟨_, rfl⟩
  have h1 : W1.heap[g]? = some (.cells (cCells (fillQ (rootF e) zeroC n 0)) 34) := by
    rw [fillQ_start, hW1, hg]; exact zeros_new
  have o1 : Off (fun _ => False) w W1 := by rw [hW1]; exact (Off.refl _ w).alloc _
  have HG := Lib.hid h1
  have HO1 := Lib.hid o1
  have HW1 := Lib.hid hW1
  have Hg := Lib.hid hg
  have HT := Lib.hid hT
  have HR := Lib.hid hR
  clear h1 o1 hW1 hg hT hR
  go_enter Tryd.func13, Tryd.ntmps13
  go_wp2_with first | (go_at_call 25; refine (hS _).mono ?_; rintro e w' ⟨rfl, rfl⟩) | fail
  rw [← HW1.out, ← Hg.out]
  clear hmk hS
  go_loopw [12] (fun i wr => ∃ k : Nat, k ≤ n ∧ i = .int .i64 (k : Int) ∧ wr.heap[g]? = some (.cells (cCells (fillQ (rootF e) zeroC n k)) 34) ∧ Off (fun _ => False) w wr) (fun i _ => n - (intOf i).toNat)
  case atStart => exact ⟨0, Nat.zero_le _, rfl, HG.out, HO1.out⟩
  case round =>
    obtain ⟨k, hk, rfl, hL, hO⟩ := hrel
    by_cases hkn : k < n
    · have hki : (k : Int) < (n : Int) := by omega
      have hwk : IntKind.i64.wrap ((k : Int) + 1) = (k : Int) + 1 := by rw [IntKind.wrap_i64]; omega
      have hC := Lib.hid (HR.out k hkn wr (HT.out.off hO))
      have m0 := cell_c hL (fillQ_get (rootF e) zeroC hkn)
      rw [if_neg (Nat.lt_irrefl _)] at m0
      have lt := heap_lt hL
      have fz : wr.frozen? ⟨g, k, none⟩ = false := frozen_of_heap hL k
      have hst := com_store hL k (rootF e k)
      rw [fillQ_set _ _ hkn] at hst
      have hO3 : Off (fun _ => False) w (wr.setCells g k [.complex .f64 (rootF e k).1 (rootF e k).2]) := hO.trans (setCells_off g _ k wr) (fun j hj e => by have := Hg.out; omega)
      have HST := Lib.hid hst
      have HO3 := Lib.hid hO3
      clear hL hO hst hO3
      go_wp2_with first | (go_at_call 26; refine hC.out.mono ?_; rintro e w' ⟨rfl, rfl⟩) | fail
      exact ⟨⟨k + 1, by omega, by simp, HST.out, HO3.out⟩, by simp [intOf] <;> omega⟩
    · obtain rfl : n = k := by omega
      have hki : ¬ ((n : Nat) : Int) < (n : Int) := by omega
      have HL2 := Lib.hid hL
      have HO2 := Lib.hid hO
      clear hL hO
      go_wp2
      go_ret
      exact ⟨g, rfl, Nat.le_of_eq Hg.out.symm, HL2.out, HO2.out⟩
end Go.Proofs.YtghacjhempmejaaDoor
