/-
  Contracts of the methods Contains and Subtract of a field (package sharecore/field) over this seat's translation. Conditions: the numbers lie below 2^256; the word is a word.
-/
import Derived.Test.YtpiialjnjfkfeaaDoorModGet
import Derived.Test.YtpiialjnjfkfeaaDoorLimbOpen
namespace Go.Proofs.YtpiialjnjfkfeaaDoor
open Go.RowKit

attribute [local go_sem ↓] Go.wp_at_zero Go.wp_at_succ
/-- The word that chooses: 1 exactly if the number is less and the carry even. -/
theorem andnot_facts (a p : Nat) (c : Int) (hc : Word c) : Word (bits .andNot .u64 (ltN a p : Int) c) ∧ oddB (bits .andNot .u64 (ltN a p : Int) c) = decide (c % 2 = 0 ∧ a < p) := by
  have hc' : 0 ≤ c ∧ c < 18446744073709551616 := ⟨hc.1, by have := hc.2; omega⟩
  have h1 : ltN a p = 0 ∨ ltN a p = 1 := by unfold ltN; split <;> simp
  rw [u64_andNot (ltN a p : Int) c (by omega) (by omega) hc'.1 hc'.2]
  obtain ⟨k, rfl⟩ := Int.eq_ofNat_of_zero_le hc'.1
  have hk : k < 18446744073709551616 := by omega
  by_cases h : a < p
  · have e : ltN a p = 1 := by unfold ltN; rw [if_pos h]
    rw [e]
    have e2 : ((1 : Nat) : Int).toNat &&& (18446744073709551615 - (k : Int).toNat) = (18446744073709551615 - k) % 2 := by
      simp [Nat.one_and_eq_mod_two]
    rw [e2]
    refine ⟨⟨by omega, by omega⟩, ?_⟩
    unfold oddB
    rw [Bool.eq_iff_iff]
    simp only [decide_eq_true_eq]
    omega
  · have e : ltN a p = 0 := by unfold ltN; rw [if_neg h]
    rw [e]
    simp [oddB, h, Word]
set_option maxRecDepth 100000 in
set_option maxHeartbeats 1000000 in
theorem subtract_any (id : Int) (p i r s a : Nat) (c : Int) (hp : p < R256) (ha : a < R256) (hc : Word c) (w : World) :
    Calls Tryd.prog 47 #[FV id p i r s, V a, .int .u64 c] w fun e w' => e = .returned (V (redV p a c)) ∧ Off (fun _ => False) w w' := by
  obtain ⟨hb, ho⟩ := andnot_facts a p c hc
  have HS := Lib.hid (fun W => sub_any a p ha hp W)
  have HC := fun W => limb_choose (bits .andNot .u64 (ltN a p : Int) c) hb a (subV a p) W
  have e : selN (bits .andNot .u64 (ltN a p : Int) c) a (subV a p) = redV p a c := by
    unfold selN redV; rw [ho]; by_cases h : c % 2 = 0 ∧ a < p <;> simp [h]
  rw [e] at HC
  have HC := Lib.hid HC
  obtain ⟨l, hl⟩ : ∃ l, l = ltN a p := ⟨_, rfl⟩
  obtain ⟨d, hd⟩ : ∃ d, d = subV a p := ⟨_, rfl⟩
  obtain ⟨x, hx⟩ : ∃ x, x = redV p a c := ⟨_, rfl⟩
  rw [← hl, ← hd, ← hx] at HC
  rw [← hl, ← hd] at HS
  rw [← hx]
  clear hb ho e hl hd hx ha hp hc
  go_enter Tryd.func47, Tryd.ntmps47
  go_wp2_with fail
  refine (HS.out _).mono ?_
  rintro e w1 ⟨rfl, hO⟩
  have hA : NumAt w1 (w.heap.size + 1) a := hO.heap (heap_old' (heap_new' (by simp) _) _) (fun c => c)
  have hR : PartAt w1 (w.heap.size + 1 + 1) 0 0 := hO.heap (heap_new' (by simp) _) (fun c => c)
  have la := heap_lt hR.old
  have lp := hA.lt
  obtain ⟨a0, a1, a2, a3⟩ := hA.four
  have HR := Lib.hid hR
  have HO := Lib.hid ((((((Off.refl _ w).alloc _).alloc _).alloc _)).trans hO (fun _ _ c => c))
  clear hO hA hR
  go_wp2_with fail
  refine (HC.out _).mono ?_
  rintro e w2 ⟨rfl, hO2⟩
  have hR2 : PartAt w2 (w.heap.size + 1 + 1) 0 0 := hO2.heap (heap_old' HR.out _) (fun c => c)
  obtain ⟨⟨r0, r1, r2, r3⟩, fz⟩ := hR2.four
  have HO2 := Lib.hid ((HO.out.alloc _).trans hO2 (fun _ _ c => c))
  clear hR2 hO2 HR
  go_wp2
  refine bodyPost_ret (v := V x) (by simp [results, Tryd.results47, go_sem, r0, r1, r2, r3]) rfl ⟨rfl, ?_⟩
  exact off4 HO2.out (by omega) _ _ _ _
end Go.Proofs.YtpiialjnjfkfeaaDoor
