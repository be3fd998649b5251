/-
  Contracts of limb.IsZero, limb.Equal, limb.Less, limb.Choose and the reference's Less over this seat's translation: the masks of their conditions, and one of two numbers. Conditions: the arguments are numbers of four words.
-/
import Derived.Test.YtmokaikofcbboaaDoorLimbRef
import Derived.Test.YtmokaikofcbboaaDoorMaskBase
namespace Go.Proofs.YtmokaikofcbboaaDoor
open Go.RowKit

/-- Whether a number is 0, whether two numbers are equal, whether the first is less. -/
def zeroN (a : Nat) : Bool := decide (a = 0)
def eqN (a b : Nat) : Bool := decide (a = b)
def lessN (a b : Nat) : Bool := decide (a < b)

theorem wd_zero_all {a : Nat} (ha : a < R256) : zeroB [(wd a 0 : Int), (wd a 1 : Int), (wd a 2 : Int), (wd a 3 : Int)] = zeroN a := by
  have h := num4_wd ha
  unfold zeroB zeroN
  rw [Bool.eq_iff_iff]
  simp only [List.all_cons, List.all_nil, Bool.and_true, Bool.and_eq_true, decide_eq_true_eq]
  unfold num4 at h
  constructor
  · rintro ⟨h0, h1, h2, h3⟩
    have e0 : wd a 0 = 0 := by omega
    have e1 : wd a 1 = 0 := by omega
    have e2 : wd a 2 = 0 := by omega
    have e3 : wd a 3 = 0 := by omega
    rw [← h, e0, e1, e2, e3]; simp
  · intro e
    subst e
    refine ⟨?_, ?_, ?_, ?_⟩ <;> simp [wd, dg]
theorem NumAt.words {w : World} {b n : Nat} (h : NumAt w b n) : Words w (.slice (some ⟨b, 0, none⟩) 4 4) [(wd n 0 : Int), (wd n 1 : Int), (wd n 2 : Int), (wd n 3 : Int)] := by
  refine ⟨_, _, rfl, by simp, ?_, fun _ => ⟨_, _, rfl, ?_⟩⟩
  · intro x hx
    simp at hx
    rcases hx with rfl | rfl | rfl | rfl <;> exact wd_word _ _
  · intro j hj
    have : j = 0 ∨ j = 1 ∨ j = 2 ∨ j = 3 := by simp at hj; omega
    rw [Nat.zero_add]
    rcases this with rfl | rfl | rfl | rfl <;> exact h.cell _ (by omega)

theorem zero_sub {a b : Nat} (ha : a < R256) (hb : b < R256) : zeroN (subV a b % R256) = eqN a b := by
  unfold zeroN eqN subV R256 W64 at *
  simp only [Nat.reducePow] at *
  rw [Bool.eq_iff_iff]
  simp only [decide_eq_true_eq]
  omega
theorem odd_ltN (a b : Nat) : oddB (ltN a b : Int) = lessN a b := by
  unfold oddB ltN lessN; by_cases h : a < b <;> simp [h]
theorem ltN_word (a b : Nat) : Word (ltN a b : Int) := by unfold ltN; split <;> exact ⟨by omega, by omega⟩
theorem r256_pos : 0 < R256 := by decide

set_option maxHeartbeats 1000000 in
theorem limb_less (a b : Nat) (ha : a < R256) (hb : b < R256) (w : World) :
    Calls Tryd.prog 40 #[V a, V b] w fun e w' => e = .returned (.int .u64 (mk (lessN a b))) ∧ Off (fun _ => False) w w' := by
  have HZ := Lib.hid (odd_ltN a b)
  have HS := Lib.hid (fun W => sub_any a b ha hb W)
  have hw := ltN_word a b
  obtain ⟨c, hc⟩ : ∃ c, c = ltN a b := ⟨_, rfl⟩
  rw [← hc] at HZ HS hw
  clear ha hb hc
  go_enter Tryd.func40, Tryd.ntmps40
  go_wp2_with fail
  refine (HS.out _).mono ?_
  rintro e w1 ⟨rfl, hO⟩
  have HO := Lib.hid hO
  clear hO
  go_wp2_with fail
  refine (frombit_any _ hw _).mono ?_
  rintro e w2 ⟨rfl, rfl⟩
  go_wp2
  go_ret
  refine ⟨ret_u64 (by rw [HZ.out]), ?_⟩
  exact ((((Off.refl _ w).alloc _).alloc _).trans HO.out (fun _ _ c => c)).alloc _
/-- One of two numbers by the lowest bit of m. -/
def selN (m : Int) (a b : Nat) : Nat := if oddB m then a else b
theorem sel_word (m : Int) (a b k : Nat) : chooseV (mk (oddB m)) (wd a k : Int) (wd b k : Int) = (wd (selN m a b) k : Int) := by
  rw [chooseV_mk _ (wd_word a k) (wd_word b k)]; unfold selN; split <;> rfl
end Go.Proofs.YtmokaikofcbboaaDoor
