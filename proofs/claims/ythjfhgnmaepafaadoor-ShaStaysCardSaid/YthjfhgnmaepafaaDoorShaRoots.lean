/-
  The contract of the reference's root over this seat's translation. Condition: the radicand is at most 100000.
-/
import Derived.Test.YthjfhgnmaepafaaDoorShaRoot
namespace Go.Proofs.YthjfhgnmaepafaaDoor
open Go.RowKit
set_option maxRecDepth 100000
set_option maxHeartbeats 4000000
/-- One step of a root's bits. -/
theorem rootF_step (cube : Bool) (n k x : Nat) : rootF cube n (k + 1) x = rootF cube n k (if above cube (x + 2 ^ k) n then x else x + 2 ^ k) := rfl
theorem root_any (n : Nat) (cube : Bool) (hn : n ≤ 100000) (w : World) :
    Calls Tryd.prog 26 #[.int .u64 (n : Int), .bool cube] w fun e w' => e = .returned (u32v (rootN n cube)) ∧ w = w' := by
  have hC := cubeabove_any
  have hS := squareabove_any
  obtain ⟨R, hR⟩ : ∃ R, R = rootN n cube := ⟨_, rfl⟩
  rw [← hR]
  unfold rootN at hR
  have HR := Lib.hid hR
  clear hR
  go_enter Tryd.func26, Tryd.ntmps26
  go_wp2
  go_loop [5, 6] (fun x b => ∃ k y : Nat, k ≤ 37 ∧ x = .int .u64 (y : Int) ∧ b = .int .u64 ((2 ^ k / 2 : Nat) : Int) ∧ y + 2 ^ k ≤ 137438953472 ∧ Hid (R = rootF cube n k y % 4294967296)) (fun _ b => (intOf b).toNat)
  case atStart => exact ⟨37, 0, by omega, rfl, rfl, by decide, HR⟩
  case round =>
    obtain ⟨k, y, hk, rfl, rfl, hb, HI⟩ := hrel
    rcases k with _ | k
    · have i1 : decide (((2 ^ 0 / 2 : Nat) : Int) > 0) = false := by decide
      have HF := Lib.hid (show R = y % 4294967296 from HI.out)
      clear HI HR hC hS
      have hc : IntKind.u32.wrap ((y : Int) % 4294967296) = (y : Int) % 4294967296 := by rw [IntKind.wrap_u32]; omega
      go_wp2
      rw [HF.out]
      go_ret
      exact ⟨by simp, rfl⟩
    · have hpp : 2 ^ (k + 1) / 2 = 2 ^ k := by rw [Nat.pow_succ]; omega
      have hpk : 2 ^ k ≤ 2 ^ 36 := Nat.pow_le_pow_right (by decide) (by omega)
      have hp0 : 0 < 2 ^ k := Nat.two_pow_pos k
      rw [Nat.pow_succ] at hb
      rw [hpp]
      obtain ⟨p, hp⟩ : ∃ p, p = 2 ^ k := ⟨_, rfl⟩
      obtain ⟨z, hz⟩ : ∃ z, z = y + 2 ^ k := ⟨_, rfl⟩
      have hzp : z = y + p := by omega
      rw [← hp] at hpk hp0 hb ⊢
      obtain ⟨h, hh⟩ : ∃ h, h = p / 2 := ⟨_, rfl⟩
      have hp2 : 2 ^ k / 2 = h := by rw [hh, hp]
      have i1 : decide ((p : Int) > 0) = true := by simp; omega
      have i2 : (y : Int) + (p : Int) = (z : Int) := by omega
      have i3 : IntKind.u64.wrap (z : Int) = z := by rw [IntKind.wrap_u64]; omega
      have i4 : (p : Int) / 2 = (h : Int) := by omega
      have i5 : IntKind.u64.wrap (h : Int) = (h : Int) := by rw [IntKind.wrap_u64]; omega
      have hhp : h < p := by omega
      clear hpp hh
      obtain ⟨A, hA⟩ : ∃ A, A = above cube (y + 2 ^ k) n := ⟨_, rfl⟩
      have h1 := hA.symm
      clear hA
      cases cube <;> cases A
      · have hcall : Calls Tryd.prog 32 #[.int .u64 (z : Int), .int .u64 (n : Int)] w fun e w' => e = .returned (.bool false) ∧ w = w' := by have := hS z n (by omega) hn w; rw [hz, h1] at this; rw [hz]; exact this
        have HF := Lib.hid (show R = rootF false n k z % 4294967296 by rw [HI.out, rootF_step, h1]; first | rfl | (rw [hz]; rfl))
        clear HI HR hC hS h1 hz hzp
        have HP := Lib.hid hp
        have HP2 := Lib.hid hp2
        clear hp hp2
        go_wp2_with first | (go_at_call 32; refine hcall.mono ?_; rintro e w' ⟨rfl, rfl⟩) | fail
        go_round
        case rel => exact ⟨k, z, by omega, rfl, by rw [HP2.out], by rw [← HP.out]; omega, HF⟩
        case measure => simp [intOf] <;> omega
      · have hcall : Calls Tryd.prog 32 #[.int .u64 (z : Int), .int .u64 (n : Int)] w fun e w' => e = .returned (.bool true) ∧ w = w' := by have := hS z n (by omega) hn w; rw [hz, h1] at this; rw [hz]; exact this
        have HF := Lib.hid (show R = rootF false n k y % 4294967296 by rw [HI.out, rootF_step, h1]; first | rfl | (rw [hz]; rfl))
        clear HI HR hC hS h1 hz hzp
        have HP := Lib.hid hp
        have HP2 := Lib.hid hp2
        clear hp hp2
        go_wp2_with first | (go_at_call 32; refine hcall.mono ?_; rintro e w' ⟨rfl, rfl⟩) | fail
        go_round
        case rel => exact ⟨k, y, by omega, rfl, by rw [HP2.out], by rw [← HP.out]; omega, HF⟩
        case measure => simp [intOf] <;> omega
      · have hcall : Calls Tryd.prog 31 #[.int .u64 (z : Int), .int .u64 (n : Int)] w fun e w' => e = .returned (.bool false) ∧ w = w' := by have := hC z n (by omega) hn w; rw [hz, h1] at this; rw [hz]; exact this
        have HF := Lib.hid (show R = rootF true n k z % 4294967296 by rw [HI.out, rootF_step, h1]; first | rfl | (rw [hz]; rfl))
        clear HI HR hC hS h1 hz hzp
        have HP := Lib.hid hp
        have HP2 := Lib.hid hp2
        clear hp hp2
        go_wp2_with first | (go_at_call 31; refine hcall.mono ?_; rintro e w' ⟨rfl, rfl⟩) | fail
        go_round
        case rel => exact ⟨k, z, by omega, rfl, by rw [HP2.out], by rw [← HP.out]; omega, HF⟩
        case measure => simp [intOf] <;> omega
      · have hcall : Calls Tryd.prog 31 #[.int .u64 (z : Int), .int .u64 (n : Int)] w fun e w' => e = .returned (.bool true) ∧ w = w' := by have := hC z n (by omega) hn w; rw [hz, h1] at this; rw [hz]; exact this
        have HF := Lib.hid (show R = rootF true n k y % 4294967296 by rw [HI.out, rootF_step, h1]; first | rfl | (rw [hz]; rfl))
        clear HI HR hC hS h1 hz hzp
        have HP := Lib.hid hp
        have HP2 := Lib.hid hp2
        clear hp hp2
        go_wp2_with first | (go_at_call 31; refine hcall.mono ?_; rintro e w' ⟨rfl, rfl⟩) | fail
        go_round
        case rel => exact ⟨k, y, by omega, rfl, by rw [HP2.out], by rw [← HP.out]; omega, HF⟩
        case measure => simp [intOf] <;> omega
end Go.Proofs.YthjfhgnmaepafaaDoor
