/-
  Contracts of package bytecode over this seat's translation, words: bytesOf and the closure of numberOf. Conditions: as each says.
-/
import Derived.Test.YtpiialjnjfkfeaaDoorBytMem
namespace Go.Proofs.YtpiialjnjfkfeaaDoor
open Go.RowKit
set_option maxRecDepth 100000 in
theorem slice32 (g i : Nat) (hi : i < 4) (W : World) : (Instr.sliceAt 89 (.pointer (some ⟨g, 0, none⟩)) (some (.int .i64 ((i : Int) * 8))) (some (.int .i64 (((i : Int) + 1) * 8))) none).run Tryd.prog W = .ok (.slice (some ⟨g, 8 * i, none⟩) 8 (32 - 8 * i)) W := by
  have e : i = 0 ∨ i = 1 ∨ i = 2 ∨ i = 3 := by omega
  rcases e with rfl | rfl | rfl | rfl <;> rfl
set_option maxRecDepth 100000 in
set_option maxHeartbeats 4000000 in
theorem wordat_any (i g : Nat) (hi : i < 4) (all : List Nat) (hs : Small all) (hl : all.length = 32) (w : World) (hG : ByBlk w g 89 all) :
    Calls Tryd.prog 45 #[.int .i64 (i : Int), .pointer (some ⟨g, 0, none⟩)] w fun e w' => e = .returned (.int .u64 (wd (numB all) i : Int)) ∧ Off (fun _ => False) w w' := by
  have hc := fun (j : Nat) (h : j < 32) => hG.cell (j := j) (x := all[j]'(by omega)) (List.getElem?_eq_getElem _)
  have hsl := slice32 g i hi
  clear hG
  go_enter Tryd.func45, Tryd.ntmps45
  go_wp2
  go_loop [4, 14] (fun u i' => ∃ k : Nat, k ≤ 8 ∧ i' = .int .i64 k ∧ u = .int .u64 (numB ((all.drop (8 * i)).take k) : Int)) (fun _ i' => 8 - (intOf i').toNat)
  case atStart => exact ⟨0, by omega, rfl, by simp [numB]⟩
  case round =>
    obtain ⟨k, hk, rfl, rfl⟩ := hrel
    by_cases hlt : k < 8
    · have i1 : decide ((k : Int) < 8) = true := by simp; omega
      have i2 : (k : Int) < 8 := by omega
      have cb := hc (8 * i + k) (by omega)
      have hx : (all.drop (8 * i))[k]? = some (all[8 * i + k]'(by omega)) := by rw [List.getElem?_drop, List.getElem?_eq_getElem (by omega)]
      have hcl : all[8 * i + k]'(by omega) < 256 := hs _ (List.getElem_mem _)
      obtain ⟨c, hcx⟩ : ∃ c, c = all[8 * i + k]'(by omega) := ⟨_, rfl⟩
      rw [← hcx] at cb hx hcl
      have hu := numB_lt ((hs.drop (8 * i)).take k)
      rw [List.length_take, List.length_drop, hl, Nat.min_eq_left (by omega)] at hu
      have HT := Lib.hid ((or_byte hu hcl hlt).trans (congrArg Nat.cast (numB_take _ _ _ hx).symm))
      clear hc hx hcl hcx hu
      go_wp2
      go_round
      case rel => exact ⟨k + 1, by omega, by go_num, by rw [HT.out]⟩
      case measure => simp [intOf]; omega
    · obtain rfl : k = 8 := by omega
      have HW := Lib.hid (wd_numB hs i (by omega))
      rw [wd_numB hs i (by omega)]
      clear hc
      go_wp2
      go_ret
      exact ⟨rfl, Off.refl _ _⟩
end Go.Proofs.YtpiialjnjfkfeaaDoor
