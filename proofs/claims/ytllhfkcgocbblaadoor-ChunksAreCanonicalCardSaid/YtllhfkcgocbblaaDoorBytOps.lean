/-
  Contracts of package bytecode over this seat's translation, words: bytesOf and the closure of numberOf. Conditions: as each says.
-/
import Derived.Test.YtllhfkcgocbblaaDoorBytMem
namespace Go.Proofs.YtllhfkcgocbblaaDoor
open Go.RowKit
/-- What the loop of bytesOf keeps. -/
structure BofAt (w wr : World) (n k : Nat) : Prop where
  ret : ByBlk wr w.heap.size 90 (List.replicate 8 0)
  buf : ByBlk wr (w.heap.size + 1) 90 (bytesN n k ++ List.replicate (8 - k) 0)
  off : Off (fun _ => False) w wr
theorem BofAt.step {w wr : World} {n k : Nat} (h : BofAt w wr n k) (hk : k < 8) : BofAt w (wr.setCell ⟨w.heap.size + 1, k, none⟩ (u8v (by8 n k))) n (k + 1) := by
  refine ⟨(Below.heap_setCell _ _ _ _ (show w.heap.size ≠ w.heap.size + 1 by omega)).trans h.ret, ?_, h.off.setCell (fun c => by simp at c; omega) _⟩
  have := h.buf.store k (by8 n k)
  have e : (bytesN n k ++ List.replicate (8 - k) 0).set k (by8 n k) = bytesN n (k + 1) ++ List.replicate (8 - (k + 1)) 0 := by
    rw [List.set_append_right _ _ (by rw [bytesN_length]; exact Nat.le_refl _), bytesN_length, Nat.sub_self, bytesN_succ, show 8 - k = 8 - (k + 1) + 1 by omega, List.replicate_succ, List.set_cons_zero, List.append_assoc]
    rfl
  rwa [e] at this
set_option maxRecDepth 100000 in
set_option maxHeartbeats 4000000 in
theorem bytesof_any (n : Nat) (w : World) : Calls Tryd.prog 52 #[.int .u64 (n : Int)] w fun e w' => e = .returned (.agg #[u8v (by8 n 0), u8v (by8 n 1), u8v (by8 n 2), u8v (by8 n 3), u8v (by8 n 4), u8v (by8 n 5), u8v (by8 n 6), u8v (by8 n 7)]) ∧ Off (fun _ => False) w w' := by
  go_enter Tryd.func52, Tryd.ntmps52
  go_wp2
  go_loopw [5] (fun i wr => ∃ k : Nat, k ≤ 8 ∧ i = .int .i64 k ∧ BofAt w wr n k) (fun i _ => 8 - (intOf i).toNat)
  case atStart => exact ⟨0, by omega, rfl, ⟨heap_old' (heap_new' rfl _) _, heap_new' (by simp) _, ((Off.refl _ w).alloc _).alloc _⟩⟩
  case round =>
    obtain ⟨k, hk, rfl, hA⟩ := hrel
    by_cases hlt : k < 8
    · have i1 : decide ((k : Int) < 8) = true := by simp; omega
      have i2 : (k : Int) < 8 := by omega
      have cb := hA.buf.cell (j := k) (x := 0) (by rw [List.getElem?_append_right (by rw [bytesN_length]; exact Nat.le_refl _), bytesN_length, Nat.sub_self]; rw [show 8 - k = 8 - (k + 1) + 1 by omega]; rfl)
      have fz := hA.buf.frozen k
      have lt := hA.buf.lt
      have HS := Lib.hid (hA.step hlt)
      have HV := Lib.hid (show (n : Int) / 2 ^ (8 * k) % 256 = (by8 n k : Int) by unfold by8 dg; rw [show 256 ^ k = 2 ^ (8 * k) by rw [Nat.pow_mul]]; norm_cast)
      clear hA
      go_wp2
      go_roundw
      case rel => exact ⟨k + 1, by omega, by go_num, by rw [HV.out]; exact HS.out⟩
      case measure => simp [intOf]; omega
    · obtain rfl : k = 8 := by omega
      obtain ⟨c0, c1, c2, c3, c4, c5, c6, c7⟩ := hA.buf.cells8 (show _ = [by8 n 0, by8 n 1, by8 n 2, by8 n 3, by8 n 4, by8 n 5, by8 n 6, by8 n 7] from rfl)
      obtain ⟨r0, r1, r2, r3, r4, r5, r6, r7⟩ := hA.ret.cells8 (show _ = [0, 0, 0, 0, 0, 0, 0, 0] from rfl)
      have fz := hA.ret.frozen
      have lt := hA.ret.lt
      have HO := Lib.hid hA.off
      clear hA
      go_wp2
      refine bodyPost_ret (v := .agg #[u8v (by8 n 0), u8v (by8 n 1), u8v (by8 n 2), u8v (by8 n 3), u8v (by8 n 4), u8v (by8 n 5), u8v (by8 n 6), u8v (by8 n 7)]) (by simp [results, Tryd.results52, go_sem, r0, r1, r2, r3, r4, r5, r6, r7]) rfl ⟨rfl, ?_⟩
      have hn : ∀ j, (⟨w.heap.size, j, none⟩ : Addr).block < w.heap.size → False := fun j c => by simp at c
      exact (((((((HO.out.setCell (hn 0) _).setCell (hn 1) _).setCell (hn 2) _).setCell (hn 3) _).setCell (hn 4) _).setCell (hn 5) _).setCell (hn 6) _).setCell (hn 7) _
set_option maxRecDepth 100000 in
theorem slice32 (g i : Nat) (hi : i < 4) (W : World) : (Instr.sliceAt 86 (.pointer (some ⟨g, 0, none⟩)) (some (.int .i64 ((i : Int) * 8))) (some (.int .i64 (((i : Int) + 1) * 8))) none).run Tryd.prog W = .ok (.slice (some ⟨g, 8 * i, none⟩) 8 (32 - 8 * i)) W := by
  have e : i = 0 ∨ i = 1 ∨ i = 2 ∨ i = 3 := by omega
  rcases e with rfl | rfl | rfl | rfl <;> rfl
set_option maxRecDepth 100000 in
set_option maxHeartbeats 4000000 in
theorem wordat_any (i g : Nat) (hi : i < 4) (all : List Nat) (hs : Small all) (hl : all.length = 32) (w : World) (hG : ByBlk w g 86 all) :
    Calls Tryd.prog 48 #[.int .i64 (i : Int), .pointer (some ⟨g, 0, none⟩)] w fun e w' => e = .returned (.int .u64 (wd (numB all) i : Int)) ∧ Off (fun _ => False) w w' := by
  have hc := fun (j : Nat) (h : j < 32) => hG.cell (j := j) (x := all[j]'(by omega)) (List.getElem?_eq_getElem _)
  have hsl := slice32 g i hi
  clear hG
  go_enter Tryd.func48, Tryd.ntmps48
  go_wp2
  go_loop [4, 14] (fun u i' => ∃ k : Nat, k ≤ 8 ∧ i' = .int .i64 k ∧ u = .int .u64 (numB ((all.drop (8 * i)).take k) : Int)) (fun _ i' => 8 - (intOf i').toNat)
  case atStart => exact ⟨0, by omega, rfl, by simp [numB]⟩
  case round =>
    obtain ⟨k, hk, rfl, rfl⟩ := hrel
    by_cases hlt : k < 8
    · have i1 : decide ((k : Int) < 8) = true := by simp; omega
      have i2 : (k : Int) < 8 := by omega
      have cb := hc (8 * i + k) (by omega)
      have hx : (all.drop (8 * i))[k]? = some (all[8 * i + k]'(by omega)) := by rw [List.getElem?_drop, List.getElem?_eq_getElem (by omega)]
      have hcl : all[8 * i + k]'(by omega) < 256 := hs _ (List.getElem_mem _)
      obtain ⟨c, hcx⟩ : ∃ c, c = all[8 * i + k]'(by omega) := ⟨_, rfl⟩
      rw [← hcx] at cb hx hcl
      have hu := numB_lt ((hs.drop (8 * i)).take k)
      rw [List.length_take, List.length_drop, hl, Nat.min_eq_left (by omega)] at hu
      have HT := Lib.hid ((or_byte hu hcl hlt).trans (congrArg Nat.cast (numB_take _ _ _ hx).symm))
      clear hc hx hcl hcx hu
      go_wp2
      go_round
      case rel => exact ⟨k + 1, by omega, by go_num, by rw [HT.out]⟩
      case measure => simp [intOf]; omega
    · obtain rfl : k = 8 := by omega
      have HW := Lib.hid (wd_numB hs i (by omega))
      rw [wd_numB hs i (by omega)]
      clear hc
      go_wp2
      go_ret
      exact ⟨rfl, Off.refl _ _⟩
end Go.Proofs.YtllhfkcgocbblaaDoor
