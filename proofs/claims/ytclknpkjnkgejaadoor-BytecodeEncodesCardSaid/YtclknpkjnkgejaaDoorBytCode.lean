/-
  Contracts of package bytecode over this seat's translation: numberOf and Encode. Conditions: as each says.
-/
import Derived.Test.YtclknpkjnkgejaaDoorBytOps
import Derived.Test.YtclknpkjnkgejaaDoorMontOps
import Derived.StillTailTactics
namespace Go.Proofs.YtclknpkjnkgejaaDoor
open Go.RowKit
theorem numB_pad (bs : List Nat) (k : Nat) : numB (bs ++ List.replicate k 0) = numB bs := by rw [numB_append, numB_zeros, Nat.mul_zero, Nat.add_zero]
theorem Small.pad {bs : List Nat} (h : Small bs) (k : Nat) : Small (bs ++ List.replicate k 0) := fun x hx => by
  rcases List.mem_append.1 hx with h1 | h1
  · exact h x h1
  · rw [(List.mem_replicate.1 h1).2]; decide
/-- What the loop of numberOf keeps. -/
structure NofAt (w wr : World) (g : Nat) (all : List Nat) (k : Nat) : Prop where
  ret : PartAt wr w.heap.size 0 0
  blk : ByBlk wr (w.heap.size + 1) 67 all
  num : PartAt wr g (numB all) k
  off : Off (fun _ => False) w wr
theorem NofAt.keep {w wr u : World} {g : Nat} {all : List Nat} {k : Nat} (h : NofAt w wr g all k) (ho : Off (fun _ => False) wr u) : NofAt w u g all k :=
  ⟨ho.heap h.ret (fun c => c), h.blk.off ho (fun c => c), ho.heap h.num (fun c => c), h.off.trans ho (fun _ _ c => c)⟩
theorem NofAt.step {w wr : World} {g : Nat} {all : List Nat} {k : Nat} (h : NofAt w wr g all k) (hg : w.heap.size + 1 < g) (hk : k < 4) : NofAt w (wr.setCell ⟨g, k, none⟩ (.int .u64 (wd (numB all) k : Int))) g all (k + 1) := by
  have far : ∀ j, j ≠ g → (wr.setCell ⟨g, k, none⟩ (.int .u64 (wd (numB all) k : Int))).heap[j]? = wr.heap[j]? := fun j hj => Below.heap_setCell _ _ _ _ hj
  exact ⟨(far _ (by omega)).trans h.ret, (far _ (by omega)).trans h.blk, h.num.step hk, h.off.setCell (fun c => by simp at c; omega) _⟩
set_option maxRecDepth 100000 in
set_option maxHeartbeats 4000000 in
theorem numberof_any (a : Option Addr) (n cap : Nat) (bs : List Nat) (S : Nat → Prop) (w : World) (hb : BsAt w a bs S) (hn : n = bs.length) (hs : Small bs) (h32 : n ≤ 32) :
    Calls Tryd.prog 33 #[.slice a n cap] w fun e w' => e = .returned (V (numB bs)) ∧ Off (fun _ => False) w w' := by
  obtain ⟨w1, hcp, hblk, hoff⟩ := copy_bytes Tryd.underlying30 (dLen := 32) (dCap := 32) (c := cap) (show BsAt ((w.alloc (.cells #[.int .u64 0, .int .u64 0, .int .u64 0, .int .u64 0] 23)).alloc (.cells #[.int .u8 0, .int .u8 0, .int .u8 0, .int .u8 0, .int .u8 0, .int .u8 0, .int .u8 0, .int .u8 0, .int .u8 0, .int .u8 0, .int .u8 0, .int .u8 0, .int .u8 0, .int .u8 0, .int .u8 0, .int .u8 0, .int .u8 0, .int .u8 0, .int .u8 0, .int .u8 0, .int .u8 0, .int .u8 0, .int .u8 0, .int .u8 0, .int .u8 0, .int .u8 0, .int .u8 0, .int .u8 0, .int .u8 0, .int .u8 0, .int .u8 0, .int .u8 0] 67)) a bs S from hb.off (((Off.refl (fun _ => False) w).alloc _).alloc _) (fun _ _ _ c => c)) hn (show ByBlk ((w.alloc (.cells #[.int .u64 0, .int .u64 0, .int .u64 0, .int .u64 0] 23)).alloc (.cells #[.int .u8 0, .int .u8 0, .int .u8 0, .int .u8 0, .int .u8 0, .int .u8 0, .int .u8 0, .int .u8 0, .int .u8 0, .int .u8 0, .int .u8 0, .int .u8 0, .int .u8 0, .int .u8 0, .int .u8 0, .int .u8 0, .int .u8 0, .int .u8 0, .int .u8 0, .int .u8 0, .int .u8 0, .int .u8 0, .int .u8 0, .int .u8 0, .int .u8 0, .int .u8 0, .int .u8 0, .int .u8 0, .int .u8 0, .int .u8 0, .int .u8 0, .int .u8 0] 67)) (w.heap.size + 1) 67 (List.replicate 32 0) from heap_new' (by simp) _) h32 (show 0 + n ≤ _ by simp; exact h32)
  obtain ⟨all, hall⟩ : ∃ all, all = bs ++ List.replicate (32 - n) 0 := ⟨_, rfl⟩
  have e1 : (List.replicate 32 0).take 0 ++ bs ++ (List.replicate 32 0).drop (0 + n) = all := by rw [hall, List.take_zero, List.nil_append, List.drop_replicate, Nat.zero_add]
  rw [e1] at hblk
  have hlen : all.length = 32 := by rw [hall]; simp; omega
  have hsm : Small all := by rw [hall]; exact hs.pad _
  have HV := Lib.hid (show numB all = numB bs by rw [hall]; exact numB_pad _ _)
  have hR : w1.heap[w.heap.size]? = some (.cells #[.int .u64 0, .int .u64 0, .int .u64 0, .int .u64 0] 23) := hoff.heap (heap_old' (heap_new' rfl _) _) (by omega)
  have hO : Off (fun _ => False) w w1 := (((Off.refl (fun _ => False) w).alloc _).alloc _).trans hoff (fun k hk e => by omega)
  have hsz := hoff.size
  simp only [World.size_alloc] at hsz
  have HB := Lib.hid hblk
  have HR := Lib.hid hR
  have HO := Lib.hid hO
  have HZ := Lib.hid hsz
  have HC := Lib.hid (fun i hi W h => wordat_any i (w.heap.size + 1) hi all hsm hlen W h)
  clear hb hs hn e1 hall hblk hoff hlen hsm hR hO hsz
  rw [← HV.out]
  clear HV
  go_enter Tryd.func33, Tryd.ntmps33
  go_wp2_with fail
  obtain ⟨g, hg⟩ : ∃ g, g = w1.heap.size := ⟨_, rfl⟩
  have hgw : w.heap.size + 1 < g := by have := HZ.out; omega
  have HS := Lib.hid (show NofAt w (w1.alloc (.cells #[.int .u64 0, .int .u64 0, .int .u64 0, .int .u64 0] 23)) g all 0 from ⟨heap_old' HR.out _, HB.out.off ((Off.refl (fun _ => False) w1).alloc _) (fun c => c), by rw [hg]; exact heap_new' rfl _, HO.out.alloc _⟩)
  rw [← hg]
  clear hcp HB HR HO HZ hg
  go_loopw [11] (fun i wr => ∃ k : Nat, k ≤ 4 ∧ i = .int .i64 k ∧ NofAt w wr g all k) (fun i _ => 4 - (intOf i).toNat)
  case atStart => exact ⟨0, by omega, rfl, HS.out⟩
  case round =>
    obtain ⟨k, hk, rfl, hA⟩ := hrel
    by_cases hlt : k < 4
    · have i1 : decide ((k : Int) < 4) = true := by simp; omega
      have i2 : (k : Int) < 4 := by omega
      have HA := Lib.hid hA
      have HCk := Lib.hid (HC.out k hlt)
      clear hA HS
      go_wp2_with (go_at_call 43; refine (HCk.out _ HA.out.blk).mono ?_; rintro e u ⟨rfl, hO⟩; have hA := HA.out.keep hO; have cr := hA.num.cell hlt; have fz := frozen_of_heap hA.num.old k; have lt := heap_lt hA.num.old; have HSt := Lib.hid (hA.step hgw hlt); clear hA hO)
      go_roundw
      case rel => exact ⟨k + 1, by omega, by go_num, HSt.out⟩
      case measure => simp [intOf]; omega
    · obtain rfl : k = 4 := by omega
      obtain ⟨c0, c1, c2, c3⟩ := hA.num.full.four
      obtain ⟨⟨r0, r1, r2, r3⟩, fz⟩ := hA.ret.four
      have lt := heap_lt hA.ret.old
      have HA := Lib.hid hA.off
      clear hA HS HC
      go_wp2
      refine bodyPost_ret (v := V (numB all)) (by simp [results, Tryd.results33, go_sem, r0, r1, r2, r3]) rfl ⟨rfl, ?_⟩
      exact off4 HA.out (by omega) _ _ _ _
/-- What the loop of Encode keeps. -/
structure EncAt (w wr : World) (g : Nat) (v k : Nat) : Prop where
  blk : ByBlk wr g 5 (bytesN v (8 * k) ++ List.replicate (32 - 8 * k) 0)
  off : Off (fun _ => False) w wr
  new : w.heap.size ≤ g
theorem enc_list (v k : Nat) (hk : k < 4) : (bytesN v (8 * k) ++ List.replicate (32 - 8 * k) 0).take (8 * k) ++ [by8 (wd v k) 0, by8 (wd v k) 1, by8 (wd v k) 2, by8 (wd v k) 3, by8 (wd v k) 4, by8 (wd v k) 5, by8 (wd v k) 6, by8 (wd v k) 7] ++ (bytesN v (8 * k) ++ List.replicate (32 - 8 * k) 0).drop (8 * k + 8) = bytesN v (8 * (k + 1)) ++ List.replicate (32 - 8 * (k + 1)) 0 := by
  rw [by8_wd v k 0 (by omega), by8_wd v k 1 (by omega), by8_wd v k 2 (by omega), by8_wd v k 3 (by omega), by8_wd v k 4 (by omega), by8_wd v k 5 (by omega), by8_wd v k 6 (by omega), by8_wd v k 7 (by omega)]
  have e : k = 0 ∨ k = 1 ∨ k = 2 ∨ k = 3 := by omega
  rcases e with rfl | rfl | rfl | rfl <;> rfl
theorem index_vec (v k : Nat) (hk : k < 4) (W : World) : (Instr.index 23 (V v) (.int .i64 (k : Int))).run Tryd.prog W = .ok (.int .u64 (wd v k : Int)) W := by
  have e : k = 0 ∨ k = 1 ∨ k = 2 ∨ k = 3 := by omega
  rcases e with rfl | rfl | rfl | rfl <;> rfl
theorem slice_from (g k : Nat) (hk : k < 4) (W : World) : (Instr.slice 30 (.slice (some ⟨g, 0, none⟩) 32 32) (some (.int .i64 ((k : Int) * 8))) none none).run Tryd.prog W = .ok (.slice (some ⟨g, 8 * k, none⟩) (32 - 8 * k) (32 - 8 * k)) W := by
  have e : k = 0 ∨ k = 1 ∨ k = 2 ∨ k = 3 := by omega
  rcases e with rfl | rfl | rfl | rfl <;> rfl
/-- One round's copy. -/
theorem EncAt.step {w wr : World} {g v k c : Nat} (h : EncAt w wr g v k) (hk : k < 4) (hc : ByBlk wr c 56 [by8 (wd v k) 0, by8 (wd v k) 1, by8 (wd v k) 2, by8 (wd v k) 3, by8 (wd v k) 4, by8 (wd v k) 5, by8 (wd v k) 6, by8 (wd v k) 7]) : ∃ w1, (Builtin.copy_ #[30, 30] 3 #[.slice (some ⟨g, 8 * k, none⟩) (32 - 8 * k) (32 - 8 * k), .slice (some ⟨c, 0, none⟩) 8 8]).run Tryd.prog wr = .ok (.int .i64 8) w1 ∧ EncAt w w1 g v (k + 1) := by
  obtain ⟨w1, h1, h2, h3⟩ := copy_bytes Tryd.underlying30 (dLen := 32 - 8 * k) (dCap := 32 - 8 * k) (off := 8 * k) (n := 8) (c := 8) (BsAt.of_blk (S := fun _ => True) hc trivial) rfl h.blk (by omega) (by simp [bytesN_length]; omega)
  refine ⟨w1, h1, ?_, h.off.trans h3 (fun k hk e => by have := h.new; omega), h.new⟩
  rw [enc_list v k hk] at h2
  exact h2
set_option maxRecDepth 100000 in
set_option maxHeartbeats 4000000 in
theorem encode_any {id : Int} {p i r s : Nat} (hF : Fld id p i r s) (u : Nat) (hu : u < p) (w : World) :
    Calls Tryd.prog 11 #[FV id p i r s, V u] w fun e w' => ∃ g, e = .returned (.slice (some ⟨g, 0, none⟩) 32 32) ∧ ByBlk w' g 5 (bytesN (mm p u 1) 32) ∧ w.heap.size ≤ g ∧ Off (fun _ => False) w w' := by
  have HF := Lib.hid (fun W => mfrom_any hF u hu W)
  obtain ⟨v, hv⟩ : ∃ v, v = mm p u 1 := ⟨_, rfl⟩
  rw [← hv] at HF ⊢
  clear hF hu hv
  have hmk : ∀ W, (Instr.makeSlice 30 (.int .i64 32) (.int .i64 32)).run Tryd.prog W = .ok (.slice (some ⟨W.heap.size, 0, none⟩) 32 32) (W.alloc (.cells ((List.replicate 32 0).map u8v).toArray 5)) := run_make_by 32 (by omega)
  obtain ⟨Z, hZ⟩ : ∃ Z, Z = ((List.replicate 32 0).map u8v).toArray := ⟨_, rfl⟩
  rw [← hZ] at hmk
  have HZ := Lib.hid hZ
  clear hZ
  go_enter Tryd.func11, Tryd.ntmps11
  go_wp2_with fail
  refine (HF.out _).mono ?_
  rintro e w1 ⟨rfl, hO⟩
  go_wp2_with fail
  have HS := Lib.hid (show EncAt w w1 (w.heap.size + 1 + 1) v 0 from ⟨hO.heap (by rw [HZ.out]; exact heap_new' (by simp) _) (fun c => c), ((((Off.refl (fun _ => False) w).alloc _).alloc _).alloc _).trans hO (fun _ _ c => c), by omega⟩)
  clear hO HZ hmk Z
  obtain ⟨g, hg⟩ : ∃ g, g = w.heap.size + 1 + 1 := ⟨_, rfl⟩
  rw [← hg] at HS ⊢
  clear hg
  go_loopw [13] (fun i wr => ∃ k : Nat, k ≤ 4 ∧ i = .int .i64 k ∧ EncAt w wr g v k) (fun i _ => 4 - (intOf i).toNat)
  case atStart => exact ⟨0, by omega, rfl, HS.out⟩
  case round =>
    obtain ⟨k, hk, rfl, hA⟩ := hrel
    by_cases hlt : k < 4
    · have HA := Lib.hid hA
      clear hA HS
      have hidx := index_vec v k hlt
      have hsl := slice_from g k hlt
      have i1 : decide ((k : Int) < 4) = true := by simp; omega
      have i2 : (k : Int) < 4 := by omega
      go_wp2_with fail
      refine (bytesof_any _ _).mono ?_
      rintro e u ⟨rfl, hO⟩
      obtain ⟨W0, hW0⟩ : ∃ W0, W0 = u.alloc (.cells #[u8v (by8 (wd v k) 0), u8v (by8 (wd v k) 1), u8v (by8 (wd v k) 2), u8v (by8 (wd v k) 3), u8v (by8 (wd v k) 4), u8v (by8 (wd v k) 5), u8v (by8 (wd v k) 6), u8v (by8 (wd v k) 7)] 56) := ⟨_, rfl⟩
      have hB : ByBlk W0 u.heap.size 56 [by8 (wd v k) 0, by8 (wd v k) 1, by8 (wd v k) 2, by8 (wd v k) 3, by8 (wd v k) 4, by8 (wd v k) 5, by8 (wd v k) 6, by8 (wd v k) 7] := by rw [hW0]; exact heap_new' rfl _
      have hO1 : Off (fun _ => False) wr W0 := by rw [hW0]; exact hO.alloc _
      have hA : EncAt w W0.drew g v k := ⟨ByBlk.off (w' := W0) (S := fun _ => False) HA.out.blk hO1 (fun c => c), (HA.out.off.trans hO1 (fun _ _ c => c)).drew, HA.out.new⟩
      obtain ⟨w2, hcp, hA2⟩ := hA.step hlt hB
      have HA2 := Lib.hid hA2
      have HW0 := Lib.hid hW0
      clear hB hO1 hA hA2 hO hW0
      go_upto_region 6 with fail
      rw [← HW0.out]
      go_region
      all_goals (go_wp2; go_roundw)
      all_goals first | exact ⟨k + 1, by omega, by go_num, HA2.out⟩ | (simp [intOf]; omega)
    · obtain rfl : k = 4 := by omega
      have HA := Lib.hid hA
      clear hA HS
      go_wp2
      go_ret
      exact ⟨g, rfl, HA.out.blk, HA.out.new, HA.out.off⟩
end Go.Proofs.YtclknpkjnkgejaaDoor
