/-
  Contracts of package bytecode over this seat's translation: numberOf and Encode. Conditions: as each says.
  Contracts of package bytecode over this seat's translation: Decode, Pack, Unpack and Wide. Conditions: the field's constants are those of its modulus; the slice is told by its bytes.
  Contract of Unpack of package bytecode over this seat's translation. Conditions: the field's constants are those of its modulus, the element lies below it.
  Contracts of the reference of layer 7 over this seat's translation: Encode, Number, Unpack. Conditions: as each says.
-/
import Derived.Test.YtllhfkcgocbblaaDoorBytOps
import Derived.Test.YtllhfkcgocbblaaDoorMontOps
import Derived.StillTailTactics
import Derived.Test.YtllhfkcgocbblaaDoorFieldOps
import Derived.Laws.OwnMore
import Derived.Laws.AppendOwnNone
namespace Go.Proofs.YtllhfkcgocbblaaDoor
section
open Go.RowKit
theorem numB_pad (bs : List Nat) (k : Nat) : numB (bs ++ List.replicate k 0) = numB bs := by rw [numB_append, numB_zeros, Nat.mul_zero, Nat.add_zero]
theorem Small.pad {bs : List Nat} (h : Small bs) (k : Nat) : Small (bs ++ List.replicate k 0) := fun x hx => by
  rcases List.mem_append.1 hx with h1 | h1
  · exact h x h1
  · rw [(List.mem_replicate.1 h1).2]; decide
/-- What the loop of numberOf keeps. -/
structure NofAt (w wr : World) (g : Nat) (all : List Nat) (k : Nat) : Prop where
  ret : PartAt wr w.heap.size 0 0
  blk : ByBlk wr (w.heap.size + 1) 86 all
  num : PartAt wr g (numB all) k
  off : Off (fun _ => False) w wr
theorem NofAt.keep {w wr u : World} {g : Nat} {all : List Nat} {k : Nat} (h : NofAt w wr g all k) (ho : Off (fun _ => False) wr u) : NofAt w u g all k :=
  ⟨ho.heap h.ret (fun c => c), h.blk.off ho (fun c => c), ho.heap h.num (fun c => c), h.off.trans ho (fun _ _ c => c)⟩
theorem NofAt.step {w wr : World} {g : Nat} {all : List Nat} {k : Nat} (h : NofAt w wr g all k) (hg : w.heap.size + 1 < g) (hk : k < 4) : NofAt w (wr.setCell ⟨g, k, none⟩ (.int .u64 (wd (numB all) k : Int))) g all (k + 1) := by
  have far : ∀ j, j ≠ g → (wr.setCell ⟨g, k, none⟩ (.int .u64 (wd (numB all) k : Int))).heap[j]? = wr.heap[j]? := fun j hj => Below.heap_setCell _ _ _ _ hj
  exact ⟨(far _ (by omega)).trans h.ret, (far _ (by omega)).trans h.blk, h.num.step hk, h.off.setCell (fun c => by simp at c; omega) _⟩
set_option maxRecDepth 100000 in
set_option maxHeartbeats 4000000 in
theorem numberof_any (a : Option Addr) (n cap : Nat) (bs : List Nat) (S : Nat → Prop) (w : World) (hb : BsAt w a bs S) (hn : n = bs.length) (hs : Small bs) (h32 : n ≤ 32) :
    Calls Tryd.prog 39 #[.slice a n cap] w fun e w' => e = .returned (V (numB bs)) ∧ Off (fun _ => False) w w' := by
  obtain ⟨w1, hcp, hblk, hoff⟩ := copy_bytes Tryd.underlying25 (dLen := 32) (dCap := 32) (c := cap) (show BsAt ((w.alloc (.cells #[.int .u64 0, .int .u64 0, .int .u64 0, .int .u64 0] 27)).alloc (.cells #[.int .u8 0, .int .u8 0, .int .u8 0, .int .u8 0, .int .u8 0, .int .u8 0, .int .u8 0, .int .u8 0, .int .u8 0, .int .u8 0, .int .u8 0, .int .u8 0, .int .u8 0, .int .u8 0, .int .u8 0, .int .u8 0, .int .u8 0, .int .u8 0, .int .u8 0, .int .u8 0, .int .u8 0, .int .u8 0, .int .u8 0, .int .u8 0, .int .u8 0, .int .u8 0, .int .u8 0, .int .u8 0, .int .u8 0, .int .u8 0, .int .u8 0, .int .u8 0] 86)) a bs S from hb.off (((Off.refl (fun _ => False) w).alloc _).alloc _) (fun _ _ _ c => c)) hn (show ByBlk ((w.alloc (.cells #[.int .u64 0, .int .u64 0, .int .u64 0, .int .u64 0] 27)).alloc (.cells #[.int .u8 0, .int .u8 0, .int .u8 0, .int .u8 0, .int .u8 0, .int .u8 0, .int .u8 0, .int .u8 0, .int .u8 0, .int .u8 0, .int .u8 0, .int .u8 0, .int .u8 0, .int .u8 0, .int .u8 0, .int .u8 0, .int .u8 0, .int .u8 0, .int .u8 0, .int .u8 0, .int .u8 0, .int .u8 0, .int .u8 0, .int .u8 0, .int .u8 0, .int .u8 0, .int .u8 0, .int .u8 0, .int .u8 0, .int .u8 0, .int .u8 0, .int .u8 0] 86)) (w.heap.size + 1) 86 (List.replicate 32 0) from heap_new' (by simp) _) h32 (show 0 + n ≤ _ by simp; exact h32)
  obtain ⟨all, hall⟩ : ∃ all, all = bs ++ List.replicate (32 - n) 0 := ⟨_, rfl⟩
  have e1 : (List.replicate 32 0).take 0 ++ bs ++ (List.replicate 32 0).drop (0 + n) = all := by rw [hall, List.take_zero, List.nil_append, List.drop_replicate, Nat.zero_add]
  rw [e1] at hblk
  have hlen : all.length = 32 := by rw [hall]; simp; omega
  have hsm : Small all := by rw [hall]; exact hs.pad _
  have HV := Lib.hid (show numB all = numB bs by rw [hall]; exact numB_pad _ _)
  have hR : w1.heap[w.heap.size]? = some (.cells #[.int .u64 0, .int .u64 0, .int .u64 0, .int .u64 0] 27) := hoff.heap (heap_old' (heap_new' rfl _) _) (by omega)
  have hO : Off (fun _ => False) w w1 := (((Off.refl (fun _ => False) w).alloc _).alloc _).trans hoff (fun k hk e => by omega)
  have hsz := hoff.size
  simp only [World.size_alloc] at hsz
  have HB := Lib.hid hblk
  have HR := Lib.hid hR
  have HO := Lib.hid hO
  have HZ := Lib.hid hsz
  have HC := Lib.hid (fun i hi W h => wordat_any i (w.heap.size + 1) hi all hsm hlen W h)
  clear hb hs hn e1 hall hblk hoff hlen hsm hR hO hsz
  rw [← HV.out]
  clear HV
  go_enter Tryd.func39, Tryd.ntmps39
  go_wp2_with fail
  obtain ⟨g, hg⟩ : ∃ g, g = w1.heap.size := ⟨_, rfl⟩
  have hgw : w.heap.size + 1 < g := by have := HZ.out; omega
  have HS := Lib.hid (show NofAt w (w1.alloc (.cells #[.int .u64 0, .int .u64 0, .int .u64 0, .int .u64 0] 27)) g all 0 from ⟨heap_old' HR.out _, HB.out.off ((Off.refl (fun _ => False) w1).alloc _) (fun c => c), by rw [hg]; exact heap_new' rfl _, HO.out.alloc _⟩)
  rw [← hg]
  clear hcp HB HR HO HZ hg
  go_loopw [11] (fun i wr => ∃ k : Nat, k ≤ 4 ∧ i = .int .i64 k ∧ NofAt w wr g all k) (fun i _ => 4 - (intOf i).toNat)
  case atStart => exact ⟨0, by omega, rfl, HS.out⟩
  case round =>
    obtain ⟨k, hk, rfl, hA⟩ := hrel
    by_cases hlt : k < 4
    · have i1 : decide ((k : Int) < 4) = true := by simp; omega
      have i2 : (k : Int) < 4 := by omega
      have HA := Lib.hid hA
      have HCk := Lib.hid (HC.out k hlt)
      clear hA HS
      go_wp2_with (go_at_call 48; refine (HCk.out _ HA.out.blk).mono ?_; rintro e u ⟨rfl, hO⟩; have hA := HA.out.keep hO; have cr := hA.num.cell hlt; have fz := frozen_of_heap hA.num.old k; have lt := heap_lt hA.num.old; have HSt := Lib.hid (hA.step hgw hlt); clear hA hO)
      go_roundw
      case rel => exact ⟨k + 1, by omega, by go_num, HSt.out⟩
      case measure => simp [intOf]; omega
    · obtain rfl : k = 4 := by omega
      obtain ⟨c0, c1, c2, c3⟩ := hA.num.full.four
      obtain ⟨⟨r0, r1, r2, r3⟩, fz⟩ := hA.ret.four
      have lt := heap_lt hA.ret.old
      have HA := Lib.hid hA.off
      clear hA HS HC
      go_wp2
      refine bodyPost_ret (v := V (numB all)) (by simp [results, Tryd.results39, go_sem, r0, r1, r2, r3]) rfl ⟨rfl, ?_⟩
      exact off4 HA.out (by omega) _ _ _ _
/-- What the loop of Encode keeps. -/
structure EncAt (w wr : World) (g : Nat) (v k : Nat) : Prop where
  blk : ByBlk wr g 5 (bytesN v (8 * k) ++ List.replicate (32 - 8 * k) 0)
  off : Off (fun _ => False) w wr
  new : w.heap.size ≤ g
theorem enc_list (v k : Nat) (hk : k < 4) : (bytesN v (8 * k) ++ List.replicate (32 - 8 * k) 0).take (8 * k) ++ [by8 (wd v k) 0, by8 (wd v k) 1, by8 (wd v k) 2, by8 (wd v k) 3, by8 (wd v k) 4, by8 (wd v k) 5, by8 (wd v k) 6, by8 (wd v k) 7] ++ (bytesN v (8 * k) ++ List.replicate (32 - 8 * k) 0).drop (8 * k + 8) = bytesN v (8 * (k + 1)) ++ List.replicate (32 - 8 * (k + 1)) 0 := by
  rw [by8_wd v k 0 (by omega), by8_wd v k 1 (by omega), by8_wd v k 2 (by omega), by8_wd v k 3 (by omega), by8_wd v k 4 (by omega), by8_wd v k 5 (by omega), by8_wd v k 6 (by omega), by8_wd v k 7 (by omega)]
  have e : k = 0 ∨ k = 1 ∨ k = 2 ∨ k = 3 := by omega
  rcases e with rfl | rfl | rfl | rfl <;> rfl
set_option maxRecDepth 100000 in
theorem index_vec (v k : Nat) (hk : k < 4) (W : World) : (Instr.index 27 (V v) (.int .i64 (k : Int))).run Tryd.prog W = .ok (.int .u64 (wd v k : Int)) W := by
  have e : k = 0 ∨ k = 1 ∨ k = 2 ∨ k = 3 := by omega
  rcases e with rfl | rfl | rfl | rfl <;> rfl
set_option maxRecDepth 100000 in
theorem slice_from (g k : Nat) (hk : k < 4) (W : World) : (Instr.slice 25 (.slice (some ⟨g, 0, none⟩) 32 32) (some (.int .i64 ((k : Int) * 8))) none none).run Tryd.prog W = .ok (.slice (some ⟨g, 8 * k, none⟩) (32 - 8 * k) (32 - 8 * k)) W := by
  have e : k = 0 ∨ k = 1 ∨ k = 2 ∨ k = 3 := by omega
  rcases e with rfl | rfl | rfl | rfl <;> rfl
/-- One round's copy. -/
theorem EncAt.step {w wr : World} {g v k c : Nat} (h : EncAt w wr g v k) (hk : k < 4) (hc : ByBlk wr c 90 [by8 (wd v k) 0, by8 (wd v k) 1, by8 (wd v k) 2, by8 (wd v k) 3, by8 (wd v k) 4, by8 (wd v k) 5, by8 (wd v k) 6, by8 (wd v k) 7]) : ∃ w1, (Builtin.copy_ #[25, 25] 3 #[.slice (some ⟨g, 8 * k, none⟩) (32 - 8 * k) (32 - 8 * k), .slice (some ⟨c, 0, none⟩) 8 8]).run Tryd.prog wr = .ok (.int .i64 8) w1 ∧ EncAt w w1 g v (k + 1) := by
  obtain ⟨w1, h1, h2, h3⟩ := copy_bytes Tryd.underlying25 (dLen := 32 - 8 * k) (dCap := 32 - 8 * k) (off := 8 * k) (n := 8) (c := 8) (BsAt.of_blk (S := fun _ => True) hc trivial) rfl h.blk (by omega) (by simp [bytesN_length]; omega)
  refine ⟨w1, h1, ?_, h.off.trans h3 (fun k hk e => by have := h.new; omega), h.new⟩
  rw [enc_list v k hk] at h2
  exact h2
set_option maxRecDepth 100000 in
set_option maxHeartbeats 4000000 in
theorem encode_any {id : Int} {p i r s : Nat} (hF : Fld id p i r s) (u : Nat) (hu : u < p) (w : World) :
    Calls Tryd.prog 43 #[FV id p i r s, V u] w fun e w' => ∃ g, e = .returned (.slice (some ⟨g, 0, none⟩) 32 32) ∧ ByBlk w' g 5 (bytesN (mm p u 1) 32) ∧ w.heap.size ≤ g ∧ Off (fun _ => False) w w' := by
  have HF := Lib.hid (fun W => mfrom_any hF u hu W)
  obtain ⟨v, hv⟩ : ∃ v, v = mm p u 1 := ⟨_, rfl⟩
  rw [← hv] at HF ⊢
  clear hF hu hv
  have hmk : ∀ W, (Instr.makeSlice 25 (.int .i64 32) (.int .i64 32)).run Tryd.prog W = .ok (.slice (some ⟨W.heap.size, 0, none⟩) 32 32) (W.alloc (.cells ((List.replicate 32 0).map u8v).toArray 5)) := run_make_by 32 (by omega)
  obtain ⟨Z, hZ⟩ : ∃ Z, Z = ((List.replicate 32 0).map u8v).toArray := ⟨_, rfl⟩
  rw [← hZ] at hmk
  have HZ := Lib.hid hZ
  clear hZ
  go_enter Tryd.func43, Tryd.ntmps43
  go_wp2_with fail
  refine (HF.out _).mono ?_
  rintro e w1 ⟨rfl, hO⟩
  go_wp2_with fail
  have HS := Lib.hid (show EncAt w w1 (w.heap.size + 1 + 1) v 0 from ⟨hO.heap (by rw [HZ.out]; exact heap_new' (by simp) _) (fun c => c), ((((Off.refl (fun _ => False) w).alloc _).alloc _).alloc _).trans hO (fun _ _ c => c), by omega⟩)
  clear hO HZ hmk Z
  obtain ⟨g, hg⟩ : ∃ g, g = w.heap.size + 1 + 1 := ⟨_, rfl⟩
  rw [← hg] at HS ⊢
  clear hg
  go_loopw [13] (fun i wr => ∃ k : Nat, k ≤ 4 ∧ i = .int .i64 k ∧ EncAt w wr g v k) (fun i _ => 4 - (intOf i).toNat)
  case atStart => exact ⟨0, by omega, rfl, HS.out⟩
  case round =>
    obtain ⟨k, hk, rfl, hA⟩ := hrel
    by_cases hlt : k < 4
    · have HA := Lib.hid hA
      clear hA HS
      have hidx := index_vec v k hlt
      have hsl := slice_from g k hlt
      have i1 : decide ((k : Int) < 4) = true := by simp; omega
      have i2 : (k : Int) < 4 := by omega
      go_wp2_with fail
      refine (bytesof_any _ _).mono ?_
      rintro e u ⟨rfl, hO⟩
      obtain ⟨W0, hW0⟩ : ∃ W0, W0 = u.alloc (.cells #[u8v (by8 (wd v k) 0), u8v (by8 (wd v k) 1), u8v (by8 (wd v k) 2), u8v (by8 (wd v k) 3), u8v (by8 (wd v k) 4), u8v (by8 (wd v k) 5), u8v (by8 (wd v k) 6), u8v (by8 (wd v k) 7)] 90) := ⟨_, rfl⟩
      have hB : ByBlk W0 u.heap.size 90 [by8 (wd v k) 0, by8 (wd v k) 1, by8 (wd v k) 2, by8 (wd v k) 3, by8 (wd v k) 4, by8 (wd v k) 5, by8 (wd v k) 6, by8 (wd v k) 7] := by rw [hW0]; exact heap_new' rfl _
      have hO1 : Off (fun _ => False) wr W0 := by rw [hW0]; exact hO.alloc _
      have hA : EncAt w W0.drew g v k := ⟨ByBlk.off (w' := W0) (S := fun _ => False) HA.out.blk hO1 (fun c => c), (HA.out.off.trans hO1 (fun _ _ c => c)).drew, HA.out.new⟩
      obtain ⟨w2, hcp, hA2⟩ := hA.step hlt hB
      have HA2 := Lib.hid hA2
      have HW0 := Lib.hid hW0
      clear hB hO1 hA hA2 hO hW0
      go_upto_region 6 with fail
      rw [← HW0.out]
      go_region
      all_goals (go_wp2; go_roundw)
      all_goals first | exact ⟨k + 1, by omega, by go_num, HA2.out⟩ | (simp [intOf]; omega)
    · obtain rfl : k = 4 := by omega
      have HA := Lib.hid hA
      clear hA HS
      go_wp2
      go_ret
      exact ⟨g, rfl, HA.out.blk, HA.out.new, HA.out.off⟩
end
section
open Go.RowKit
attribute [local go_sem ↓] Go.wp_at_zero Go.wp_at_succ
/-- What Decode returns: the element and the error. -/
def decV (p : Nat) (bs : List Nat) : Nat × Nat := if bs.length = 32 then (if numB bs < p then (fm p (numB bs), 0) else (0, 9)) else (0, 8)
theorem numB_r256 {bs : List Nat} (hs : Small bs) (h : bs.length ≤ 32) : numB bs < R256 := by
  rw [r256_bytes]
  exact Nat.lt_of_lt_of_le (numB_lt hs) (Nat.pow_le_pow_right (by decide) h)
/-- What Pack returns. -/
def packV (p : Nat) (bs : List Nat) : Nat × Nat := if bs.length ≤ 31 then (fm p (numB bs), 0) else (0, 8)
set_option maxRecDepth 100000 in
set_option maxHeartbeats 4000000 in
theorem pack_any {id : Int} {p i r s : Nat} (hF : Fld id p i r s) (a : Option Addr) (n cap : Nat) (bs : List Nat) (S : Nat → Prop) (w : World) (hb : BsAt w a bs S) (hn : n = bs.length) (hs : Small bs) :
    Calls Tryd.prog 27 #[FV id p i r s, .slice a n cap] w fun e w' => e = .returned (.tuple #[V (packV p bs).1, .int .i64 ((packV p bs).2 : Int)]) ∧ Off (fun _ => False) w w' := by
  by_cases h31 : n ≤ 31
  · have hx := numB_r256 hs (by omega)
    have HN := Lib.hid (fun W (h : Off (fun k => w.heap.size ≤ k) w W) => numberof_any a n cap bs _ W (hb.later h) hn hs (by omega))
    have hT := fun W => mto_any hF (numB bs) hx W
    rw [fm_mod] at hT
    have hd : packV p bs = (fm p (numB bs), 0) := by unfold packV; rw [if_pos (by omega)]
    rw [hd]
    obtain ⟨x, hxx⟩ : ∃ x, x = numB bs := ⟨_, rfl⟩
    rw [← hxx] at HN hT ⊢
    obtain ⟨y, hy⟩ : ∃ y, y = fm p x := ⟨_, rfl⟩
    rw [← hy] at hT ⊢
    have HT := Lib.hid hT
    have i1 : (n : Int) ≤ 31 := by omega
    have i2 : decide ((31 : Int) < (n : Int)) = false := by simp; omega
    clear hT hb hn hs hx hxx hF hd hy
    go_enter Tryd.func27, Tryd.ntmps27
    obtain ⟨W0, hW0⟩ : ∃ W0, W0 = (w.alloc (.cells #[.int .i64 id, .int .u64 (wd p 0 : Int), .int .u64 (wd p 1 : Int), .int .u64 (wd p 2 : Int), .int .u64 (wd p 3 : Int), .int .u64 (i : Int), .int .u64 (wd r 0 : Int), .int .u64 (wd r 1 : Int), .int .u64 (wd r 2 : Int), .int .u64 (wd r 3 : Int), .int .u64 (wd s 0 : Int), .int .u64 (wd s 1 : Int), .int .u64 (wd s 2 : Int), .int .u64 (wd s 3 : Int)] 30)).alloc (.cells #[.int .u64 0, .int .u64 0, .int .u64 0, .int .u64 0] 28) := ⟨_, rfl⟩
    have hR : W0.heap[w.heap.size + 1]? = some (.cells #[.int .u64 0, .int .u64 0, .int .u64 0, .int .u64 0] 28) := by rw [hW0]; exact heap_new' (by simp) _
    have hFc : W0.heap[w.heap.size]? = some (.cells #[.int .i64 id, .int .u64 (wd p 0 : Int), .int .u64 (wd p 1 : Int), .int .u64 (wd p 2 : Int), .int .u64 (wd p 3 : Int), .int .u64 (i : Int), .int .u64 (wd r 0 : Int), .int .u64 (wd r 1 : Int), .int .u64 (wd r 2 : Int), .int .u64 (wd r 3 : Int), .int .u64 (wd s 0 : Int), .int .u64 (wd s 1 : Int), .int .u64 (wd s 2 : Int), .int .u64 (wd s 3 : Int)] 30) := by rw [hW0]; exact heap_old' (heap_new' rfl _) _
    have HR := Lib.hid hR
    have HK : Hid (∀ W, Off (fun k => k = (w.heap.size + 1)) W0 W → (W.cell? ⟨w.heap.size, 0, none⟩ = some (.int .i64 id) ∧ W.cell? ⟨w.heap.size, 1, none⟩ = some (.int .u64 (wd p 0 : Int)) ∧ W.cell? ⟨w.heap.size, 2, none⟩ = some (.int .u64 (wd p 1 : Int)) ∧ W.cell? ⟨w.heap.size, 3, none⟩ = some (.int .u64 (wd p 2 : Int)) ∧ W.cell? ⟨w.heap.size, 4, none⟩ = some (.int .u64 (wd p 3 : Int)) ∧ W.cell? ⟨w.heap.size, 5, none⟩ = some (.int .u64 (i : Int)) ∧ W.cell? ⟨w.heap.size, 6, none⟩ = some (.int .u64 (wd r 0 : Int)) ∧ W.cell? ⟨w.heap.size, 7, none⟩ = some (.int .u64 (wd r 1 : Int)) ∧ W.cell? ⟨w.heap.size, 8, none⟩ = some (.int .u64 (wd r 2 : Int)) ∧ W.cell? ⟨w.heap.size, 9, none⟩ = some (.int .u64 (wd r 3 : Int)) ∧ W.cell? ⟨w.heap.size, 10, none⟩ = some (.int .u64 (wd s 0 : Int)) ∧ W.cell? ⟨w.heap.size, 11, none⟩ = some (.int .u64 (wd s 1 : Int)) ∧ W.cell? ⟨w.heap.size, 12, none⟩ = some (.int .u64 (wd s 2 : Int)) ∧ W.cell? ⟨w.heap.size, 13, none⟩ = some (.int .u64 (wd s 3 : Int))) ∧ Off (fun k => k = (w.heap.size + 1)) W0 W) := Lib.hid (fun W h => ⟨fv_cells (h.heap hFc (by omega)), h⟩)
    have HOw := Lib.hid (show Off (fun _ => False) w W0 by rw [hW0]; exact (((Off.refl (fun _ => False) w).alloc _).alloc _))
    have HNW := Lib.hid (fun W (h : Off (fun k => k = (w.heap.size + 1)) W0 W) => HN.out W ((HOw.out.mono (S' := fun k => w.heap.size ≤ k) (fun _ _ c => c.elim)).trans h (fun k _ e => by subst e; omega)))
    have HW0 := Lib.hid hW0
    clear hR hFc HN hW0
    go_upto_region 3 with fail
    rw [← HW0.out]
    refine wp_region_inv (fun a0 l a' w' => ∃ (u10 : Value) (u11 : Value) (u12 : Value) (u13 : Value) (u5 : Value), a' = (Act.put (Act.put (Act.put (Act.put (Act.put a0 (some 10) u10) (some 11) u11) (some 12) u12) (some 13) u13) (some 5) u5) ∧ Slot l 0 u10 (FV id p i r s) ∧ Slot l 1 u11 (.slice a n cap) ∧ Slot l 2 u12 (V x) ∧ Slot l 3 u13 (V y) ∧ Slot l 5 u5 (.int .i64 0) ∧ Old l 4 (w.heap.size + 1) W0 w' (.cells #[.int .u64 0, .int .u64 0, .int .u64 0, .int .u64 0] 28) (.cells #[.int .u64 (wd y 0 : Int), .int .u64 (wd y 1 : Int), .int .u64 (wd y 2 : Int), .int .u64 (wd y 3 : Int)] 28) ∧ Off (fun k => k = (w.heap.size + 1)) W0 w') (by kernel_rfl) (by kernel_rfl) ?_ ⟨?_, ?_, ?_, ?_, ?_, ?_, trivial⟩ ?_
    · refine ⟨?z10, ?z11, ?z12, ?z13, ?z5, ?fr, Slot.start _ _ _, Slot.start _ _ _, Slot.start _ _ _, Slot.start _ _ _, Slot.start _ _ _, Old.start HR.out _ _, (Off.refl _ W0).drew⟩
      case fr => first | (simp only [Act.put, List.setIfInBounds_toArray, List.set_cons_zero, List.set_cons_succ]; rfl) | simp only [Act.put, List.setIfInBounds_toArray, List.set_cons_zero, List.set_cons_succ]
    · intro l a wr hI hl hd K' hK
      obtain ⟨u10, u11, u12, u13, u5, ha, s0, s1, s2, s3, s5, O0, hO⟩ := hI
      simp only [Act.put, List.setIfInBounds_toArray, List.set_cons_zero, List.set_cons_succ] at ha
      subst ha
      have hc := HK.out wr hO
      have p0 := hc.1.1
      have p1 := hc.1.2.1
      have p2 := hc.1.2.2.1
      have p3 := hc.1.2.2.2.1
      have p4 := hc.1.2.2.2.2.1
      have p5 := hc.1.2.2.2.2.2.1
      have p6 := hc.1.2.2.2.2.2.2.1
      have p7 := hc.1.2.2.2.2.2.2.2.1
      have p8 := hc.1.2.2.2.2.2.2.2.2.1
      have p9 := hc.1.2.2.2.2.2.2.2.2.2.1
      have p10 := hc.1.2.2.2.2.2.2.2.2.2.2.1
      have p11 := hc.1.2.2.2.2.2.2.2.2.2.2.2.1
      have p12 := hc.1.2.2.2.2.2.2.2.2.2.2.2.2.1
      have p13 := hc.1.2.2.2.2.2.2.2.2.2.2.2.2.2
      clear hc
      go_simp
      refine hK.out _ _ ⟨_, _, _, _, _, ?_, Slot.new _ _ _, s1.keep rfl, s2.keep rfl, s3.keep rfl, s5.keep rfl, O0.keep (Off.refl _ wr) rfl, hO⟩
      simp only [Act.put, List.setIfInBounds_toArray, List.set_cons_zero, List.set_cons_succ]
    · intro l a wr hI hl hd K' hK
      obtain ⟨u10, u11, u12, u13, u5, ha, s0, s1, s2, s3, s5, O0, hO⟩ := hI
      simp only [Act.put, List.setIfInBounds_toArray, List.set_cons_zero, List.set_cons_succ] at ha
      subst ha
      go_simp
      refine hK.out _ _ ⟨_, _, _, _, _, ?_, s0.keep rfl, Slot.new _ _ _, s2.keep rfl, s3.keep rfl, s5.keep rfl, O0.keep (Off.refl _ wr) rfl, hO⟩
      simp only [Act.put, List.setIfInBounds_toArray, List.set_cons_zero, List.set_cons_succ]
    · intro l a wr hI hl hd K' hK
      obtain ⟨u10, u11, u12, u13, u5, ha, s0, s1, s2, s3, s5, O0, hO⟩ := hI
      simp only [Act.put, List.setIfInBounds_toArray, List.set_cons_zero, List.set_cons_succ] at ha
      have q1 := s1 (hd 1 (by decide))
      subst ha q1
      go_simp
      refine (held_inv (HNW.out wr hO) hO).mono ?_
      rintro e w1 ⟨rfl, hO1, hOW⟩
      go_wp2_with fail
      refine hK.out _ _ ⟨_, _, _, _, _, ?_, s0.keep rfl, s1.keep rfl, Slot.new _ _ _, s3.keep rfl, s5.keep rfl, O0.keep hOW rfl, hO1⟩
      simp only [Act.put, List.setIfInBounds_toArray, List.set_cons_zero, List.set_cons_succ]
    · intro l a wr hI hl hd K' hK
      obtain ⟨u10, u11, u12, u13, u5, ha, s0, s1, s2, s3, s5, O0, hO⟩ := hI
      simp only [Act.put, List.setIfInBounds_toArray, List.set_cons_zero, List.set_cons_succ] at ha
      have q0 := s0 (hd 0 (by decide))
      have q2 := s2 (hd 2 (by decide))
      subst ha q0 q2
      go_simp
      refine (held_inv (HT.out wr) hO).mono ?_
      rintro e w1 ⟨rfl, hO1, hOW⟩
      go_wp2_with fail
      refine hK.out _ _ ⟨_, _, _, _, _, ?_, s0.keep rfl, s1.keep rfl, s2.keep rfl, Slot.new _ _ _, s5.keep rfl, O0.keep hOW rfl, hO1⟩
      simp only [Act.put, List.setIfInBounds_toArray, List.set_cons_zero, List.set_cons_succ]
    · intro l a wr hI hl hd K' hK
      obtain ⟨u10, u11, u12, u13, u5, ha, s0, s1, s2, s3, s5, O0, hO⟩ := hI
      simp only [Act.put, List.setIfInBounds_toArray, List.set_cons_zero, List.set_cons_succ] at ha
      have q3 := s3 (hd 3 (by decide))
      subst ha q3
      obtain ⟨⟨m0, m1, m2, m3⟩, fz, lt⟩ := zero_cells (O0.was hl)
      go_simp
      refine hK.out _ _ ⟨_, _, _, _, _, ?_, s0.keep rfl, s1.keep rfl, s2.keep rfl, s3.keep rfl, s5.keep rfl, O0.put hl rfl, setCells_in hO (fun _ => rfl) [.int .u64 (wd y 0 : Int), .int .u64 (wd y 1 : Int), .int .u64 (wd y 2 : Int), .int .u64 (wd y 3 : Int)]⟩
      simp only [Act.put, List.setIfInBounds_toArray, List.set_cons_zero, List.set_cons_succ]
    · intro l a wr hI hl hd K' hK
      obtain ⟨u10, u11, u12, u13, u5, ha, s0, s1, s2, s3, s5, O0, hO⟩ := hI
      simp only [Act.put, List.setIfInBounds_toArray, List.set_cons_zero, List.set_cons_succ] at ha
      subst ha
      go_simp
      refine hK.out _ _ ⟨_, _, _, _, _, ?_, s0.keep rfl, s1.keep rfl, s2.keep rfl, s3.keep rfl, Slot.new _ _ _, O0.keep (Off.refl _ wr) rfl, hO⟩
      simp only [Act.put, List.setIfInBounds_toArray, List.set_cons_zero, List.set_cons_succ]
    · intro l a wc hI hd
      obtain ⟨u10, u11, u12, u13, u5, ha, s0, s1, s2, s3, s5, O0, hO⟩ := hI
      simp only [Act.put, List.setIfInBounds_toArray, List.set_cons_zero, List.set_cons_succ] at ha
      have q0 := s0 (hd 0 (by decide))
      have q1 := s1 (hd 1 (by decide))
      have q2 := s2 (hd 2 (by decide))
      have q3 := s3 (hd 3 (by decide))
      have q5 := s5 (hd 5 (by decide))
      have r0 : wc.heap[(w.heap.size + 1)]? = some (.cells #[.int .u64 (wd y 0 : Int), .int .u64 (wd y 1 : Int), .int .u64 (wd y 2 : Int), .int .u64 (wd y 3 : Int)] 28) := O0.now (hd 4 (by decide))
      subst ha q0 q1 q2 q3 q5
      clear hd s0 s1 s2 s3 s5 O0
      have hOf : Off (fun _ => False) w wc := HOw.out.trans hO (fun k hk e => by omega)
      obtain ⟨p0, p1, p2, p3⟩ := cells4 r0
      have HOf := Lib.hid hOf
      clear hOf hO HOw HK HR HNW r0
      go_wp2
      refine bodyPost_ret (v := .tuple #[V y, .int .i64 0]) (by simp [results, Tryd.results27, go_sem, p0, p1, p2, p3]) rfl ⟨rfl, HOf.out⟩
  · have hd : packV p bs = (0, 8) := by unfold packV; rw [if_neg (by omega)]
    have h1 : ¬ ((n : Int) ≤ 31) := by omega
    have h2 : decide ((31 : Int) < (n : Int)) = true := by simp; omega
    rw [hd, show V (0, 8).1 = _ from lit_small 0 (by decide)]
    clear hb hn hs hF hd
    go_enter Tryd.func27, Tryd.ntmps27
    go_wp2
    refine bodyPost_ret (v := .tuple #[.agg #[.int .u64 ((0 : Nat) : Int), .int .u64 0, .int .u64 0, .int .u64 0], .int .i64 8]) (by simp [results, Tryd.results27, go_sem]) rfl ⟨rfl, ?_⟩
    exact ((Off.refl _ w).alloc _).alloc _
end
section
open Go.RowKit
attribute [local go_sem ↓] Go.wp_at_zero Go.wp_at_succ
/-- What Unpack returns: the bytes and the error. -/
def unpV (v : Nat) (m : Int) : List Nat × Nat := if 0 ≤ m ∧ m ≤ 31 then (if orB ((bytesN v 32).drop m.toNat) = 0 then ((bytesN v 32).take m.toNat, 0) else ([], 10)) else ([], 8)
set_option maxRecDepth 100000 in
set_option maxHeartbeats 4000000 in
theorem unpack_any {id : Int} {p i r s : Nat} (hF : Fld id p i r s) (u : Nat) (hu : u < p) (m : Int) (hm : (Lit.int .i64 m).wf = true) (w : World) :
    Calls Tryd.prog 33 #[FV id p i r s, V u, .int .i64 m] w fun e w' => ∃ sv, e = .returned (.tuple #[sv, .int .i64 ((unpV (mm p u 1) m).2 : Int)]) ∧ SvAt w' sv (unpV (mm p u 1) m).1 ∧ Off (fun _ => False) w w' := by
  have HE := Lib.hid (fun W => encode_any hF u hu W)
  obtain ⟨v, hv⟩ : ∃ v, v = mm p u 1 := ⟨_, rfl⟩
  rw [← hv] at HE ⊢
  clear hF hu hv
  have hmr : -9223372036854775808 ≤ m ∧ m ≤ 9223372036854775807 := bounds_i64 hm
  clear hm
  by_cases hr : 0 ≤ m ∧ m ≤ 31
  · obtain ⟨k, rfl⟩ := Int.eq_ofNat_of_zero_le hr.1
    have hk : k ≤ 31 := by omega
    have hd : unpV v (k : Int) = if orB ((bytesN v 32).drop k) = 0 then ((bytesN v 32).take k, 0) else ([], 10) := by unfold unpV; rw [if_pos hr]; simp
    obtain ⟨q, hq⟩ : ∃ q, q = unpV v (k : Int) := ⟨_, rfl⟩
    rw [← hq] at hd ⊢
    have HQ := Lib.hid hd
    have i1 : decide ((k : Int) < 0) = false := by simp
    have i2 : decide ((31 : Int) < (k : Int)) = false := by simp; omega
    have i3 : ¬ ((k : Int) < 0) := by omega
    have i4 : (k : Int) ≤ 31 := by omega
    have i5 : (0 : Int) ≤ (k : Int) := by omega
    clear hd hr hmr hq
    go_enter Tryd.func33, Tryd.ntmps33
    go_wp2_with fail
    refine (HE.out _).mono ?_
    rintro e u1 ⟨g, rfl, hB, hg, hO⟩
    have hO1 : Off (fun _ => False) w u1 := (((Off.refl (fun _ => False) w).alloc _).alloc _).trans hO (fun _ _ c => c)
    have HB := Lib.hid hB
    have HO := Lib.hid hO1
    have HC := Lib.hid (fun (j : Nat) (h : j < 32) => hB.cell (bytesN_get v 32 j h))
    have hsl := slice_lo g 0 32 32 k (by omega) (by omega)
    rw [Nat.zero_add] at hsl
    clear hB hO hO1 hg HE
    obtain ⟨L, hL⟩ : ∃ L, L = (bytesN v 32).drop k := ⟨_, rfl⟩
    have hLl : L.length = 32 - k := by rw [hL]; simp [bytesN_length]
    have hLs : Small L := by rw [hL]; exact (bytesN_small v 32).drop k
    have hLg : ∀ j, j < 32 - k → L[j]? = some (by8 v (k + j)) := fun j hj => by rw [hL, List.getElem?_drop, bytesN_get _ _ _ (by omega)]
    rw [← hL] at HQ
    have HL := Lib.hid (And.intro hLl (And.intro hLs hLg))
    clear hL hLl hLs hLg
    obtain ⟨r, hr⟩ : ∃ r, r = 32 - k := ⟨_, rfl⟩
    have hrk : k + r = 32 := by omega
    rw [← hr] at hsl
    go_wp2_with fail
    go_loop [9, 25] (fun x i' => ∃ j : Nat, j ≤ r ∧ i' = .int .i64 j ∧ x = .int .u8 (orB (L.take j) : Int)) (fun _ i' => r - (intOf i').toNat)
    case atStart => exact ⟨0, by omega, rfl, rfl⟩
    case round =>
      obtain ⟨j, hj, rfl, rfl⟩ := hrel
      by_cases hlt : j < r
      · have j1 : decide ((j : Int) < (r : Int)) = true := by simp; omega
        have j2 : (j : Int) < (r : Int) := by omega
        have cb := HC.out (k + j) (by omega)
        obtain ⟨hLl, hLs, hLg⟩ := HL.out
        have hx := hLg j (by omega)
        have hb := by8_lt v (k + j)
        have ho := orB_lt (hLs.take j)
        obtain ⟨b, hbx⟩ : ∃ b, b = by8 v (k + j) := ⟨_, rfl⟩
        rw [← hbx] at cb hx hb
        have HS := Lib.hid (show bits .or .u8 (orB (L.take j) : Int) (b : Int) = (orB (L.take (j + 1)) : Int) by
          rw [u8_or_nat _ _ ho hb, ← orB_snoc]
          congr 2
          obtain ⟨h1, h2⟩ := List.getElem?_eq_some_iff.1 hx
          rw [List.take_succ_eq_append_getElem h1, h2])
        clear hLl hLs hLg hx hb ho hbx
        go_wp2
        go_round
        case rel => exact ⟨j + 1, by omega, by go_num, by rw [HS.out]⟩
        case measure => simp [intOf]; omega
      · obtain rfl : j = r := by omega
        obtain ⟨hLl, hLs, hLg⟩ := HL.out
        rw [List.take_of_length_le (by omega)]
        obtain ⟨x, hx⟩ : ∃ x, x = orB L := ⟨_, rfl⟩
        rw [← hx] at HQ ⊢
        clear hLl hLs hLg hx HL HC
        by_cases hz : x = 0
        · have HQ2 := Lib.hid (HQ.out.trans (if_pos hz))
          have hhi := slice_hi g 0 32 32 k (by omega)
          subst hz
          clear HQ
          go_wp2
          go_ret2
          have hq2 := HQ2.out
          subst hq2
          exact ⟨_, rfl, ⟨_, _, _, rfl, by simp [bytesN_length]; omega, by omega, (BsAt.of_blk (S := fun _ => True) HB.out trivial).take k⟩, HO.out⟩
        · have HQ2 := Lib.hid (HQ.out.trans (if_neg hz))
          have z1 : ¬ ((x : Int) = 0) := by omega
          clear HQ hz
          go_wp2
          go_ret2
          have hq2 := HQ2.out
          subst hq2
          exact ⟨_, rfl, ⟨_, _, _, rfl, rfl, Nat.le_refl _, BsAt.nil _ _ _⟩, HO.out⟩
  · have hd : unpV v m = ([], 8) := by unfold unpV; rw [if_neg hr]
    rw [hd]
    clear hd
    by_cases h0 : m < 0
    · have i1 : decide (m < 0) = true := by simp; omega
      clear hr hmr HE
      go_enter Tryd.func33, Tryd.ntmps33
      go_wp2
      go_ret2
      exact ⟨_, rfl, ⟨_, _, _, rfl, rfl, Nat.le_refl _, BsAt.nil _ _ _⟩, ((Off.refl _ w).alloc _).alloc _⟩
    · have i1 : decide (m < 0) = false := by simp; omega
      have i2 : decide ((31 : Int) < m) = true := by simp; omega
      clear hr hmr HE
      go_enter Tryd.func33, Tryd.ntmps33
      go_wp2
      go_ret2
      exact ⟨_, rfl, ⟨_, _, _, rfl, rfl, Nat.le_refl _, BsAt.nil _ _ _⟩, ((Off.refl _ w).alloc _).alloc _⟩
end
section
open Go.RowKit
/-- The slice v holds n bytes of a number in a block of its own from base on. -/
def RowB (w : World) (base : Nat) (v : Value) (n a : Nat) : Prop := w.ownsRow base 5 1 v n ((bytesN a n).map u8v)
theorem RowB.snoc {w : World} {base n a : Nat} {v : Value} {x : Int} (h : w.ownsRow base 5 1 v (n + 1) ((bytesN a n).map u8v ++ [.int .u8 x])) (hx : x = (by8 a n : Int)) : RowB w base v (n + 1) a := by
  subst hx; unfold RowB; rw [bytesN_succ, List.map_append]; exact h
theorem RowB.form {w : World} {base n a : Nat} {v : Value} (h : RowB w base v n a) (hn : 0 < n) : ∃ g cap, v = .slice (some ⟨g, 0, none⟩) n cap ∧ base ≤ g ∧ g < w.heap.size ∧ n ≤ cap := by
  obtain ⟨hl, ⟨rfl, h0⟩ | ⟨g, cap, cur, rfl, hb, hg, hn, _⟩⟩ := h
  · omega
  · exact ⟨g, cap, rfl, hb, heap_lt hg, hn⟩
theorem RowB.at {w : World} {base n a g cap : Nat} (h : RowB w base (.slice (some ⟨g, 0, none⟩) n cap) n a) : BsAt w (some ⟨g, 0, none⟩) (bytesN a n) (fun _ => True) := fun _ =>
  ⟨g, 0, rfl, trivial, fun j x hj => by
    have := World.ownsRow.cells h (g := g) rfl j (u8v x) (by rw [List.getElem?_map, hj]; rfl)
    rw [Addr.add_lit] at this
    exact this⟩
theorem RowB.push {wr w1 : World} {base n a : Nat} {v : Value} {o : Obj} (h : RowB wr base v n a) (hg : (wr.alloc o).grownBy w1 v.ownBlock) : Off (fun y => base ≤ y) wr w1 :=
  ((Off.refl _ wr).alloc o).grown hg (fun y hy => by
    refine ⟨fun _ => (World.ownsRow.lt h y hy).1, fun o' ho => ?_⟩
    rcases (World.ownsRow.alloc h o).2 with ⟨rfl, _⟩ | ⟨g, cap, cur, rfl, _, hgb, _⟩
    · simp [Value.ownBlock] at hy
    · obtain rfl : g = y := by simpa [Value.ownBlock] using hy
      rw [hgb] at ho; cases ho; rfl)
set_option maxHeartbeats 2000000 in
theorem refenc_any (a : Nat) (w : World) :
    Calls Tryd.prog 44 #[V a] w fun e w' => ∃ v, e = .returned v ∧ RowB w' (w.heap.size + 1) v 32 a ∧ Off (fun _ => False) w w' := by
  obtain ⟨i0, hi, hz0, hz1, hz2⟩ := info_parts byte_info
  go_enter Tryd.func44, Tryd.ntmps44
  go_wp2
  go_loopw [3, 4] (fun v i wr => ∃ k : Nat, k ≤ 4 ∧ i = .int .i64 k ∧ RowB wr (w.heap.size + 1) v (8 * k) a ∧ NumAt wr w.heap.size a ∧ Off (fun _ => False) w wr) (fun _ i _ => 4 - (intOf i).toNat)
  case atStart => exact ⟨0, by omega, rfl, World.ownsRow_nil _ _ _ _, heap_new' rfl _, (Off.refl _ w).alloc _⟩
  case round =>
    obtain ⟨k, hk, rfl, hR, hN, hO⟩ := hrel
    by_cases hlt : k < 4
    · have hc := hN.cell k hlt
      have i1 : decide ((k : Int) < 4) = true := by simp; omega
      have H3 := Lib.hid hR
      have HN := Lib.hid hN
      have HO := Lib.hid hO
      clear hR hN hO
      go_wp2
      obtain ⟨wo, rfl⟩ : ∃ wo : World, wo = wr := ⟨_, rfl⟩
      go_loopw [3, 5, 6] (fun v x i wr => ∃ j : Nat, j ≤ 8 ∧ i = .int .i64 j ∧ x = .int .u64 ((wd a k / 256 ^ j : Nat) : Int) ∧ RowB wr (w.heap.size + 1) v (8 * k + j) a ∧ NumAt wr w.heap.size a ∧ Off (fun _ => False) w wr) (fun _ _ i _ => 8 - (intOf i).toNat)
      case atStart => exact ⟨0, by omega, rfl, by simp, H3.out, HN.out, HO.out⟩
      case round =>
        obtain ⟨j, hj, rfl, rfl, hR, hN, hO⟩ := hrel
        have HN' := Lib.hid hN
        have HO' := Lib.hid hO
        have HR' := Lib.hid hR
        clear hR hN hO H3 HN HO
        by_cases hlt2 : j < 8
        · obtain ⟨x, hx⟩ : ∃ x, x = wd a k / 256 ^ j := ⟨_, rfl⟩
          have hxl : x < 18446744073709551616 := by rw [hx]; exact Nat.lt_of_le_of_lt (Nat.div_le_self _ _) (wd_lt a k)
          have HD := Lib.hid (show ((x % 256 : Nat) : Int) = (by8 a (8 * k + j) : Int) by rw [hx, ← by8_wd a k j hlt2]; rfl)
          have HX := Lib.hid (show x / 256 = wd a k / 256 ^ (j + 1) by rw [hx, div_succ])
          rw [← hx]
          clear hx
          have j1 : (j : Int) < 8 := by omega
          have x0 : (0 : Int) ≤ (x : Int) := by omega
          have x1 : (x : Int) ≤ 18446744073709551615 := by omega
          go_wp2_with (at_builtin; refine wpList_append_own _ rfl _ _ 25 rfl (w.heap.size + 1) 5 i0 _ 1 1 Tryd.underlying25 hi hz0 hz1 hz2 rfl (by decide) _ (8 * k + j) _ rfl (World.ownsRow.alloc HR'.out _) ⟨wr.heap.size, 0, none⟩ 1 1 [.int .u8 ((x : Int) % 256)] rfl rfl ?q1 ?q5 ?q2 ?q3 ?q4 ?_)
          case q1 =>
            intro j u hj
            cases j with
            | zero => simp at hj; subst hj; simp [go_sem]
            | succ j => simp at hj
          case q5 => simp [Value.oneCell']
          case q2 => unfold maxLen; omega
          case q3 => omega
          case q4 => have := HN'.out.lt; simp; omega
          intro v' w1 hown hgrow hnil
          have hR1 := RowB.snoc hown HD.out
          have hO1 := RowB.push HR'.out hgrow
          have hN1 : NumAt w1 w.heap.size a := hO1.heap HN'.out (by omega)
          have hO2 : Off (fun _ => False) w w1 := HO'.out.trans hO1 (fun y hy h => by omega)
          have HR1 := Lib.hid hR1
          have HN1 := Lib.hid hN1
          have HO2 := Lib.hid hO2
          clear hown hgrow hnil hR1 hO1 hN1 hO2 HR' HN' HO'
          go_wp2
          go_roundw
          case rel => exact ⟨j + 1, by omega, by go_num, by rw [← HX.out]; rfl, HR1.out, HN1.out, HO2.out⟩
          case measure => simp [intOf]; omega
        · obtain rfl : j = 8 := by omega
          go_wp2
          go_roundw
          case rel => exact ⟨k + 1, by omega, by go_num, by rw [Nat.mul_add]; exact HR'.out, HN'.out, HO'.out⟩
          case measure => simp [intOf]; omega
    · obtain rfl : k = 4 := by omega
      have HR := Lib.hid hR
      have HO := Lib.hid hO
      clear hR hN hO
      go_wp2
      go_ret
      exact ⟨_, rfl, HR.out, HO.out⟩
/-- The block b holds the words of the first k bytes of n. -/
def LowBAt (w : World) (b n k : Nat) : Prop := w.heap[b]? = some (.cells #[.int .u64 (lowB n k 0 : Int), .int .u64 (lowB n k 1 : Int), .int .u64 (lowB n k 2 : Int), .int .u64 (lowB n k 3 : Int)] 27 (0, 0))
theorem LowBAt.cell {w : World} {b n k : Nat} (h : LowBAt w b n k) (i : Nat) (hi : i < 4) : w.cell? ⟨b, i, none⟩ = some (.int .u64 (lowB n k i : Int)) := by
  rw [cell_of_heap h]
  have : i = 0 ∨ i = 1 ∨ i = 2 ∨ i = 3 := by omega
  rcases this with rfl | rfl | rfl | rfl <;> rfl
theorem LowBAt.step {w : World} {b n k : Nat} (h : LowBAt w b n k) (hk : k < 32) : LowBAt (w.setCell ⟨b, k / 8, none⟩ (.int .u64 (lowB n (k + 1) (k / 8) : Int))) b n (k + 1) := by
  have := heap_set h (k / 8) (.int .u64 (lowB n (k + 1) (k / 8) : Int))
  unfold LowBAt
  rw [this]
  have e : ∀ i, i ≠ k / 8 → lowB n (k + 1) i = lowB n k i := fun i hne => by rw [lowB_succ n k i, if_neg hne]; rfl
  have : k / 8 = 0 ∨ k / 8 = 1 ∨ k / 8 = 2 ∨ k / 8 = 3 := by omega
  rcases this with h4 | h4 | h4 | h4 <;> rw [h4] at e ⊢
  · simp [e 1 (by omega), e 2 (by omega), e 3 (by omega)]
  · simp [e 0 (by omega), e 2 (by omega), e 3 (by omega)]
  · simp [e 0 (by omega), e 1 (by omega), e 3 (by omega)]
  · simp [e 0 (by omega), e 1 (by omega), e 2 (by omega)]
attribute [local go_sem ↓] Go.wp_at_zero Go.wp_at_succ
set_option maxRecDepth 100000 in
set_option maxHeartbeats 4000000 in
theorem refnumber_any (a : Option Addr) (n cap : Nat) (bs : List Nat) (S : Nat → Prop) (w : World) (hb : BsAt w a bs S) (hn : n = bs.length) (hs : Small bs) (h32 : n ≤ 32) :
    Calls Tryd.prog 29 #[.slice a n cap] w fun e w' => e = .returned (V (numB bs)) ∧ Off (fun _ => False) w w' := by
  obtain ⟨N, hN⟩ : ∃ N, N = numB bs := ⟨_, rfl⟩
  have HB := Lib.hid (fun (W : World) (h : Off (fun _ => False) w W) (k : Nat) (hk : k < n) => show ∃ b off, a = some ⟨b, off, none⟩ ∧ W.cell? ⟨b, off + k, none⟩ = some (.int .u8 (by8 N k : Int)) by
    obtain ⟨b, off, ha, _, hc⟩ := hb (by omega)
    have h1 := hc k (bs[k]'(by omega)) (List.getElem?_eq_getElem _)
    have h2 := by8_numB hs (List.getElem?_eq_getElem (show k < bs.length by omega))
    exact ⟨b, off, ha, by rw [hN, h2]; exact h.cell h1 (fun c => c)⟩)
  have HF := Lib.hid (fun i => show lowB N n i = wd N i by unfold lowB; rw [hN, hn, Nat.mod_eq_of_lt (numB_lt hs)])
  rw [← hN]
  clear hb hn hs hN
  go_enter Tryd.func29, Tryd.ntmps29
  go_wp2
  go_loopw [4] (fun i wr => ∃ k : Nat, k ≤ n ∧ i = .int .i64 k ∧ LowBAt wr (w.heap.size + 1) N k ∧ PartAt wr w.heap.size 0 0 ∧ Off (fun _ => False) w wr) (fun i _ => n - (intOf i).toNat)
  case atStart => exact ⟨0, by omega, rfl, by unfold LowBAt; simp only [lowB_zero]; exact heap_new' (by simp) _, heap_old' (heap_new' rfl _) _, ((Off.refl _ w).alloc _).alloc _⟩
  case round =>
    obtain ⟨k, hk, rfl, hL, hP, hO⟩ := hrel
    by_cases hlt : k < n
    · have i1 : decide ((k : Int) < (n : Int)) = true := by simp; omega
      have i2 : decide ((k : Int) < 32) = true := by simp; omega
      have i3 : (k : Int) < (n : Int) := by omega
      have i4 : (k : Int) < 32 := by omega
      have HL := Lib.hid hL
      have HP := Lib.hid hP
      have HO := Lib.hid hO
      clear hL hP hO
      go_wp2
      go_loop [5, 6] (fun u i => ∃ j : Nat, j ≤ k % 8 ∧ i = .int .i64 j ∧ u = .int .u64 ((256 ^ j : Nat) : Int)) (fun _ i => k % 8 - (intOf i).toNat)
      case atStart => exact ⟨0, by omega, rfl, rfl⟩
      case round =>
        obtain ⟨j, hj, rfl, rfl⟩ := hrel
        by_cases hlt2 : j < k % 8
        · have j1 : (j : Int) < (k : Int) % 8 := by omega
          have HU := Lib.hid (Nat.pow_succ (n := 256) (m := j))
          have hu : 256 ^ j ≤ 256 ^ 6 := Nat.pow_le_pow_right (by omega) (by omega)
          have hu0 : 0 < 256 ^ j := Nat.pow_pos (by omega)
          obtain ⟨u, hu2⟩ : ∃ u, u = 256 ^ j := ⟨_, rfl⟩
          rw [← hu2] at HU hu hu0 ⊢
          obtain ⟨v, hv⟩ : ∃ v, v = u * 256 := ⟨_, rfl⟩
          have v0 : IntKind.u64.wrap ((u : Int) * 256) = (v : Int) := by simp at hu; rw [IntKind.wrap_u64]; omega
          rw [← hv] at HU
          clear hu2 hu hu0 hv
          go_wp2
          go_round
          case rel => exact ⟨j + 1, by omega, by go_num, by rw [HU.out]⟩
          case measure => simp [intOf]; omega
        · obtain rfl : j = k % 8 := by omega
          have j1 : ¬ ((k % 8 : Nat) : Int) < (k : Int) % 8 := by omega
          obtain ⟨q, hq⟩ : ∃ q, q = k / 8 := ⟨_, rfl⟩
          have co := HL.out.cell q (by omega)
          have q0 : (k : Int) / 8 = (q : Int) := by omega
          have q1 : (q : Int) < 4 := by omega
          have q2 : (0 : Int) ≤ (q : Int) := by omega
          obtain ⟨bb, off, rfl, cd⟩ := HB.out wr HO.out k hlt
          have hd := by8_lt N k
          have hsum := lowB_sum N k
          have hnext := lowB_succ N k q
          rw [if_pos hq] at hnext
          rw [← hq] at hsum
          have ffz := frozen_of_heap HL.out q
          have hu : 256 ^ (k % 8) ≤ 256 ^ 7 := Nat.pow_le_pow_right (by omega) (by omega)
          obtain ⟨u, hu2⟩ : ∃ u, u = 256 ^ (k % 8) := ⟨_, rfl⟩
          rw [← hu2] at hnext hsum hu ⊢
          obtain ⟨d, hd2⟩ : ∃ d, d = by8 N k := ⟨_, rfl⟩
          rw [← hd2] at cd hd hnext hsum
          obtain ⟨l, hl2⟩ : ∃ l, l = lowB N k q := ⟨_, rfl⟩
          rw [← hl2] at co hnext hsum
          obtain ⟨m, hm⟩ : ∃ m, m = d * u := ⟨_, rfl⟩
          rw [← hm] at hnext hsum
          obtain ⟨t, ht⟩ : ∃ t, t = l + m := ⟨_, rfl⟩
          rw [← ht] at hnext hsum
          have m0 : IntKind.u64.wrap ((d : Int) * (u : Int)) = (m : Int) := by rw [IntKind.wrap_u64]; omega
          have t0 : IntKind.u64.wrap ((l : Int) + (m : Int)) = (t : Int) := by rw [IntKind.wrap_u64]; omega
          have c0 : IntKind.u64.wrap (d : Int) = (d : Int) := by rw [IntKind.wrap_u64]; omega
          have HT := Lib.hid hnext
          have q3 : (k : Int).tdiv 8 = (q : Int) := by rw [Int.tdiv_eq_ediv_of_nonneg (by omega)]; exact q0
          have HQ := Lib.hid hq
          have q4 : IntKind.i64.wrap (q : Int) = (q : Int) := IntWalk.i64_in _ (by omega)
          clear hnext hsum hu hu2 hd2 hl2 hm ht hq
          go_wp2
          go_still_tail 13, (by kernel_rfl)
          change wpList _ _ _ _ _ wr.drew
          go_wp2
          go_roundw
          case rel => exact ⟨k + 1, by omega, by go_num, by rw [← HT.out, HQ.out]; exact HL.out.step (by omega), (Below.heap_setCell _ _ _ _ (by simp)).trans HP.out, (HO.out.setCell (fun c => by simp at c; omega) _).drew⟩
          case measure => simp [intOf]; omega
    · obtain rfl : k = n := by omega
      have c0 := hL.cell 0 (by omega)
      have c1 := hL.cell 1 (by omega)
      have c2 := hL.cell 2 (by omega)
      have c3 := hL.cell 3 (by omega)
      rw [HF.out] at c0 c1 c2 c3
      have fz := fun k => frozen_of_heap hP.old k
      have r0 := hP.cell0 0 (by omega)
      have r1 := hP.cell0 1 (by omega)
      have r2 := hP.cell0 2 (by omega)
      have r3 := hP.cell0 3 (by omega)
      have HO := Lib.hid hO
      clear hL hP hO
      go_wp2
      refine bodyPost_ret (v := V N) (by simp [results, Tryd.results29, go_sem, r0, r1, r2, r3]) rfl ⟨rfl, ?_⟩
      have hn : ∀ j, (⟨w.heap.size, j, none⟩ : Addr).block < w.heap.size → False := fun j c => by simp at c
      exact (((HO.out.setCell (hn 0) _).setCell (hn 1) _).setCell (hn 2) _).setCell (hn 3) _
set_option maxRecDepth 100000 in
set_option maxHeartbeats 4000000 in
theorem refunpack_any (v : Nat) (m : Int) (hm : (Lit.int .i64 m).wf = true) (w : World) :
    Calls Tryd.prog 34 #[V v, .int .i64 m] w fun e w' => ∃ sv, e = .returned (.tuple #[sv, .int .i64 ((unpV v m).2 : Int)]) ∧ SvAt w' sv (unpV v m).1 ∧ Off (fun _ => False) w w' := by
  have HE := Lib.hid (fun W => refenc_any v W)
  have hmr : -9223372036854775808 ≤ m ∧ m ≤ 9223372036854775807 := bounds_i64 hm
  clear hm
  by_cases hr : 0 ≤ m ∧ m ≤ 31
  · obtain ⟨k, rfl⟩ := Int.eq_ofNat_of_zero_le hr.1
    have hk : k ≤ 31 := by omega
    have hd : unpV v (k : Int) = if orB ((bytesN v 32).drop k) = 0 then ((bytesN v 32).take k, 0) else ([], 10) := by unfold unpV; rw [if_pos hr]; simp
    obtain ⟨q, hq⟩ : ∃ q, q = unpV v (k : Int) := ⟨_, rfl⟩
    rw [← hq] at hd ⊢
    have HQ := Lib.hid hd
    have i1 : decide ((k : Int) < 0) = false := by simp
    have i2 : decide ((31 : Int) < (k : Int)) = false := by simp; omega
    have i3 : ¬ ((k : Int) < 0) := by omega
    have i4 : (k : Int) ≤ 31 := by omega
    have i5 : (0 : Int) ≤ (k : Int) := by omega
    clear hd hr hmr hq
    go_enter Tryd.func34, Tryd.ntmps34
    go_wp2_with fail
    refine (HE.out _).mono ?_
    rintro e u1 ⟨sv, rfl, hR, hO⟩
    obtain ⟨g, cap, rfl, hg, hgl, hcap⟩ := hR.form (by omega)
    have hO1 : Off (fun _ => False) w u1 := ((Off.refl (fun _ => False) w).alloc _).trans hO (fun _ _ c => c)
    have hB := hR.at
    have hC : ∀ j, j < 32 → u1.cell? ⟨g, j, none⟩ = some (u8v (by8 v j)) := fun j hj => by
      obtain ⟨b, off, ha, _, hc⟩ := hB (by rw [bytesN_length]; omega)
      simp at ha
      obtain ⟨rfl, rfl⟩ := ha
      have := hc j _ (bytesN_get v 32 j hj)
      rwa [Nat.zero_add] at this
    have HB := Lib.hid hB
    have HO := Lib.hid hO1
    have HC := Lib.hid hC
    have HL := Lib.hid (show (∀ t, t < 32 - k → by8 v (k + t) = 0) → orB ((bytesN v 32).drop k) = 0 by
      intro h
      rw [orB_zero]
      intro x hx
      obtain ⟨t, ht⟩ := List.getElem?_of_mem hx
      have hl := (List.getElem?_eq_some_iff.1 ht).1
      rw [List.length_drop, bytesN_length] at hl
      rw [List.getElem?_drop, bytesN_get _ _ _ (by omega)] at ht
      have := h t hl
      simp at ht
      omega)
    have HM := Lib.hid (show ∀ t, t < 32 - k → by8 v (k + t) ≠ 0 → orB ((bytesN v 32).drop k) ≠ 0 by
      intro t ht h h2
      rw [orB_zero] at h2
      exact h (h2 _ (List.mem_of_getElem? (i := t) (by rw [List.getElem?_drop, bytesN_get _ _ _ (by omega)]))))
    have hhi := slice_hi g 0 32 cap k (by omega)
    clear hB hO hO1 hg HE hR hC
    obtain ⟨z, hz⟩ : ∃ z, z = orB ((bytesN v 32).drop k) := ⟨_, rfl⟩
    rw [← hz] at HQ HL HM
    clear hz
    go_wp2_with fail
    go_loop [7] (fun i' => ∃ j : Nat, k + j ≤ 32 ∧ i' = .int .i64 ((k + j : Nat) : Int) ∧ Hid (∀ t, t < j → by8 v (k + t) = 0)) (fun i' => 32 - (intOf i').toNat)
    case atStart => exact ⟨0, by omega, rfl, Lib.hid (fun t ht => absurd ht (by omega))⟩
    case round =>
      obtain ⟨j, hj, rfl, hZ⟩ := hrel
      obtain ⟨x, hx⟩ : ∃ x, x = k + j := ⟨_, rfl⟩
      have HX := Lib.hid hx
      have hx2 : x ≤ 32 := by omega
      rw [← hx]
      by_cases hlt : x < 32
      · have j1 : decide ((x : Int) < 32) = true := by simp; omega
        have j2 : (x : Int) < 32 := by omega
        have cb := HC.out x hlt
        have hM := HM.out j (by omega)
        rw [← hx] at hM
        have hb := by8_lt v x
        obtain ⟨b, hbx⟩ : ∃ b, b = by8 v x := ⟨_, rfl⟩
        rw [← hbx] at cb hb hM
        by_cases hb0 : b = 0
        · have HZ := Lib.hid (show ∀ t, t < j + 1 → by8 v (k + t) = 0 by
            intro t ht
            rcases Nat.lt_or_ge t j with h | h
            · exact hZ.out t h
            · obtain rfl : t = j := by omega
              rw [← hx, ← hbx]; exact hb0)
          subst hb0
          clear hM hb hbx hZ hx hx2
          go_wp2
          go_round
          case rel => exact ⟨j + 1, by have := HX.out; omega, by have := HX.out; rw [show k + (j + 1) = x + 1 by omega]; go_num, HZ⟩
          case measure => simp [intOf]; omega
        · have HQ2 := Lib.hid (HQ.out.trans (if_neg (hM hb0)))
          have b1 : ¬ ((b : Int) = 0) := by omega
          clear hM hb hbx hZ hx hx2 HQ hb0 HL HM
          go_wp2
          go_ret2
          have hq2 := HQ2.out
          subst hq2
          exact ⟨_, rfl, ⟨_, _, _, rfl, rfl, Nat.le_refl _, BsAt.nil _ _ _⟩, HO.out⟩
      · obtain rfl : x = 32 := by omega
        have HQ2 := Lib.hid (HQ.out.trans (if_pos (HL.out (fun t ht => hZ.out t (by omega)))))
        clear hZ hx hx2 HQ HL HM HC
        go_wp2
        go_ret2
        have hq2 := HQ2.out
        subst hq2
        exact ⟨_, rfl, ⟨_, _, _, rfl, by simp [bytesN_length]; omega, by omega, HB.out.take k⟩, HO.out⟩
  · have hd : unpV v m = ([], 8) := by unfold unpV; rw [if_neg hr]
    rw [hd]
    clear hd
    by_cases h0 : m < 0
    · have i1 : decide (m < 0) = true := by simp; omega
      clear hr hmr HE
      go_enter Tryd.func34, Tryd.ntmps34
      go_wp2
      go_ret2
      exact ⟨_, rfl, ⟨_, _, _, rfl, rfl, Nat.le_refl _, BsAt.nil _ _ _⟩, (Off.refl _ w).alloc _⟩
    · have i1 : decide (m < 0) = false := by simp; omega
      have i2 : decide ((31 : Int) < m) = true := by simp; omega
      clear hr hmr HE
      go_enter Tryd.func34, Tryd.ntmps34
      go_wp2
      go_ret2
      exact ⟨_, rfl, ⟨_, _, _, rfl, rfl, Nat.le_refl _, BsAt.nil _ _ _⟩, (Off.refl _ w).alloc _⟩
/-- The number of at most 31 bytes, and its bytes. -/
theorem unp_pack {bs : List Nat} (hs : Small bs) (h : bs.length ≤ 31) : unpV (numB bs) (bs.length : Int) = (bs, 0) := by
  unfold unpV
  rw [if_pos ⟨by omega, by omega⟩, Int.toNat_natCast]
  have h1 : (bytesN (numB bs) 32).take bs.length = bs := by rw [bytesN_take _ _ _ (by omega), bytesN_numB hs]
  have h2 : orB ((bytesN (numB bs) 32).drop bs.length) = 0 := by
    rw [orB_zero]
    intro x hx
    obtain ⟨t, ht⟩ := List.getElem?_of_mem hx
    have hl := (List.getElem?_eq_some_iff.1 ht).1
    rw [List.length_drop, bytesN_length] at hl
    rw [List.getElem?_drop, bytesN_get _ _ _ (by omega), by8_over hs (by omega)] at ht
    exact (Option.some.inj ht).symm
  rw [if_pos h2, h1]
theorem fld_big {id : Int} {p i r s : Nat} (hF : Fld id p i r s) : 256 ^ 31 ≤ p := by
  have h := hF.mod
  have h0 := hF.mp.pos
  unfold modN at h
  split at h
  · subst h; decide +kernel
  · split at h
    · subst h; decide +kernel
    · omega
end
end Go.Proofs.YtllhfkcgocbblaaDoor
