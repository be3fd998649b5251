/-
  The contract of power.powersOf over this seat's translation: the table of an element's powers, to 15. Condition: the field's constants are those of its modulus.
  The contract of mask.Equal over this seat's translation, over that of mask.IsZero. Condition: the arguments are words.
  The contract of the method read of power's tables over this seat's translation: the entry at an index, the tape notes each entry's number. Conditions: the index is one of the table's; the table is none of the tape's blocks; the tape has room for the events.
  The contracts of power.Pow and power.Inverse over this seat's translation: the element whose value is the power; the tape notes the steps and the readings of the table. Conditions: the field's constants are those of its modulus; the tape has room for the events.
  The contract of power.Inverse over this seat's translation: the element whose value is the power with the exponent p - 2; the tape notes Pow's events. Conditions: the field's constants are those of its modulus; the tape has room for the events.
-/
import Derived.Test.YtnegdlmpmmehmaaDoorNums
import Derived.Test.YtnegdlmpmmehmaaDoorPowPlain
import Derived.Test.YtnegdlmpmmehmaaDoorMontMul
import Derived.Test.YtnegdlmpmmehmaaDoorInvTape
import Derived.Test.YtnegdlmpmmehmaaDoorFieldHeld
import Derived.Test.YtnegdlmpmmehmaaDoorMaskBase
import Derived.Test.YtnegdlmpmmehmaaDoorOff
import Derived.Test.YtnegdlmpmmehmaaDoorMontOps
import Derived.Test.YtnegdlmpmmehmaaDoorLimbBits
namespace Go.Proofs.YtnegdlmpmmehmaaDoor
section
open Go.RowKit
attribute [local go_sem ↓] Go.wp_at_zero Go.wp_at_succ

/-- The table when the powers to k have been filled in. -/
def tblV (p v k : Nat) : List Nat := (List.range 16).map (fun j => if j ≤ k then fm p (v ^ j % p) else 0)
theorem tblV_length (p v k : Nat) : (tblV p v k).length = 16 := by simp [tblV]
theorem tblV_get {p v k j : Nat} (hj : j ≤ k) (hk : k < 16) : (tblV p v k)[j]? = some (fm p (v ^ j % p)) := by
  unfold tblV
  rw [List.getElem?_map, List.getElem?_range (by omega)]
  simp [hj]
theorem tblV_next {p v k : Nat} (hk : k + 1 < 16) : (tblV p v k).set (k + 1) (fm p (v ^ (k + 1) % p)) = tblV p v (k + 1) := by
  apply List.ext_getElem?
  intro j
  by_cases hj : j = k + 1
  · subst hj
    rw [List.getElem?_set_self (by rw [tblV_length]; omega), tblV_get (Nat.le_refl _) hk]
  · rw [List.getElem?_set_ne (fun e => hj e.symm)]
    unfold tblV
    rw [List.getElem?_map, List.getElem?_map]
    by_cases hj2 : j < 16
    · rw [List.getElem?_range hj2]
      simp only [Option.map_some, Option.some.injEq]
      by_cases h1 : j ≤ k
      · rw [if_pos h1, if_pos (by omega)]
      · rw [if_neg h1, if_neg (by omega)]
    · rw [List.getElem?_eq_none (by simp; omega)]; rfl
theorem tbl_lit (r : Nat) : (flat4 [r, 0, 0, 0, 0, 0, 0, 0, 0, 0, 0, 0, 0, 0, 0, 0]).toArray = #[.int .u64 (wd r 0 : Int), .int .u64 (wd r 1 : Int), .int .u64 (wd r 2 : Int), .int .u64 (wd r 3 : Int), .int .u64 0, .int .u64 0, .int .u64 0, .int .u64 0, .int .u64 0, .int .u64 0, .int .u64 0, .int .u64 0, .int .u64 0, .int .u64 0, .int .u64 0, .int .u64 0, .int .u64 0, .int .u64 0, .int .u64 0, .int .u64 0, .int .u64 0, .int .u64 0, .int .u64 0, .int .u64 0, .int .u64 0, .int .u64 0, .int .u64 0, .int .u64 0, .int .u64 0, .int .u64 0, .int .u64 0, .int .u64 0, .int .u64 0, .int .u64 0, .int .u64 0, .int .u64 0, .int .u64 0, .int .u64 0, .int .u64 0, .int .u64 0, .int .u64 0, .int .u64 0, .int .u64 0, .int .u64 0, .int .u64 0, .int .u64 0, .int .u64 0, .int .u64 0, .int .u64 0, .int .u64 0, .int .u64 0, .int .u64 0, .int .u64 0, .int .u64 0, .int .u64 0, .int .u64 0, .int .u64 0, .int .u64 0, .int .u64 0, .int .u64 0, .int .u64 0, .int .u64 0, .int .u64 0, .int .u64 0] := by
  simp only [flat4, wd_zero]
  rfl
theorem tblV_zero (p v : Nat) : tblV p v 0 = [radV p 256, 0, 0, 0, 0, 0, 0, 0, 0, 0, 0, 0, 0, 0, 0, 0] := by
  rw [← pow_zero_fm p v]; rfl

set_option maxRecDepth 100000 in
set_option maxHeartbeats 4000000 in
theorem powersof_any {id : Int} {p i r s : Nat} (hF : Fld id p i r s) (v : Nat) (w : World) :
    Calls Tryd.prog 28 #[FV id p i r s, V (fm p v)] w fun e w' => ∃ b, e = .returned (.pointer (some ⟨b, 0, none⟩)) ∧ w.heap.size ≤ b ∧ NumsAt w' b 80 (tblV p v 15) ∧ Off (fun _ => False) w w' := by
  have hm := hF.mp
  have HM := Lib.hid (fun k (hk : k < 15) W => by have h := mmul_any hF (fm p (v ^ k % p)) (fm p v) (Nat.lt_trans (fm_lt hm.pos _) hm.lt) (fm_lt hm.pos _) W; rw [pow_mm1 hm] at h; exact h : ∀ k, k < 15 → ∀ W, Calls Tryd.prog 32 #[FV id p i r s, V (fm p (v ^ k % p)), V (fm p v)] W fun e w' => e = .returned (V (fm p (v ^ (k + 1) % p))) ∧ Off (fun _ => False) W w')
  have hz : r = radV p 256 := hF.rr
  obtain ⟨x, hx⟩ : ∃ x, x = fm p v := ⟨_, rfl⟩
  rw [← hx] at HM ⊢
  obtain ⟨b, hb⟩ : ∃ b, b = w.heap.size + 1 + 1 := ⟨_, rfl⟩
  obtain ⟨W0, hW0⟩ : ∃ W0, W0 = ((w.alloc (.cells #[.int .i64 id, .int .u64 (wd p 0 : Int), .int .u64 (wd p 1 : Int), .int .u64 (wd p 2 : Int), .int .u64 (wd p 3 : Int), .int .u64 (i : Int), .int .u64 (wd r 0 : Int), .int .u64 (wd r 1 : Int), .int .u64 (wd r 2 : Int), .int .u64 (wd r 3 : Int), .int .u64 (wd s 0 : Int), .int .u64 (wd s 1 : Int), .int .u64 (wd s 2 : Int), .int .u64 (wd s 3 : Int)] 26)).alloc (.cells #[.int .u64 (wd x 0 : Int), .int .u64 (wd x 1 : Int), .int .u64 (wd x 2 : Int), .int .u64 (wd x 3 : Int)] 24)).alloc (.cells #[.int .u64 (wd r 0 : Int), .int .u64 (wd r 1 : Int), .int .u64 (wd r 2 : Int), .int .u64 (wd r 3 : Int), .int .u64 0, .int .u64 0, .int .u64 0, .int .u64 0, .int .u64 0, .int .u64 0, .int .u64 0, .int .u64 0, .int .u64 0, .int .u64 0, .int .u64 0, .int .u64 0, .int .u64 0, .int .u64 0, .int .u64 0, .int .u64 0, .int .u64 0, .int .u64 0, .int .u64 0, .int .u64 0, .int .u64 0, .int .u64 0, .int .u64 0, .int .u64 0, .int .u64 0, .int .u64 0, .int .u64 0, .int .u64 0, .int .u64 0, .int .u64 0, .int .u64 0, .int .u64 0, .int .u64 0, .int .u64 0, .int .u64 0, .int .u64 0, .int .u64 0, .int .u64 0, .int .u64 0, .int .u64 0, .int .u64 0, .int .u64 0, .int .u64 0, .int .u64 0, .int .u64 0, .int .u64 0, .int .u64 0, .int .u64 0, .int .u64 0, .int .u64 0, .int .u64 0, .int .u64 0, .int .u64 0, .int .u64 0, .int .u64 0, .int .u64 0, .int .u64 0, .int .u64 0, .int .u64 0, .int .u64 0] 80) := ⟨_, rfl⟩
  have hFb : W0.heap[w.heap.size]? = some (.cells #[.int .i64 id, .int .u64 (wd p 0 : Int), .int .u64 (wd p 1 : Int), .int .u64 (wd p 2 : Int), .int .u64 (wd p 3 : Int), .int .u64 (i : Int), .int .u64 (wd r 0 : Int), .int .u64 (wd r 1 : Int), .int .u64 (wd r 2 : Int), .int .u64 (wd r 3 : Int), .int .u64 (wd s 0 : Int), .int .u64 (wd s 1 : Int), .int .u64 (wd s 2 : Int), .int .u64 (wd s 3 : Int)] 26) := by rw [hW0]; exact heap_old' (heap_old' (heap_new' rfl _) _) _
  have hXb : W0.heap[w.heap.size + 1]? = some (.cells #[.int .u64 (wd x 0 : Int), .int .u64 (wd x 1 : Int), .int .u64 (wd x 2 : Int), .int .u64 (wd x 3 : Int)] 24) := by rw [hW0]; exact heap_old' (heap_new' (by simp) _) _
  have hT0 : NumsAt W0 b 80 (tblV p v 0) := by rw [hW0, hb, ← tbl_lit, hz, ← tblV_zero p v]; exact heap_new' (by simp) _
  have hO0 : Off (fun _ => False) w W0 := by rw [hW0]; exact (((Off.refl _ w).alloc _).alloc _).alloc _
  have hK : ∀ W, Off (fun k => k = b) W0 W → (W.cell? ⟨w.heap.size, 0, none⟩ = some (.int .i64 id) ∧ W.cell? ⟨w.heap.size, 1, none⟩ = some (.int .u64 (wd p 0 : Int)) ∧ W.cell? ⟨w.heap.size, 2, none⟩ = some (.int .u64 (wd p 1 : Int)) ∧ W.cell? ⟨w.heap.size, 3, none⟩ = some (.int .u64 (wd p 2 : Int)) ∧ W.cell? ⟨w.heap.size, 4, none⟩ = some (.int .u64 (wd p 3 : Int)) ∧ W.cell? ⟨w.heap.size, 5, none⟩ = some (.int .u64 (i : Int)) ∧ W.cell? ⟨w.heap.size, 6, none⟩ = some (.int .u64 (wd r 0 : Int)) ∧ W.cell? ⟨w.heap.size, 7, none⟩ = some (.int .u64 (wd r 1 : Int)) ∧ W.cell? ⟨w.heap.size, 8, none⟩ = some (.int .u64 (wd r 2 : Int)) ∧ W.cell? ⟨w.heap.size, 9, none⟩ = some (.int .u64 (wd r 3 : Int)) ∧ W.cell? ⟨w.heap.size, 10, none⟩ = some (.int .u64 (wd s 0 : Int)) ∧ W.cell? ⟨w.heap.size, 11, none⟩ = some (.int .u64 (wd s 1 : Int)) ∧ W.cell? ⟨w.heap.size, 12, none⟩ = some (.int .u64 (wd s 2 : Int)) ∧ W.cell? ⟨w.heap.size, 13, none⟩ = some (.int .u64 (wd s 3 : Int))) ∧ (W.cell? ⟨w.heap.size + 1, 0, none⟩ = some (.int .u64 (wd x 0 : Int)) ∧ W.cell? ⟨w.heap.size + 1, 1, none⟩ = some (.int .u64 (wd x 1 : Int)) ∧ W.cell? ⟨w.heap.size + 1, 2, none⟩ = some (.int .u64 (wd x 2 : Int)) ∧ W.cell? ⟨w.heap.size + 1, 3, none⟩ = some (.int .u64 (wd x 3 : Int))) ∧ Off (fun k => k = b) W0 W := fun W h =>
    ⟨fv_cells (h.heap hFb (by omega)), cells4 (h.heap hXb (by omega)), h⟩
  have HX := Lib.hid hx
  have HW0 := Lib.hid hW0
  have HK := Lib.hid hK
  have HT0 := Lib.hid hT0
  have HO0 := Lib.hid hO0
  have hlt : w.heap.size < b := by omega
  have hlt1 : w.heap.size + 1 < b := by omega
  have HB := Lib.hid hb
  clear hx hm hF hz hK hT0 hO0 hFb hXb hW0
  go_enter Tryd.func28, Tryd.ntmps28
  go_wp2_with fail
  rw [← hb]
  clear hb
  rw [← HW0.out]
  go_loopw [11] (fun i wr => ∃ k : Nat, k ≤ 15 ∧ i = .int .i64 (k : Int) ∧ NumsAt wr b 80 (tblV p v k) ∧ Off (fun k => k = b) W0 wr) (fun i _ => 15 - (intOf i).toNat)
  case atStart => exact ⟨0, by omega, rfl, HT0.out, Off.refl _ _⟩
  case round =>
    obtain ⟨k, hk, rfl, hN, hO⟩ := hrel
    by_cases hlt2 : k < 15
    · have HN := Lib.hid hN
      have HO := Lib.hid hO
      clear hN hO
      obtain ⟨W1, hW1⟩ : ∃ W1, W1 = wr := ⟨_, rfl⟩
      subst hW1
      have HK1 : Hid (∀ W, Off (fun k => k = b) W1 W → (W.cell? ⟨w.heap.size, 0, none⟩ = some (.int .i64 id) ∧ W.cell? ⟨w.heap.size, 1, none⟩ = some (.int .u64 (wd p 0 : Int)) ∧ W.cell? ⟨w.heap.size, 2, none⟩ = some (.int .u64 (wd p 1 : Int)) ∧ W.cell? ⟨w.heap.size, 3, none⟩ = some (.int .u64 (wd p 2 : Int)) ∧ W.cell? ⟨w.heap.size, 4, none⟩ = some (.int .u64 (wd p 3 : Int)) ∧ W.cell? ⟨w.heap.size, 5, none⟩ = some (.int .u64 (i : Int)) ∧ W.cell? ⟨w.heap.size, 6, none⟩ = some (.int .u64 (wd r 0 : Int)) ∧ W.cell? ⟨w.heap.size, 7, none⟩ = some (.int .u64 (wd r 1 : Int)) ∧ W.cell? ⟨w.heap.size, 8, none⟩ = some (.int .u64 (wd r 2 : Int)) ∧ W.cell? ⟨w.heap.size, 9, none⟩ = some (.int .u64 (wd r 3 : Int)) ∧ W.cell? ⟨w.heap.size, 10, none⟩ = some (.int .u64 (wd s 0 : Int)) ∧ W.cell? ⟨w.heap.size, 11, none⟩ = some (.int .u64 (wd s 1 : Int)) ∧ W.cell? ⟨w.heap.size, 12, none⟩ = some (.int .u64 (wd s 2 : Int)) ∧ W.cell? ⟨w.heap.size, 13, none⟩ = some (.int .u64 (wd s 3 : Int))) ∧ (W.cell? ⟨w.heap.size + 1, 0, none⟩ = some (.int .u64 (wd x 0 : Int)) ∧ W.cell? ⟨w.heap.size + 1, 1, none⟩ = some (.int .u64 (wd x 1 : Int)) ∧ W.cell? ⟨w.heap.size + 1, 2, none⟩ = some (.int .u64 (wd x 2 : Int)) ∧ W.cell? ⟨w.heap.size + 1, 3, none⟩ = some (.int .u64 (wd x 3 : Int))) ∧ Off (fun k => k = b) W1 W) := Lib.hid (fun W h => by
        have h1 := HK.out W (HO.out.trans h (fun _ _ c => c))
        exact ⟨h1.1, h1.2.1, h⟩)
      obtain ⟨o, ho⟩ : ∃ o, o = fm p (v ^ k % p) := ⟨_, rfl⟩
      obtain ⟨n, hn⟩ : ∃ n, n = fm p (v ^ (k + 1) % p) := ⟨_, rfl⟩
      have HG := Lib.hid (show (tblV p v k)[k]? = some o by rw [ho]; exact tblV_get (Nat.le_refl _) (by omega))
      obtain ⟨g, hg⟩ : ∃ g, (tblV p v k)[k + 1]? = some g := ⟨_, List.getElem?_eq_getElem (by rw [tblV_length]; omega)⟩
      have HG1 := Lib.hid hg
      have HC := Lib.hid (show ∀ W, Calls Tryd.prog 32 #[FV id p i r s, V o, V x] W fun e w' => e = .returned (V n) ∧ Off (fun _ => False) W w' by rw [ho, hn]; exact HM.out k hlt2)
      have HP := Lib.hid (show ∀ W : World, W.heap[b]? = some (.cells (flat4 (tblV p v k)).toArray 80 (0, 0)) → (W.setCells b ((k + 1) * 4) (words4 n)).heap[b]? = some (.cells (flat4 (tblV p v (k + 1))).toArray 80 (0, 0)) from fun W h => by
        have h1 := NumsAt.store h (j := k + 1) (by rw [tblV_length]; omega) n
        rw [hn, tblV_next (by omega), ← hn] at h1
        exact h1)
      clear ho hn hg
      have hkb : (k : Int) < 15 := by omega
      have hk16 : (k : Int) < 16 := by omega
      have hwr : IntKind.i64.wrap ((k : Int) + 1) = (k : Int) + 1 := by rw [IntKind.wrap_i64]; omega
      have hk17 : (0 : Int) ≤ (k : Int) + 1 := by omega
      have hk18 : (k : Int) + 1 < 16 := by omega
      go_upto_region 5 with fail
      refine wp_region_inv (fun a0 l a' w' => ∃ (u14 : Value) (u15 : Value) (u16 : Value) (u17 : Value) (u18 : Value) (u19 : Value) (u20 : Value) (u21 : Value) (u22 : Value) (u23 : Value) (u24 : Value) (u25 : Value) (u26 : Value), a' = (Act.put (Act.put (Act.put (Act.put (Act.put (Act.put (Act.put (Act.put (Act.put (Act.put (Act.put (Act.put (Act.put a0 (some 14) u14) (some 15) u15) (some 16) u16) (some 17) u17) (some 18) u18) (some 19) u19) (some 20) u20) (some 21) u21) (some 22) u22) (some 23) u23) (some 24) u24) (some 25) u25) (some 26) u26) ∧ Slot l 0 u14 (.pointer (some ⟨b, 0, none⟩)) ∧ Slot l 1 u15 (.int .i64 (k : Int)) ∧ Slot l 2 u16 (.int .i64 ((k : Int) + 1)) ∧ Slot l 3 u17 (FV id p i r s) ∧ Slot l 4 u18 (.pointer (some ⟨b, 0, none⟩)) ∧ Slot l 5 u19 (.int .i64 (k : Int)) ∧ Slot l 6 u20 (.pointer (some ⟨b, 0, none⟩)) ∧ Slot l 7 u21 (.pointer (some ⟨b, k * 4, none⟩)) ∧ Slot l 8 u22 (V o) ∧ Slot l 9 u23 (V x) ∧ Slot l 10 u24 (V n) ∧ Slot l 11 u25 (.pointer (some ⟨b, 0, none⟩)) ∧ Slot l 12 u26 (.pointer (some ⟨b, (k + 1) * 4, none⟩)) ∧ Old l 13 b W1 w' (.cells (flat4 (tblV p v k)).toArray 80) (.cells (flat4 (tblV p v (k + 1))).toArray 80) ∧ Dep l 8 13 ∧ Off (fun k => k = b) W1 w') (by kernel_rfl) (by kernel_rfl) ?_ ⟨?_, ?_, ?_, ?_, ?_, ?_, ?_, ?_, ?_, ?_, ?_, ?_, ?_, ?_, trivial⟩ ?_
      · refine ⟨?z14, ?z15, ?z16, ?z17, ?z18, ?z19, ?z20, ?z21, ?z22, ?z23, ?z24, ?z25, ?z26, ?fr, Slot.start _ _ _, Slot.start _ _ _, Slot.start _ _ _, Slot.start _ _ _, Slot.start _ _ _, Slot.start _ _ _, Slot.start _ _ _, Slot.start _ _ _, Slot.start _ _ _, Slot.start _ _ _, Slot.start _ _ _, Slot.start _ _ _, Slot.start _ _ _, Old.start HN.out _ _, Dep.start _ _, (Off.refl _ W1).drew⟩
        case fr => first | (simp only [Act.put, List.setIfInBounds_toArray, List.set_cons_zero, List.set_cons_succ]; rfl) | simp only [Act.put, List.setIfInBounds_toArray, List.set_cons_zero, List.set_cons_succ]
      · intro l a wr hI hl hd K' hK
        obtain ⟨u14, u15, u16, u17, u18, u19, u20, u21, u22, u23, u24, u25, u26, ha, s0, s1, s2, s3, s4, s5, s6, s7, s8, s9, s10, s11, s12, O0, P8_13, hO⟩ := hI
        simp only [Act.put, List.setIfInBounds_toArray, List.set_cons_zero, List.set_cons_succ] at ha
        subst ha
        go_simp
        refine hK.out _ _ ⟨_, _, _, _, _, _, _, _, _, _, _, _, _, ?_, Slot.new _ _ _, s1.keep rfl, s2.keep rfl, s3.keep rfl, s4.keep rfl, s5.keep rfl, s6.keep rfl, s7.keep rfl, s8.keep rfl, s9.keep rfl, s10.keep rfl, s11.keep rfl, s12.keep rfl, O0.keep (Off.refl _ wr) rfl, P8_13.keep rfl, hO⟩
        simp only [Act.put, List.setIfInBounds_toArray, List.set_cons_zero, List.set_cons_succ]
      · intro l a wr hI hl hd K' hK
        obtain ⟨u14, u15, u16, u17, u18, u19, u20, u21, u22, u23, u24, u25, u26, ha, s0, s1, s2, s3, s4, s5, s6, s7, s8, s9, s10, s11, s12, O0, P8_13, hO⟩ := hI
        simp only [Act.put, List.setIfInBounds_toArray, List.set_cons_zero, List.set_cons_succ] at ha
        subst ha
        go_simp
        refine hK.out _ _ ⟨_, _, _, _, _, _, _, _, _, _, _, _, _, ?_, s0.keep rfl, Slot.new _ _ _, s2.keep rfl, s3.keep rfl, s4.keep rfl, s5.keep rfl, s6.keep rfl, s7.keep rfl, s8.keep rfl, s9.keep rfl, s10.keep rfl, s11.keep rfl, s12.keep rfl, O0.keep (Off.refl _ wr) rfl, P8_13.keep rfl, hO⟩
        simp only [Act.put, List.setIfInBounds_toArray, List.set_cons_zero, List.set_cons_succ]
      · intro l a wr hI hl hd K' hK
        obtain ⟨u14, u15, u16, u17, u18, u19, u20, u21, u22, u23, u24, u25, u26, ha, s0, s1, s2, s3, s4, s5, s6, s7, s8, s9, s10, s11, s12, O0, P8_13, hO⟩ := hI
        simp only [Act.put, List.setIfInBounds_toArray, List.set_cons_zero, List.set_cons_succ] at ha
        have q1 := s1 (hd 1 (by decide))
        subst ha q1
        go_simp
        refine hK.out _ _ ⟨_, _, _, _, _, _, _, _, _, _, _, _, _, ?_, s0.keep rfl, s1.keep rfl, Slot.new _ _ _, s3.keep rfl, s4.keep rfl, s5.keep rfl, s6.keep rfl, s7.keep rfl, s8.keep rfl, s9.keep rfl, s10.keep rfl, s11.keep rfl, s12.keep rfl, O0.keep (Off.refl _ wr) rfl, P8_13.keep rfl, hO⟩
        simp only [Act.put, List.setIfInBounds_toArray, List.set_cons_zero, List.set_cons_succ]
      · intro l a wr hI hl hd K' hK
        obtain ⟨u14, u15, u16, u17, u18, u19, u20, u21, u22, u23, u24, u25, u26, ha, s0, s1, s2, s3, s4, s5, s6, s7, s8, s9, s10, s11, s12, O0, P8_13, hO⟩ := hI
        simp only [Act.put, List.setIfInBounds_toArray, List.set_cons_zero, List.set_cons_succ] at ha
        subst ha
        have hc := HK1.out wr hO
        have p0 := hc.1.1
        have p1 := hc.1.2.1
        have p2 := hc.1.2.2.1
        have p3 := hc.1.2.2.2.1
        have p4 := hc.1.2.2.2.2.1
        have p5 := hc.1.2.2.2.2.2.1
        have p6 := hc.1.2.2.2.2.2.2.1
        have p7 := hc.1.2.2.2.2.2.2.2.1
        have p8 := hc.1.2.2.2.2.2.2.2.2.1
        have p9 := hc.1.2.2.2.2.2.2.2.2.2.1
        have p10 := hc.1.2.2.2.2.2.2.2.2.2.2.1
        have p11 := hc.1.2.2.2.2.2.2.2.2.2.2.2.1
        have p12 := hc.1.2.2.2.2.2.2.2.2.2.2.2.2.1
        have p13 := hc.1.2.2.2.2.2.2.2.2.2.2.2.2.2
        clear hc
        go_simp
        refine hK.out _ _ ⟨_, _, _, _, _, _, _, _, _, _, _, _, _, ?_, s0.keep rfl, s1.keep rfl, s2.keep rfl, Slot.new _ _ _, s4.keep rfl, s5.keep rfl, s6.keep rfl, s7.keep rfl, s8.keep rfl, s9.keep rfl, s10.keep rfl, s11.keep rfl, s12.keep rfl, O0.keep (Off.refl _ wr) rfl, P8_13.keep rfl, hO⟩
        simp only [Act.put, List.setIfInBounds_toArray, List.set_cons_zero, List.set_cons_succ]
      · intro l a wr hI hl hd K' hK
        obtain ⟨u14, u15, u16, u17, u18, u19, u20, u21, u22, u23, u24, u25, u26, ha, s0, s1, s2, s3, s4, s5, s6, s7, s8, s9, s10, s11, s12, O0, P8_13, hO⟩ := hI
        simp only [Act.put, List.setIfInBounds_toArray, List.set_cons_zero, List.set_cons_succ] at ha
        subst ha
        go_simp
        refine hK.out _ _ ⟨_, _, _, _, _, _, _, _, _, _, _, _, _, ?_, s0.keep rfl, s1.keep rfl, s2.keep rfl, s3.keep rfl, Slot.new _ _ _, s5.keep rfl, s6.keep rfl, s7.keep rfl, s8.keep rfl, s9.keep rfl, s10.keep rfl, s11.keep rfl, s12.keep rfl, O0.keep (Off.refl _ wr) rfl, P8_13.keep rfl, hO⟩
        simp only [Act.put, List.setIfInBounds_toArray, List.set_cons_zero, List.set_cons_succ]
      · intro l a wr hI hl hd K' hK
        obtain ⟨u14, u15, u16, u17, u18, u19, u20, u21, u22, u23, u24, u25, u26, ha, s0, s1, s2, s3, s4, s5, s6, s7, s8, s9, s10, s11, s12, O0, P8_13, hO⟩ := hI
        simp only [Act.put, List.setIfInBounds_toArray, List.set_cons_zero, List.set_cons_succ] at ha
        subst ha
        go_simp
        refine hK.out _ _ ⟨_, _, _, _, _, _, _, _, _, _, _, _, _, ?_, s0.keep rfl, s1.keep rfl, s2.keep rfl, s3.keep rfl, s4.keep rfl, Slot.new _ _ _, s6.keep rfl, s7.keep rfl, s8.keep rfl, s9.keep rfl, s10.keep rfl, s11.keep rfl, s12.keep rfl, O0.keep (Off.refl _ wr) rfl, P8_13.keep rfl, hO⟩
        simp only [Act.put, List.setIfInBounds_toArray, List.set_cons_zero, List.set_cons_succ]
      · intro l a wr hI hl hd K' hK
        obtain ⟨u14, u15, u16, u17, u18, u19, u20, u21, u22, u23, u24, u25, u26, ha, s0, s1, s2, s3, s4, s5, s6, s7, s8, s9, s10, s11, s12, O0, P8_13, hO⟩ := hI
        simp only [Act.put, List.setIfInBounds_toArray, List.set_cons_zero, List.set_cons_succ] at ha
        have q4 := s4 (hd 4 (by decide))
        subst ha q4
        go_simp
        refine hK.out _ _ ⟨_, _, _, _, _, _, _, _, _, _, _, _, _, ?_, s0.keep rfl, s1.keep rfl, s2.keep rfl, s3.keep rfl, s4.keep rfl, s5.keep rfl, Slot.new _ _ _, s7.keep rfl, s8.keep rfl, s9.keep rfl, s10.keep rfl, s11.keep rfl, s12.keep rfl, O0.keep (Off.refl _ wr) rfl, P8_13.keep rfl, hO⟩
        simp only [Act.put, List.setIfInBounds_toArray, List.set_cons_zero, List.set_cons_succ]
      · intro l a wr hI hl hd K' hK
        obtain ⟨u14, u15, u16, u17, u18, u19, u20, u21, u22, u23, u24, u25, u26, ha, s0, s1, s2, s3, s4, s5, s6, s7, s8, s9, s10, s11, s12, O0, P8_13, hO⟩ := hI
        simp only [Act.put, List.setIfInBounds_toArray, List.set_cons_zero, List.set_cons_succ] at ha
        have q6 := s6 (hd 6 (by decide))
        have q5 := s5 (hd 5 (by decide))
        subst ha q6 q5
        go_simp
        refine hK.out _ _ ⟨_, _, _, _, _, _, _, _, _, _, _, _, _, ?_, s0.keep rfl, s1.keep rfl, s2.keep rfl, s3.keep rfl, s4.keep rfl, s5.keep rfl, s6.keep rfl, Slot.new _ _ _, s8.keep rfl, s9.keep rfl, s10.keep rfl, s11.keep rfl, s12.keep rfl, O0.keep (Off.refl _ wr) rfl, P8_13.keep rfl, hO⟩
        simp only [Act.put, List.setIfInBounds_toArray, List.set_cons_zero, List.set_cons_succ]
      · intro l a wr hI hl hd K' hK
        obtain ⟨u14, u15, u16, u17, u18, u19, u20, u21, u22, u23, u24, u25, u26, ha, s0, s1, s2, s3, s4, s5, s6, s7, s8, s9, s10, s11, s12, O0, P8_13, hO⟩ := hI
        simp only [Act.put, List.setIfInBounds_toArray, List.set_cons_zero, List.set_cons_succ] at ha
        have q7 := s7 (hd 7 (by decide))
        subst ha q7
        have hZ := O0.was (P8_13 hl)
        obtain ⟨p0, p1, p2, p3⟩ := NumsAt.cell hZ HG.out
        clear hZ
        go_simp
        refine hK.out _ _ ⟨_, _, _, _, _, _, _, _, _, _, _, _, _, ?_, s0.keep rfl, s1.keep rfl, s2.keep rfl, s3.keep rfl, s4.keep rfl, s5.keep rfl, s6.keep rfl, s7.keep rfl, Slot.new _ _ _, s9.keep rfl, s10.keep rfl, s11.keep rfl, s12.keep rfl, O0.keep (Off.refl _ wr) rfl, P8_13.keep rfl, hO⟩
        simp only [Act.put, List.setIfInBounds_toArray, List.set_cons_zero, List.set_cons_succ]
      · intro l a wr hI hl hd K' hK
        obtain ⟨u14, u15, u16, u17, u18, u19, u20, u21, u22, u23, u24, u25, u26, ha, s0, s1, s2, s3, s4, s5, s6, s7, s8, s9, s10, s11, s12, O0, P8_13, hO⟩ := hI
        simp only [Act.put, List.setIfInBounds_toArray, List.set_cons_zero, List.set_cons_succ] at ha
        subst ha
        have hc := HK1.out wr hO
        have p0 := hc.2.1.1
        have p1 := hc.2.1.2.1
        have p2 := hc.2.1.2.2.1
        have p3 := hc.2.1.2.2.2
        clear hc
        go_simp
        refine hK.out _ _ ⟨_, _, _, _, _, _, _, _, _, _, _, _, _, ?_, s0.keep rfl, s1.keep rfl, s2.keep rfl, s3.keep rfl, s4.keep rfl, s5.keep rfl, s6.keep rfl, s7.keep rfl, s8.keep rfl, Slot.new _ _ _, s10.keep rfl, s11.keep rfl, s12.keep rfl, O0.keep (Off.refl _ wr) rfl, P8_13.keep rfl, hO⟩
        simp only [Act.put, List.setIfInBounds_toArray, List.set_cons_zero, List.set_cons_succ]
      · intro l a wr hI hl hd K' hK
        obtain ⟨u14, u15, u16, u17, u18, u19, u20, u21, u22, u23, u24, u25, u26, ha, s0, s1, s2, s3, s4, s5, s6, s7, s8, s9, s10, s11, s12, O0, P8_13, hO⟩ := hI
        simp only [Act.put, List.setIfInBounds_toArray, List.set_cons_zero, List.set_cons_succ] at ha
        have q3 := s3 (hd 3 (by decide))
        have q8 := s8 (hd 8 (by decide))
        have q9 := s9 (hd 9 (by decide))
        subst ha q3 q8 q9
        go_simp
        refine (held_inv (HC.out wr) hO).mono ?_
        rintro e w1 ⟨rfl, hO1, hOW⟩
        go_wp2_with fail
        refine hK.out _ _ ⟨_, _, _, _, _, _, _, _, _, _, _, _, _, ?_, s0.keep rfl, s1.keep rfl, s2.keep rfl, s3.keep rfl, s4.keep rfl, s5.keep rfl, s6.keep rfl, s7.keep rfl, s8.keep rfl, s9.keep rfl, Slot.new _ _ _, s11.keep rfl, s12.keep rfl, O0.keep hOW rfl, P8_13.keep rfl, hO1⟩
        simp only [Act.put, List.setIfInBounds_toArray, List.set_cons_zero, List.set_cons_succ]
      · intro l a wr hI hl hd K' hK
        obtain ⟨u14, u15, u16, u17, u18, u19, u20, u21, u22, u23, u24, u25, u26, ha, s0, s1, s2, s3, s4, s5, s6, s7, s8, s9, s10, s11, s12, O0, P8_13, hO⟩ := hI
        simp only [Act.put, List.setIfInBounds_toArray, List.set_cons_zero, List.set_cons_succ] at ha
        have q0 := s0 (hd 0 (by decide))
        subst ha q0
        go_simp
        refine hK.out _ _ ⟨_, _, _, _, _, _, _, _, _, _, _, _, _, ?_, s0.keep rfl, s1.keep rfl, s2.keep rfl, s3.keep rfl, s4.keep rfl, s5.keep rfl, s6.keep rfl, s7.keep rfl, s8.keep rfl, s9.keep rfl, s10.keep rfl, Slot.new _ _ _, s12.keep rfl, O0.keep (Off.refl _ wr) rfl, P8_13.keep rfl, hO⟩
        simp only [Act.put, List.setIfInBounds_toArray, List.set_cons_zero, List.set_cons_succ]
      · intro l a wr hI hl hd K' hK
        obtain ⟨u14, u15, u16, u17, u18, u19, u20, u21, u22, u23, u24, u25, u26, ha, s0, s1, s2, s3, s4, s5, s6, s7, s8, s9, s10, s11, s12, O0, P8_13, hO⟩ := hI
        simp only [Act.put, List.setIfInBounds_toArray, List.set_cons_zero, List.set_cons_succ] at ha
        have q11 := s11 (hd 11 (by decide))
        have q2 := s2 (hd 2 (by decide))
        subst ha q11 q2
        go_simp
        refine hK.out _ _ ⟨_, _, _, _, _, _, _, _, _, _, _, _, _, ?_, s0.keep rfl, s1.keep rfl, s2.keep rfl, s3.keep rfl, s4.keep rfl, s5.keep rfl, s6.keep rfl, s7.keep rfl, s8.keep rfl, s9.keep rfl, s10.keep rfl, s11.keep rfl, Slot.new _ _ _, O0.keep (Off.refl _ wr) rfl, P8_13.keep rfl, hO⟩
        simp only [Act.put, List.setIfInBounds_toArray, List.set_cons_zero, List.set_cons_succ]
      · intro l a wr hI hl hd K' hK
        obtain ⟨u14, u15, u16, u17, u18, u19, u20, u21, u22, u23, u24, u25, u26, ha, s0, s1, s2, s3, s4, s5, s6, s7, s8, s9, s10, s11, s12, O0, P8_13, hO⟩ := hI
        simp only [Act.put, List.setIfInBounds_toArray, List.set_cons_zero, List.set_cons_succ] at ha
        have q12 := s12 (hd 12 (by decide))
        have q10 := s10 (hd 10 (by decide))
        subst ha q12 q10
        have hZ := (O0.was hl)
        obtain ⟨m0, m1, m2, m3⟩ := NumsAt.cell hZ HG1.out
        have fz := fun j => NumsAt.frozen hZ j
        have lt := heap_lt hZ
        clear hZ
        go_simp
        refine hK.out _ _ ⟨_, _, _, _, _, _, _, _, _, _, _, _, _, ?_, s0.keep rfl, s1.keep rfl, s2.keep rfl, s3.keep rfl, s4.keep rfl, s5.keep rfl, s6.keep rfl, s7.keep rfl, s8.keep rfl, s9.keep rfl, s10.keep rfl, s11.keep rfl, s12.keep rfl, O0.putAt (HP.out wr) hl, Dep.at (hd 8 (by decide)), setCells_in_at hO (fun _ => rfl) (words4 n)⟩
        simp only [Act.put, List.setIfInBounds_toArray, List.set_cons_zero, List.set_cons_succ]
      · intro l a wc hI hd
        obtain ⟨u14, u15, u16, u17, u18, u19, u20, u21, u22, u23, u24, u25, u26, ha, s0, s1, s2, s3, s4, s5, s6, s7, s8, s9, s10, s11, s12, O0, P8_13, hO⟩ := hI
        simp only [Act.put, List.setIfInBounds_toArray, List.set_cons_zero, List.set_cons_succ] at ha
        have q0 := s0 (hd 0 (by decide))
        have q1 := s1 (hd 1 (by decide))
        have q2 := s2 (hd 2 (by decide))
        have q3 := s3 (hd 3 (by decide))
        have q4 := s4 (hd 4 (by decide))
        have q5 := s5 (hd 5 (by decide))
        have q6 := s6 (hd 6 (by decide))
        have q7 := s7 (hd 7 (by decide))
        have q8 := s8 (hd 8 (by decide))
        have q9 := s9 (hd 9 (by decide))
        have q10 := s10 (hd 10 (by decide))
        have q11 := s11 (hd 11 (by decide))
        have q12 := s12 (hd 12 (by decide))
        have r0 : wc.heap[b]? = some (.cells (flat4 (tblV p v (k + 1))).toArray 80) := O0.now (hd 13 (by decide))
        subst ha q0 q1 q2 q3 q4 q5 q6 q7 q8 q9 q10 q11 q12
        clear hd s0 s1 s2 s3 s4 s5 s6 s7 s8 s9 s10 s11 s12 O0 P8_13
        have r0' : NumsAt wc b 80 (tblV p v (k + 1)) := r0
        have HR := Lib.hid r0'
        have HO2 := Lib.hid (HO.out.trans hO (fun _ _ c => c))
        clear r0 r0' hO
        go_wp2
        go_roundw
        case rel => exact ⟨k + 1, by omega, by simp, HR.out, HO2.out⟩
        case measure => simp [intOf] <;> omega
    · obtain rfl : k = 15 := by omega
      have HN := Lib.hid hN
      have HO := Lib.hid hO
      clear hN hO
      go_wp2
      go_ret
      have := HB.out
      exact ⟨b, rfl, by omega, HN.out, HO0.out.trans HO.out (fun k hk e => by omega)⟩
end
section
open Go.RowKit

theorem zeroB_one (x : Int) : zeroB [x] = decide (x = 0) := by simp [zeroB]
theorem words_one (w : World) (x : Int) (hx : Word x) (T : Nat) : Words (w.alloc (.cells #[.int .u64 x] T)) (.slice (some ⟨w.heap.size, 0, none⟩) 1 1) [x] := by
  refine ⟨_, _, rfl, by simp, by simpa using hx, fun _ => ⟨_, _, rfl, ?_⟩⟩
  intro j hj
  obtain rfl : j = 0 := by simp at hj; omega
  simp [go_sem, nth]
set_option maxHeartbeats 400000 in
theorem equal_off (a b : Int) (ha : Word a) (hb : Word b) (w : World) :
    Calls Tryd.prog 48 #[.int .u64 a, .int .u64 b] w fun e w' => e = .returned (.int .u64 (mk (eqB a b))) ∧ Off (fun _ => False) w w' := by
  have hx := xor_word ha hb
  have HE := Lib.hid (xor_eq ha hb)
  have HW := fun W => words_one W _ hx 22
  go_enter Tryd.func48, Tryd.ntmps48
  go_wp2_with (go_at_call 63; refine (iszero_any [_] _ _ (HW _)).mono ?_; rintro e w' ⟨rfl, rfl⟩)
  go_ret
  exact ⟨ret_u64 (by rw [zeroB_one]; exact congrArg mk HE.out), (Off.refl _ w).alloc _⟩
end
section
open Go.RowKit
attribute [local go_sem ↓] Go.wp_at_zero Go.wp_at_succ

/-- The events of one reading of the table. -/
def scanE (k : Nat) : List Ev := (List.range k).map (fun j : Nat => ((1 : Int), (j : Int), (0 : Int)))
theorem scanE_length (k : Nat) : (scanE k).length = k := by simp [scanE]
theorem scanE_next (k : Nat) : scanE (k + 1) = scanE k ++ [((1 : Int), (k : Int), (0 : Int))] := by simp [scanE, List.range_succ]
theorem selN_mk (c : Bool) (a b : Nat) : selN (mk c) a b = if c then a else b := by cases c <;> simp [selN, mk, oddB]
/-- What the loop of read keeps. -/
structure ReadI (w wr : World) (tb : Nat) (q : Option Addr) (es : List Ev) (S : Nat → Prop) (tbl : List Nat) (f k : Nat) : Prop where
  fnd : wr.heap[w.heap.size + 1]? = some (.cells #[.int .u64 (wd f 0 : Int), .int .u64 (wd f 1 : Int), .int .u64 (wd f 2 : Int), .int .u64 (wd f 3 : Int)] 24)
  ret : wr.heap[w.heap.size]? = some (.cells #[.int .u64 0, .int .u64 0, .int .u64 0, .int .u64 0] 24)
  tab : NumsAt wr tb 80 tbl
  tp : ∃ S', Tp wr q (ext q es (scanE k)) S' ∧ (∀ b, S' b → S b ∨ w.heap.size + 2 ≤ b)
  off : Off S w wr
set_option maxRecDepth 100000 in
set_option maxHeartbeats 4000000 in
theorem read_any (tb : Nat) (tbl : List Nat) (hlen : tbl.length = 16) (hsm : ∀ x ∈ tbl, x < R256) (q : Option Addr) (es : List Ev) (S : Nat → Prop) (d y0 : Nat) (hd : d < 16) (hy : tbl[d]? = some y0) (w : World) (hT : NumsAt w tb 80 tbl) (hS : Tp w q es S) (hb : ¬ S tb) (hl : es.length ≤ 90000) :
    Calls Tryd.prog 33 #[.pointer (some ⟨tb, 0, none⟩), .pointer q, .int .u64 (d : Int)] w fun e w' => e = .returned (V y0) ∧ Noted w.heap.size q es (scanE 16) S w' ∧ Off S w w' := by
  obtain ⟨W0, hW0⟩ : ∃ W0, W0 = (w.alloc (.cells #[.int .u64 0, .int .u64 0, .int .u64 0, .int .u64 0] 24)).alloc (.cells #[.int .u64 0, .int .u64 0, .int .u64 0, .int .u64 0] 24) := ⟨_, rfl⟩
  have hO0 : Off (fun _ => False) w W0 := by rw [hW0]; exact ((Off.refl _ w).alloc _).alloc _
  have hI0 : ReadI w W0 tb q es S tbl 0 0 := ⟨by rw [hW0]; exact heap_new' (by simp) _, by rw [hW0]; exact heap_old' (heap_new' rfl _) _, hT.off hO0 (fun c => c), ⟨S, by simpa [scanE, ext_nil] using hS.off0 hO0, fun _ c => .inl c⟩, hO0.mono (fun _ _ c => c.elim)⟩
  have htl := hT.lt
  have HI0 := Lib.hid hI0
  have HW0 := Lib.hid hW0
  have HSm := Lib.hid hsm
  have HY := Lib.hid hy
  have HSl := Lib.hid hS.2
  clear hI0 hW0 hO0 hsm hy hT hS
  go_enter Tryd.func33, Tryd.ntmps33
  go_wp2_with fail
  rw [← HW0.out]
  go_loopw [12] (fun i wr => ∃ k : Nat, k ≤ 16 ∧ i = .int .i64 (k : Int) ∧ ReadI w wr tb q es S tbl (if d < k then y0 else 0) k) (fun i _ => 16 - (intOf i).toNat)
  case atStart => exact ⟨0, by omega, rfl, by rw [if_neg (by omega)]; exact HI0.out⟩
  case round =>
    obtain ⟨k, hk, rfl, hI⟩ := hrel
    by_cases hlt2 : k < 16
    · obtain ⟨W1, hW1⟩ : ∃ W1, W1 = wr := ⟨_, rfl⟩
      subst hW1
      obtain ⟨f, hf⟩ : ∃ f, f = (if d < k then y0 else 0) := ⟨_, rfl⟩
      rw [← hf] at hI
      have HF := Lib.hid hf
      have HI := Lib.hid hI
      clear hI hf
      obtain ⟨y, hy⟩ : ∃ y, tbl[k]? = some y := ⟨_, List.getElem?_eq_getElem (by omega)⟩
      have HK1 : Hid (∀ W, Off (fun _ => False) W1 W → (W.cell? ⟨tb, k * 4, none⟩ = some (.int .u64 (wd y 0 : Int)) ∧ W.cell? ⟨tb, k * 4 + 1, none⟩ = some (.int .u64 (wd y 1 : Int)) ∧ W.cell? ⟨tb, k * 4 + 2, none⟩ = some (.int .u64 (wd y 2 : Int)) ∧ W.cell? ⟨tb, k * 4 + 3, none⟩ = some (.int .u64 (wd y 3 : Int))) ∧ Off (fun _ => False) W1 W) := Lib.hid (fun W h => ⟨NumsAt.cell (HI.out.tab.off h (fun c => c)) hy, h⟩)
      have HYk := Lib.hid hy
      clear hy
      have hkb : (k : Int) < 16 := by omega
      go_upto_region 4 with fail
      refine wp_region_inv (fun a0 l a' w' => ∃ (u14 : Value) (u15 : Value) (u16 : Value) (u17 : Value) (u9 : Value) (u8 : Value) (b9 : Nat), a' = (Act.put (Act.put (Act.put (Act.put (Act.put (Act.put a0 (some 14) u14) (some 15) u15) (some 16) u16) (some 17) u17) (some 9) u9) (some 8) u8) ∧ Slot l 0 u14 (.int .i64 (k : Int)) ∧ Slot l 1 u15 (.pointer (some ⟨tb, 0, none⟩)) ∧ Slot l 2 u16 (.pointer (some ⟨tb, k * 4, none⟩)) ∧ Slot l 3 u17 (V y) ∧ Slot l 5 u8 (.int .i64 (k : Int)) ∧ Blk l 4 6 u9 b9 W1 w' (.cells #[.int .u64 0, .int .u64 0, .int .u64 0, .int .u64 0] 24) (.cells #[.int .u64 (wd y 0 : Int), .int .u64 (wd y 1 : Int), .int .u64 (wd y 2 : Int), .int .u64 (wd y 3 : Int)] 24) ∧ Off (fun _ => False) W1 w') (by kernel_rfl) (by kernel_rfl) ?_ ⟨?_, ?_, ?_, ?_, ?_, ?_, ?_, trivial⟩ ?_
      · refine ⟨?z14, ?z15, ?z16, ?z17, ?z9, ?z8, 0, ?fr, Slot.start _ _ _, Slot.start _ _ _, Slot.start _ _ _, Slot.start _ _ _, Slot.start _ _ _, Blk.start _ _ _ _ _ _ _ _, (Off.refl _ W1).drew⟩
        case fr => first | (simp only [Act.put, List.setIfInBounds_toArray, List.set_cons_zero, List.set_cons_succ]; rfl) | simp only [Act.put, List.setIfInBounds_toArray, List.set_cons_zero, List.set_cons_succ]
      · intro l a wr hI hl hd K' hK
        obtain ⟨u14, u15, u16, u17, u9, u8, b9, ha, s0, s1, s2, s3, s5, B4, hO⟩ := hI
        simp only [Act.put, List.setIfInBounds_toArray, List.set_cons_zero, List.set_cons_succ] at ha
        subst ha
        go_simp
        refine hK.out _ _ ⟨_, _, _, _, _, _, _, ?_, Slot.new _ _ _, s1.keep rfl, s2.keep rfl, s3.keep rfl, s5.keep rfl, B4.keep (Off.refl _ wr) rfl rfl, hO⟩
        simp only [Act.put, List.setIfInBounds_toArray, List.set_cons_zero, List.set_cons_succ]
      · intro l a wr hI hl hd K' hK
        obtain ⟨u14, u15, u16, u17, u9, u8, b9, ha, s0, s1, s2, s3, s5, B4, hO⟩ := hI
        simp only [Act.put, List.setIfInBounds_toArray, List.set_cons_zero, List.set_cons_succ] at ha
        subst ha
        go_simp
        refine hK.out _ _ ⟨_, _, _, _, _, _, _, ?_, s0.keep rfl, Slot.new _ _ _, s2.keep rfl, s3.keep rfl, s5.keep rfl, B4.keep (Off.refl _ wr) rfl rfl, hO⟩
        simp only [Act.put, List.setIfInBounds_toArray, List.set_cons_zero, List.set_cons_succ]
      · intro l a wr hI hl hd K' hK
        obtain ⟨u14, u15, u16, u17, u9, u8, b9, ha, s0, s1, s2, s3, s5, B4, hO⟩ := hI
        simp only [Act.put, List.setIfInBounds_toArray, List.set_cons_zero, List.set_cons_succ] at ha
        have q1 := s1 (hd 1 (by decide))
        subst ha q1
        go_simp
        refine hK.out _ _ ⟨_, _, _, _, _, _, _, ?_, s0.keep rfl, s1.keep rfl, Slot.new _ _ _, s3.keep rfl, s5.keep rfl, B4.keep (Off.refl _ wr) rfl rfl, hO⟩
        simp only [Act.put, List.setIfInBounds_toArray, List.set_cons_zero, List.set_cons_succ]
      · intro l a wr hI hl hd K' hK
        obtain ⟨u14, u15, u16, u17, u9, u8, b9, ha, s0, s1, s2, s3, s5, B4, hO⟩ := hI
        simp only [Act.put, List.setIfInBounds_toArray, List.set_cons_zero, List.set_cons_succ] at ha
        have q2 := s2 (hd 2 (by decide))
        subst ha q2
        have hc := HK1.out wr hO
        have p0 := hc.1.1
        have p1 := hc.1.2.1
        have p2 := hc.1.2.2.1
        have p3 := hc.1.2.2.2
        clear hc
        go_simp
        refine hK.out _ _ ⟨_, _, _, _, _, _, _, ?_, s0.keep rfl, s1.keep rfl, s2.keep rfl, Slot.new _ _ _, s5.keep rfl, B4.keep (Off.refl _ wr) rfl rfl, hO⟩
        simp only [Act.put, List.setIfInBounds_toArray, List.set_cons_zero, List.set_cons_succ]
      · intro l a wr hI hl hd K' hK
        obtain ⟨u14, u15, u16, u17, u9, u8, b9, ha, s0, s1, s2, s3, s5, B4, hO⟩ := hI
        simp only [Act.put, List.setIfInBounds_toArray, List.set_cons_zero, List.set_cons_succ] at ha
        subst ha
        go_simp
        refine hK.out _ _ ⟨_, _, _, _, _, _, _, ?_, s0.keep rfl, s1.keep rfl, s2.keep rfl, s3.keep rfl, s5.keep rfl, B4.make hl rfl hO, hO.alloc _⟩
        simp only [Act.put, List.setIfInBounds_toArray, List.set_cons_zero, List.set_cons_succ]
      · intro l a wr hI hl hd K' hK
        obtain ⟨u14, u15, u16, u17, u9, u8, b9, ha, s0, s1, s2, s3, s5, B4, hO⟩ := hI
        simp only [Act.put, List.setIfInBounds_toArray, List.set_cons_zero, List.set_cons_succ] at ha
        have q0 := s0 (hd 0 (by decide))
        subst ha q0
        go_simp
        refine hK.out _ _ ⟨_, _, _, _, _, _, _, ?_, s0.keep rfl, s1.keep rfl, s2.keep rfl, s3.keep rfl, Slot.new _ _ _, B4.keep (Off.refl _ wr) rfl rfl, hO⟩
        simp only [Act.put, List.setIfInBounds_toArray, List.set_cons_zero, List.set_cons_succ]
      · intro l a wr hI hl hd K' hK
        obtain ⟨u14, u15, u16, u17, u9, u8, b9, ha, s0, s1, s2, s3, s5, B4, hO⟩ := hI
        simp only [Act.put, List.setIfInBounds_toArray, List.set_cons_zero, List.set_cons_succ] at ha
        have h4 := hd 4 (by decide)
        have q4 := B4.ptr h4
        have q3 := s3 (hd 3 (by decide))
        subst ha q4 q3
        obtain ⟨⟨m0, m1, m2, m3⟩, fz, lt⟩ := zero_cells (B4.was h4 hl)
        go_simp
        refine hK.out _ _ ⟨_, _, _, _, _, _, _, ?_, s0.keep rfl, s1.keep rfl, s2.keep rfl, s3.keep rfl, s5.keep rfl, B4.put hl h4 rfl rfl, setCells_in hO (fun c => absurd c (Nat.not_lt.2 (B4.new h4))) [.int .u64 (wd y 0 : Int), .int .u64 (wd y 1 : Int), .int .u64 (wd y 2 : Int), .int .u64 (wd y 3 : Int)]⟩
        simp only [Act.put, List.setIfInBounds_toArray, List.set_cons_zero, List.set_cons_succ]
      · intro l a wc hI hd
        obtain ⟨u14, u15, u16, u17, u9, u8, b9, ha, s0, s1, s2, s3, s5, B4, hO⟩ := hI
        simp only [Act.put, List.setIfInBounds_toArray, List.set_cons_zero, List.set_cons_succ] at ha
        have q0 := s0 (hd 0 (by decide))
        have q1 := s1 (hd 1 (by decide))
        have q2 := s2 (hd 2 (by decide))
        have q3 := s3 (hd 3 (by decide))
        have q5 := s5 (hd 5 (by decide))
        have q4 := B4.ptr (hd 4 (by decide))
        have n9 : wc.heap[b9]? = some (.cells #[.int .u64 (wd y 0 : Int), .int .u64 (wd y 1 : Int), .int .u64 (wd y 2 : Int), .int .u64 (wd y 3 : Int)] 24) := B4.now (hd 4 (by decide)) (hd 6 (by decide))
        have v9 := B4.new (hd 4 (by decide))
        subst ha q0 q1 q2 q3 q4 q5
        clear hd s0 s1 s2 s3 s5 B4
        obtain ⟨S1, hS1, hS1b⟩ := HI.out.tp
        have hSx : ∀ b, S1 b → S b ∨ w.heap.size + 2 ≤ b := hS1b
        have hn9 : ¬ S1 b9 := fun c => by have := hS1.2 b9 c; omega
        have hnf : ¬ S1 (w.heap.size + 1) := fun c => (hS1b _ c).elim (fun c => by have := HSl.out _ c; omega) (fun c => by omega)
        have hnr : ¬ S1 w.heap.size := fun c => (hS1b _ c).elim (fun c => by have := HSl.out _ c; omega) (fun c => by omega)
        have hnt : ¬ S1 tb := fun c => (hS1b _ c).elim hb (fun c => by omega)
        have h4 : w.heap.size + 2 ≤ W1.heap.size := by have := heap_lt HI.out.fnd; omega
        have h5 : W1.heap.size ≤ wc.heap.size := hO.size
        have HNt := Lib.hid (note_ext q (ext q es (scanE k)) S1 wc (hS1.off0 hO) (by have := ext_le q es (scanE k); rw [scanE_length] at this; omega) ((1 : Int), (k : Int), (0 : Int)))
        have HOc := Lib.hid hO
        have HN9 := Lib.hid n9
        have HS1 := Lib.hid hS1
        have hb9 : b9 ≠ w.heap.size + 1 := by omega
        clear hS1 hO n9 v9
        go_wp2_with fail
        refine HNt.out.mono ?_
        rintro e W3 ⟨rfl, hNt, hO3⟩
        have hE3 : W3.heap[b9]? = some (.cells #[.int .u64 (wd y 0 : Int), .int .u64 (wd y 1 : Int), .int .u64 (wd y 2 : Int), .int .u64 (wd y 3 : Int)] 24) := hO3.heap HN9.out hn9
        have HFn := Lib.hid (hO3.heap (HOc.out.heap HI.out.fnd (fun c => c)) hnf)
        have HRt := Lib.hid (hO3.heap (HOc.out.heap HI.out.ret (fun c => c)) hnr)
        have HTt := Lib.hid ((HI.out.tab.off HOc.out (fun c => c)).off hO3 hnt)
        have hof3 : Off S w W3 := (HI.out.off.trans HOc.out (fun _ _ c => c.elim)).trans hO3 (fun b hb c => (hS1b b c).elim id (fun c => by omega))
        have HO3 := Lib.hid hof3
        obtain ⟨S3, hS3, hS3b⟩ := hNt
        have hS3c : ∀ b, S3 b → S b ∨ w.heap.size + 2 ≤ b := fun b c => (hS3b b c).elim (hS1b b) (fun c => .inr (by omega))
        have hS3d : Tp W3 q (ext q es (scanE (k + 1))) S3 := by rw [scanE_next, ← ext_ext]; exact hS3
        have HT3 := Lib.hid hS3d
        have HT3c := Lib.hid hS3c
        have HK3 : Hid (∀ W, Off (fun k => k = w.heap.size + 1) W3 W → (W.cell? ⟨b9, 0, none⟩ = some (.int .u64 (wd y 0 : Int)) ∧ W.cell? ⟨b9, 1, none⟩ = some (.int .u64 (wd y 1 : Int)) ∧ W.cell? ⟨b9, 2, none⟩ = some (.int .u64 (wd y 2 : Int)) ∧ W.cell? ⟨b9, 3, none⟩ = some (.int .u64 (wd y 3 : Int))) ∧ Off (fun k => k = w.heap.size + 1) W3 W) := Lib.hid (fun W h => ⟨cells4 (h.heap hE3 hb9), h⟩)
        obtain ⟨m, hm⟩ : ∃ m, m = mk (eqB (k : Int) (d : Int)) := ⟨_, rfl⟩
        obtain ⟨g, hg⟩ : ∃ g, g = selN m y f := ⟨_, rfl⟩
        have hmw : Word m := by rw [hm]; exact mk_word _
        have HE := Lib.hid (show ∀ W, Calls Tryd.prog 48 #[.int .u64 (k : Int), .int .u64 (d : Int)] W fun e w' => e = .returned (.int .u64 m) ∧ Off (fun _ => False) W w' from fun W => by rw [hm]; exact equal_off _ _ ⟨by omega, by omega⟩ ⟨by omega, by omega⟩ W)
        have HC := Lib.hid (show ∀ W, Calls Tryd.prog 42 #[.int .u64 m, V y, V f] W fun e w' => e = .returned (V g) ∧ Off (fun _ => False) W w' from fun W => by rw [hg]; exact mchoose_any m hmw y f W)
        have hgv : g = if d < k + 1 then y0 else 0 := by
          rw [hg, hm, selN_mk]
          by_cases hkd : k = d
          · subst hkd
            have : y = y0 := by have h1 := HYk.out; rw [HY.out] at h1; simpa using h1.symm
            rw [if_pos (by simp [eqB]), if_pos (by omega), this]
          · rw [if_neg (by simp [eqB]; omega), HF.out]
            by_cases h1 : d < k
            · rw [if_pos h1, if_pos (by omega)]
            · rw [if_neg h1, if_neg (by omega)]
        have HG := Lib.hid hgv
        have hwk : IntKind.u64.wrap (k : Int) = (k : Int) := by rw [IntKind.wrap_u64]; omega
        have hnf3 : ¬ S3 (w.heap.size + 1) := fun c => (HT3c.out _ c).elim (fun c => by have := HSl.out _ c; omega) (fun c => by omega)
        clear hS3 hS3b hS3c hS3d hgv hg hm hmw hof3 hE3 hO3
        go_upto_region 6 with fail
        refine wp_region_inv (fun a0 l a' w' => ∃ (u21 : Value) (u22 : Value) (u23 : Value) (u24 : Value) (u25 : Value) (u26 : Value) (u27 : Value), a' = (Act.put (Act.put (Act.put (Act.put (Act.put (Act.put (Act.put a0 (some 21) u21) (some 22) u22) (some 23) u23) (some 24) u24) (some 25) u25) (some 26) u26) (some 27) u27) ∧ Slot l 0 u21 (.int .i64 (k : Int)) ∧ Slot l 1 u22 (.int .u64 (k : Int)) ∧ Slot l 2 u23 (.int .u64 (d : Int)) ∧ Slot l 3 u24 (.int .u64 m) ∧ Slot l 4 u25 (V y) ∧ Slot l 5 u26 (V f) ∧ Slot l 6 u27 (V g) ∧ Old l 7 (w.heap.size + 1) W3 w' (.cells #[.int .u64 (wd f 0 : Int), .int .u64 (wd f 1 : Int), .int .u64 (wd f 2 : Int), .int .u64 (wd f 3 : Int)] 24) (.cells #[.int .u64 (wd g 0 : Int), .int .u64 (wd g 1 : Int), .int .u64 (wd g 2 : Int), .int .u64 (wd g 3 : Int)] 24) ∧ Dep l 5 7 ∧ Off (fun k => k = (w.heap.size + 1)) W3 w') (by kernel_rfl) (by kernel_rfl) ?_ ⟨?_, ?_, ?_, ?_, ?_, ?_, ?_, ?_, trivial⟩ ?_
        · refine ⟨?z21, ?z22, ?z23, ?z24, ?z25, ?z26, ?z27, ?fr, Slot.start _ _ _, Slot.start _ _ _, Slot.start _ _ _, Slot.start _ _ _, Slot.start _ _ _, Slot.start _ _ _, Slot.start _ _ _, Old.start HFn.out _ _, Dep.start _ _, (Off.refl _ W3).drew⟩
          case fr => first | (simp only [Act.put, List.setIfInBounds_toArray, List.set_cons_zero, List.set_cons_succ]; rfl) | simp only [Act.put, List.setIfInBounds_toArray, List.set_cons_zero, List.set_cons_succ]
        · intro l a wr hI hl hd K' hK
          obtain ⟨u21, u22, u23, u24, u25, u26, u27, ha, s0, s1, s2, s3, s4, s5, s6, O0, P5_7, hO⟩ := hI
          simp only [Act.put, List.setIfInBounds_toArray, List.set_cons_zero, List.set_cons_succ] at ha
          subst ha
          go_simp
          refine hK.out _ _ ⟨_, _, _, _, _, _, _, ?_, Slot.new _ _ _, s1.keep rfl, s2.keep rfl, s3.keep rfl, s4.keep rfl, s5.keep rfl, s6.keep rfl, O0.keep (Off.refl _ wr) rfl, P5_7.keep rfl, hO⟩
          simp only [Act.put, List.setIfInBounds_toArray, List.set_cons_zero, List.set_cons_succ]
        · intro l a wr hI hl hd K' hK
          obtain ⟨u21, u22, u23, u24, u25, u26, u27, ha, s0, s1, s2, s3, s4, s5, s6, O0, P5_7, hO⟩ := hI
          simp only [Act.put, List.setIfInBounds_toArray, List.set_cons_zero, List.set_cons_succ] at ha
          have q0 := s0 (hd 0 (by decide))
          subst ha q0
          go_simp
          refine hK.out _ _ ⟨_, _, _, _, _, _, _, ?_, s0.keep rfl, Slot.new _ _ _, s2.keep rfl, s3.keep rfl, s4.keep rfl, s5.keep rfl, s6.keep rfl, O0.keep (Off.refl _ wr) rfl, P5_7.keep rfl, hO⟩
          simp only [Act.put, List.setIfInBounds_toArray, List.set_cons_zero, List.set_cons_succ]
        · intro l a wr hI hl hd K' hK
          obtain ⟨u21, u22, u23, u24, u25, u26, u27, ha, s0, s1, s2, s3, s4, s5, s6, O0, P5_7, hO⟩ := hI
          simp only [Act.put, List.setIfInBounds_toArray, List.set_cons_zero, List.set_cons_succ] at ha
          subst ha
          go_simp
          refine hK.out _ _ ⟨_, _, _, _, _, _, _, ?_, s0.keep rfl, s1.keep rfl, Slot.new _ _ _, s3.keep rfl, s4.keep rfl, s5.keep rfl, s6.keep rfl, O0.keep (Off.refl _ wr) rfl, P5_7.keep rfl, hO⟩
          simp only [Act.put, List.setIfInBounds_toArray, List.set_cons_zero, List.set_cons_succ]
        · intro l a wr hI hl hd K' hK
          obtain ⟨u21, u22, u23, u24, u25, u26, u27, ha, s0, s1, s2, s3, s4, s5, s6, O0, P5_7, hO⟩ := hI
          simp only [Act.put, List.setIfInBounds_toArray, List.set_cons_zero, List.set_cons_succ] at ha
          have q1 := s1 (hd 1 (by decide))
          have q2 := s2 (hd 2 (by decide))
          subst ha q1 q2
          go_simp
          refine (held_inv (HE.out wr) hO).mono ?_
          rintro e w1 ⟨rfl, hO1, hOW⟩
          go_wp2_with fail
          refine hK.out _ _ ⟨_, _, _, _, _, _, _, ?_, s0.keep rfl, s1.keep rfl, s2.keep rfl, Slot.new _ _ _, s4.keep rfl, s5.keep rfl, s6.keep rfl, O0.keep hOW rfl, P5_7.keep rfl, hO1⟩
          simp only [Act.put, List.setIfInBounds_toArray, List.set_cons_zero, List.set_cons_succ]
        · intro l a wr hI hl hd K' hK
          obtain ⟨u21, u22, u23, u24, u25, u26, u27, ha, s0, s1, s2, s3, s4, s5, s6, O0, P5_7, hO⟩ := hI
          simp only [Act.put, List.setIfInBounds_toArray, List.set_cons_zero, List.set_cons_succ] at ha
          subst ha
          have hc := HK3.out wr hO
          have p0 := hc.1.1
          have p1 := hc.1.2.1
          have p2 := hc.1.2.2.1
          have p3 := hc.1.2.2.2
          clear hc
          go_simp
          refine hK.out _ _ ⟨_, _, _, _, _, _, _, ?_, s0.keep rfl, s1.keep rfl, s2.keep rfl, s3.keep rfl, Slot.new _ _ _, s5.keep rfl, s6.keep rfl, O0.keep (Off.refl _ wr) rfl, P5_7.keep rfl, hO⟩
          simp only [Act.put, List.setIfInBounds_toArray, List.set_cons_zero, List.set_cons_succ]
        · intro l a wr hI hl hd K' hK
          obtain ⟨u21, u22, u23, u24, u25, u26, u27, ha, s0, s1, s2, s3, s4, s5, s6, O0, P5_7, hO⟩ := hI
          simp only [Act.put, List.setIfInBounds_toArray, List.set_cons_zero, List.set_cons_succ] at ha
          subst ha
          have hZ := O0.was (P5_7 hl)
          obtain ⟨p0, p1, p2, p3⟩ := cells4 hZ
          clear hZ
          go_simp
          refine hK.out _ _ ⟨_, _, _, _, _, _, _, ?_, s0.keep rfl, s1.keep rfl, s2.keep rfl, s3.keep rfl, s4.keep rfl, Slot.new _ _ _, s6.keep rfl, O0.keep (Off.refl _ wr) rfl, P5_7.keep rfl, hO⟩
          simp only [Act.put, List.setIfInBounds_toArray, List.set_cons_zero, List.set_cons_succ]
        · intro l a wr hI hl hd K' hK
          obtain ⟨u21, u22, u23, u24, u25, u26, u27, ha, s0, s1, s2, s3, s4, s5, s6, O0, P5_7, hO⟩ := hI
          simp only [Act.put, List.setIfInBounds_toArray, List.set_cons_zero, List.set_cons_succ] at ha
          have q3 := s3 (hd 3 (by decide))
          have q4 := s4 (hd 4 (by decide))
          have q5 := s5 (hd 5 (by decide))
          subst ha q3 q4 q5
          go_simp
          refine (held_inv (HC.out wr) hO).mono ?_
          rintro e w1 ⟨rfl, hO1, hOW⟩
          go_wp2_with fail
          refine hK.out _ _ ⟨_, _, _, _, _, _, _, ?_, s0.keep rfl, s1.keep rfl, s2.keep rfl, s3.keep rfl, s4.keep rfl, s5.keep rfl, Slot.new _ _ _, O0.keep hOW rfl, P5_7.keep rfl, hO1⟩
          simp only [Act.put, List.setIfInBounds_toArray, List.set_cons_zero, List.set_cons_succ]
        · intro l a wr hI hl hd K' hK
          obtain ⟨u21, u22, u23, u24, u25, u26, u27, ha, s0, s1, s2, s3, s4, s5, s6, O0, P5_7, hO⟩ := hI
          simp only [Act.put, List.setIfInBounds_toArray, List.set_cons_zero, List.set_cons_succ] at ha
          have q6 := s6 (hd 6 (by decide))
          subst ha q6
          have hZ := (O0.was hl)
          obtain ⟨m0, m1, m2, m3⟩ := cells4 hZ
          have fz := fun j => frozen_of_heap hZ j
          have lt := heap_lt hZ
          clear hZ
          go_simp
          refine hK.out _ _ ⟨_, _, _, _, _, _, _, ?_, s0.keep rfl, s1.keep rfl, s2.keep rfl, s3.keep rfl, s4.keep rfl, s5.keep rfl, s6.keep rfl, O0.put hl rfl, Dep.at (hd 5 (by decide)), setCells_in hO (fun _ => rfl) [.int .u64 (wd g 0 : Int), .int .u64 (wd g 1 : Int), .int .u64 (wd g 2 : Int), .int .u64 (wd g 3 : Int)]⟩
          simp only [Act.put, List.setIfInBounds_toArray, List.set_cons_zero, List.set_cons_succ]
        · intro l a wc hI hd
          obtain ⟨u21, u22, u23, u24, u25, u26, u27, ha, s0, s1, s2, s3, s4, s5, s6, O0, P5_7, hO⟩ := hI
          simp only [Act.put, List.setIfInBounds_toArray, List.set_cons_zero, List.set_cons_succ] at ha
          have q0 := s0 (hd 0 (by decide))
          have q1 := s1 (hd 1 (by decide))
          have q2 := s2 (hd 2 (by decide))
          have q3 := s3 (hd 3 (by decide))
          have q4 := s4 (hd 4 (by decide))
          have q5 := s5 (hd 5 (by decide))
          have q6 := s6 (hd 6 (by decide))
          have r0 : wc.heap[(w.heap.size + 1)]? = some (.cells #[.int .u64 (wd g 0 : Int), .int .u64 (wd g 1 : Int), .int .u64 (wd g 2 : Int), .int .u64 (wd g 3 : Int)] 24) := O0.now (hd 7 (by decide))
          subst ha q0 q1 q2 q3 q4 q5 q6
          clear hd s0 s1 s2 s3 s4 s5 s6 O0 P5_7
          have hI : ReadI w wc tb q es S tbl (if d < k + 1 then y0 else 0) (k + 1) := ⟨by rw [← HG.out]; exact r0, hO.heap HRt.out (by omega), HTt.out.off hO (by omega), ⟨S3, HT3.out.off hO (fun b e c => by subst e; exact hnf3 c), HT3c.out⟩, HO3.out.trans hO (fun b hb e => by omega)⟩
          have HI2 := Lib.hid hI
          clear hI r0 hO
          go_wp2
          go_roundw
          case rel => exact ⟨k + 1, by omega, by simp, HI2.out⟩
          case measure => simp [intOf] <;> omega
    · obtain rfl : k = 16 := by omega
      rw [if_pos hd] at hI
      have HI := Lib.hid hI
      obtain ⟨o0, o1, o2, o3⟩ := cells4 hI.fnd
      obtain ⟨⟨r0, r1, r2, r3⟩, fz, lt⟩ := zero_cells hI.ret
      clear hI
      go_wp2
      refine bodyPost_ret (v := V y0) (by simp [results, Tryd.results33, go_sem, r0, r1, r2, r3]) rfl ⟨rfl, ?_⟩
      obtain ⟨S1, hS1, hS1b⟩ := HI.out.tp
      have hnr : ¬ S1 w.heap.size := fun c => (hS1b _ c).elim (fun c => by have := HSl.out _ c; omega) (fun c => by omega)
      have ho := setCells_off w.heap.size (words4 y0) 0 wr
      exact ⟨⟨S1, hS1.off ho (fun b e c => by subst e; exact hnr c), fun b c => (hS1b b c).imp id (fun c => by omega)⟩, HI.out.off.trans ho (fun b hb e => by omega)⟩
end
section
open Go.RowKit
attribute [local go_sem ↓] Go.wp_at_zero Go.wp_at_succ

/-- The events of Pow's first k windows. -/
def powE (k : Nat) : List Ev := (List.range k).flatMap (fun j : Nat => ((6 : Int), (63 : Int) - (j : Int), (0 : Int)) :: scanE 16)
theorem powE_next (k : Nat) : powE (k + 1) = powE k ++ (((6 : Int), (63 : Int) - (k : Int), (0 : Int)) :: scanE 16) := by simp [powE, List.range_succ]
theorem powE_length (k : Nat) : (powE k).length = k * 17 := by
  induction k with
  | zero => rfl
  | succ k ih => rw [powE_next, List.length_append, ih, List.length_cons, scanE_length]; omega
/-- What the loops of Pow keep: the boxed field and exponent, the result's block, the table, the result so far, the tape. -/
structure PowC (w wr : World) (id : Int) (p i r s e rb tb : Nat) (tbl : List Nat) (q : Option Addr) (es : List Ev) (S S' : Nat → Prop) (u : Nat) : Prop where
  fld : wr.heap[w.heap.size]? = some (.cells #[.int .i64 id, .int .u64 (wd p 0 : Int), .int .u64 (wd p 1 : Int), .int .u64 (wd p 2 : Int), .int .u64 (wd p 3 : Int), .int .u64 (i : Int), .int .u64 (wd r 0 : Int), .int .u64 (wd r 1 : Int), .int .u64 (wd r 2 : Int), .int .u64 (wd r 3 : Int), .int .u64 (wd s 0 : Int), .int .u64 (wd s 1 : Int), .int .u64 (wd s 2 : Int), .int .u64 (wd s 3 : Int)] 26)
  exp : wr.heap[w.heap.size + 2]? = some (.cells #[.int .u64 (wd e 0 : Int), .int .u64 (wd e 1 : Int), .int .u64 (wd e 2 : Int), .int .u64 (wd e 3 : Int)] 23)
  ret : wr.heap[w.heap.size + 3]? = some (.cells #[.int .u64 0, .int .u64 0, .int .u64 0, .int .u64 0] 24)
  res : wr.heap[rb]? = some (.cells #[.int .u64 (wd u 0 : Int), .int .u64 (wd u 1 : Int), .int .u64 (wd u 2 : Int), .int .u64 (wd u 3 : Int)] 24)
  tab : NumsAt wr tb 80 tbl
  tp : Tp wr q es S'
  new : ∀ b, S' b → S b ∨ rb < b
  off : Off S w wr
/-- Where the blocks lie. -/
structure PowB (w : World) (S : Nat → Prop) (rb tb : Nat) : Prop where
  tb1 : w.heap.size + 3 < tb
  rb1 : tb < rb
  old : ∀ b, S b → b < w.heap.size
theorem PowC.far {w wr : World} {id : Int} {p i r s e rb tb : Nat} {tbl : List Nat} {q : Option Addr} {es : List Ev} {S S' : Nat → Prop} {u : Nat} (h : PowC w wr id p i r s e rb tb tbl q es S S' u) (hB : PowB w S rb tb) {b : Nat} (h1 : w.heap.size ≤ b) (h2 : b ≤ rb) : ¬ S' b :=
  fun c => (h.new b c).elim (fun c => by have := hB.old b c; omega) (fun c => by omega)
/-- A step that changes nothing of it. -/
theorem PowC.keep {w wr w' : World} {id : Int} {p i r s e rb tb : Nat} {tbl : List Nat} {q : Option Addr} {es : List Ev} {S S' : Nat → Prop} {u : Nat} (h : PowC w wr id p i r s e rb tb tbl q es S S' u) (ho : Off (fun _ => False) wr w') : PowC w w' id p i r s e rb tb tbl q es S S' u :=
  ⟨ho.heap h.fld (fun c => c), ho.heap h.exp (fun c => c), ho.heap h.ret (fun c => c), ho.heap h.res (fun c => c), h.tab.off ho (fun c => c), h.tp.off0 ho, h.new, h.off.trans ho (fun _ _ c => c.elim)⟩
/-- A step that stores into the result so far. -/
theorem PowC.put {w wr w' : World} {id : Int} {p i r s e rb tb : Nat} {tbl : List Nat} {q : Option Addr} {es : List Ev} {S S' : Nat → Prop} {u : Nat} (h : PowC w wr id p i r s e rb tb tbl q es S S' u) (hB : PowB w S rb tb) (ho : Off (fun k => k = rb) wr w') {z : Nat} (hz : w'.heap[rb]? = some (.cells #[.int .u64 (wd z 0 : Int), .int .u64 (wd z 1 : Int), .int .u64 (wd z 2 : Int), .int .u64 (wd z 3 : Int)] 24)) : PowC w w' id p i r s e rb tb tbl q es S S' z := by
  have h1 := hB.tb1
  have h2 := hB.rb1
  exact ⟨ho.heap h.fld (by omega), ho.heap h.exp (by omega), ho.heap h.ret (by omega), hz, h.tab.off ho (by omega), h.tp.off ho (fun b e c => by subst e; exact h.far hB (by omega) (Nat.le_refl _) c), h.new, h.off.trans ho (fun b hb e => by omega)⟩
/-- A step that notes events, and may store into the result so far. -/
theorem PowC.note {w wr w' : World} {id : Int} {p i r s e rb tb : Nat} {tbl : List Nat} {q : Option Addr} {es ls : List Ev} {S S' : Nat → Prop} {u : Nat} (h : PowC w wr id p i r s e rb tb tbl q es S S' u) (hB : PowB w S rb tb) (ho : Off (fun k => k = rb ∨ S' k) wr w') {z : Nat} (hz : w'.heap[rb]? = some (.cells #[.int .u64 (wd z 0 : Int), .int .u64 (wd z 1 : Int), .int .u64 (wd z 2 : Int), .int .u64 (wd z 3 : Int)] 24))
    (hn : Noted wr.heap.size q es ls S' w') : ∃ S2, PowC w w' id p i r s e rb tb tbl q (ext q es ls) S S2 z := by
  have h1 := hB.tb1
  have h2 := hB.rb1
  have h3 := heap_lt h.res
  obtain ⟨S2, t1, t2⟩ := hn
  have hx : ∀ b, w.heap.size ≤ b → b < rb → ¬ (b = rb ∨ S' b) := fun b c1 c2 c => c.elim (fun c => by omega) (h.far hB c1 (by omega))
  refine ⟨S2, ho.heap h.fld (hx _ (by omega) (by omega)), ho.heap h.exp (hx _ (by omega) (by omega)), ho.heap h.ret (hx _ (by omega) (by omega)), hz, h.tab.off ho (hx _ (by omega) (by omega)), t1, fun b c => (t2 b c).elim (h.new b) (fun c => .inr (by omega)), h.off.trans ho (fun b hb c => c.elim (fun c => by omega) (fun c => (h.new b c).elim (fun c => c) (fun c => by omega)))⟩
set_option maxRecDepth 100000 in
set_option maxHeartbeats 4000000 in
theorem pow_any {id : Int} {p i0 r s : Nat} (hF : Fld id p i0 r s) (v e : Nat) (he : e < R256) (q : Option Addr) (es : List Ev) (S : Nat → Prop) (w : World) (hS : Tp w q es S) (hl : es.length ≤ 80000) :
    Calls Tryd.prog 12 #[.pointer q, FV id p i0 r s, V (fm p v), V e] w fun x w' => x = .returned (V (fm p (v ^ e % p))) ∧ Noted w.heap.size q es (powE 64) S w' ∧ Off S w w' := by
  have hp := hF.mp.pos
  have hpl := hF.mp.lt
  have HSq := Lib.hid (fun m W => by have h := msquare_any hF (fm p (v ^ m % p)) (fm_lt hp _) W; rw [pow_mm hF.mp] at h; exact h : ∀ m W, Calls Tryd.prog 30 #[FV id p i0 r s, V (fm p (v ^ m % p))] W fun x w' => x = .returned (V (fm p (v ^ (m + m) % p))) ∧ Off (fun _ => False) W w')
  have HMl := Lib.hid (fun m n W => by have h := mmul_any hF (fm p (v ^ m % p)) (fm p (v ^ n % p)) (Nat.lt_trans (fm_lt hp _) hpl) (fm_lt hp _) W; rw [pow_mm hF.mp] at h; exact h : ∀ m n W, Calls Tryd.prog 32 #[FV id p i0 r s, V (fm p (v ^ m % p)), V (fm p (v ^ n % p))] W fun x w' => x = .returned (V (fm p (v ^ (m + n) % p))) ∧ Off (fun _ => False) W w')
  have HPo := Lib.hid (fun W => powersof_any hF v W)
  have HBi := Lib.hid (fun k W => by have h := bits_any e he ((k * 4 : Nat) : Int) ((4 : Nat) : Int) W; rw [bitsV_in (by decide), digV_bits] at h; exact h : ∀ (k : Nat) W, Calls Tryd.prog 31 #[V e, .int .i64 ((k * 4 : Nat) : Int), .int .i64 4] W fun x w' => x = .returned (.int .u64 (digV e k : Int)) ∧ Off (fun _ => False) W w')
  have HR := Lib.hid (show fm p (v ^ 0 % p) = r by rw [pow_zero_fm, hF.rr])
  have HE := Lib.hid he
  have htb : ∀ x ∈ tblV p v 15, x < R256 := fun x hx => by
    unfold tblV at hx
    obtain ⟨j, _, rfl⟩ := List.mem_map.1 hx
    split
    · exact Nat.lt_trans (fm_lt hp _) hpl
    · omega
  have HTb := Lib.hid htb
  obtain ⟨x, hx⟩ : ∃ x, x = fm p v := ⟨_, rfl⟩
  rw [← hx] at HPo ⊢
  obtain ⟨W0, hW0⟩ : ∃ W0, W0 = (((w.alloc (.cells #[.int .i64 id, .int .u64 (wd p 0 : Int), .int .u64 (wd p 1 : Int), .int .u64 (wd p 2 : Int), .int .u64 (wd p 3 : Int), .int .u64 (i0 : Int), .int .u64 (wd r 0 : Int), .int .u64 (wd r 1 : Int), .int .u64 (wd r 2 : Int), .int .u64 (wd r 3 : Int), .int .u64 (wd s 0 : Int), .int .u64 (wd s 1 : Int), .int .u64 (wd s 2 : Int), .int .u64 (wd s 3 : Int)] 26)).alloc (.cells #[.int .u64 (wd x 0 : Int), .int .u64 (wd x 1 : Int), .int .u64 (wd x 2 : Int), .int .u64 (wd x 3 : Int)] 24)).alloc (.cells #[.int .u64 (wd e 0 : Int), .int .u64 (wd e 1 : Int), .int .u64 (wd e 2 : Int), .int .u64 (wd e 3 : Int)] 23)).alloc (.cells #[.int .u64 0, .int .u64 0, .int .u64 0, .int .u64 0] 24) := ⟨_, rfl⟩
  have hO0 : Off (fun _ => False) w W0 := by rw [hW0]; exact ((((Off.refl _ w).alloc _).alloc _).alloc _).alloc _
  have hf0 : W0.heap[w.heap.size]? = some (.cells #[.int .i64 id, .int .u64 (wd p 0 : Int), .int .u64 (wd p 1 : Int), .int .u64 (wd p 2 : Int), .int .u64 (wd p 3 : Int), .int .u64 (i0 : Int), .int .u64 (wd r 0 : Int), .int .u64 (wd r 1 : Int), .int .u64 (wd r 2 : Int), .int .u64 (wd r 3 : Int), .int .u64 (wd s 0 : Int), .int .u64 (wd s 1 : Int), .int .u64 (wd s 2 : Int), .int .u64 (wd s 3 : Int)] 26) := by rw [hW0]; exact heap_old' (heap_old' (heap_old' (heap_new' rfl _) _) _) _
  have hx0 : W0.heap[w.heap.size + 1]? = some (.cells #[.int .u64 (wd x 0 : Int), .int .u64 (wd x 1 : Int), .int .u64 (wd x 2 : Int), .int .u64 (wd x 3 : Int)] 24) := by rw [hW0]; exact heap_old' (heap_old' (heap_new' (by simp) _) _) _
  have he0 : W0.heap[w.heap.size + 2]? = some (.cells #[.int .u64 (wd e 0 : Int), .int .u64 (wd e 1 : Int), .int .u64 (wd e 2 : Int), .int .u64 (wd e 3 : Int)] 23) := by rw [hW0]; exact heap_old' (heap_new' (by simp) _) _
  have hr0 : W0.heap[w.heap.size + 3]? = some (.cells #[.int .u64 0, .int .u64 0, .int .u64 0, .int .u64 0] 24) := by rw [hW0]; exact heap_new' (by simp) _
  have hz0 : W0.heap.size = w.heap.size + 4 := by rw [hW0]; simp
  have HF0 := Lib.hid hf0
  have HE0 := Lib.hid he0
  have HR0 := Lib.hid hr0
  have HO0 := Lib.hid hO0
  have HW0 := Lib.hid hW0
  have HS := Lib.hid hS
  obtain ⟨f0, f1, f2, f3, f4, f5, f6, f7, f8, f9, f10, f11, f12, f13⟩ := fv_cells hf0
  obtain ⟨x0, x1, x2, x3⟩ := cells4 hx0
  clear hx hF hp hpl htb hO0 hf0 hx0 he0 hr0 hW0 hS he
  go_enter Tryd.func12, Tryd.ntmps12
  go_upto_region 1 with fail
  rw [← HW0.out]
  go_wp2_with fail
  refine (HPo.out _).mono ?_
  rintro e1 u1 ⟨tb, rfl, htb1, hTab, hO1⟩
  clear f0 f1 f2 f3 f4 f5 f6 f7 f8 f9 f10 f11 f12 f13 x0 x1 x2 x3
  obtain ⟨W1, hW1⟩ : ∃ W1, W1 = u1.alloc (.cells #[.int .u64 (wd r 0 : Int), .int .u64 (wd r 1 : Int), .int .u64 (wd r 2 : Int), .int .u64 (wd r 3 : Int)] 24) := ⟨_, rfl⟩
  obtain ⟨rb, hrb⟩ : ∃ rb, rb = u1.heap.size := ⟨_, rfl⟩
  have hOW : Off (fun _ => False) u1 W1 := by rw [hW1]; exact (Off.refl _ u1).alloc _
  have hF1 := hO1.heap HF0.out (fun c => c)
  have hlt := hTab.lt
  have hB : PowB w S rb tb := ⟨by omega, by omega, HS.out.2⟩
  have hC : PowC w W1 id p i0 r s e rb tb (tblV p v 15) q (ext q es (powE 0)) S S (fm p (v ^ winV e 0 % p)) := by
    refine ⟨hOW.heap hF1 (fun c => c), hOW.heap (hO1.heap HE0.out (fun c => c)) (fun c => c), hOW.heap (hO1.heap HR0.out (fun c => c)) (fun c => c), ?_, hTab.off hOW (fun c => c), ?_, fun _ c => .inl c, (((HO0.out.trans hO1 (fun _ _ c => c)).trans hOW (fun _ _ c => c)).mono (fun _ _ c => c.elim))⟩
    · rw [win_zero HE.out, HR.out, hW1, hrb]; exact heap_new' rfl _
    · rw [show powE 0 = [] from rfl, ext_nil]
      exact ((HS.out.off0 HO0.out).off0 hO1).off0 hOW
  have HC := Lib.hid hC
  have HB := Lib.hid hB
  have HW1 := Lib.hid hW1
  obtain ⟨f0, f1, f2, f3, f4, f5, f6, f7, f8, f9, f10, f11, f12, f13⟩ := fv_cells hF1
  clear hC hW1 hOW hF1 hTab hO1 htb1 hlt hz0 HF0 HE0 HR0 HO0 HW0
  go_wp2_with fail
  rw [← HW1.out, ← hrb]
  clear f0 f1 f2 f3 f4 f5 f6 f7 f8 f9 f10 f11 f12 f13 HW1 hrb
  go_loopw [19] (fun i wr => ∃ k : Nat, k ≤ 64 ∧ i = .int .i64 (k : Int) ∧ ∃ S', PowC w wr id p i0 r s e rb tb (tblV p v 15) q (ext q es (powE k)) S S' (fm p (v ^ winV e k % p))) (fun i _ => 64 - (intOf i).toNat)
  case atStart => exact ⟨0, by omega, rfl, S, HC.out⟩
  case round =>
    obtain ⟨k, hk, rfl, S0, hC⟩ := hrel
    by_cases hlt2 : k < 64
    · obtain ⟨W2, hW2⟩ : ∃ W2, W2 = wr := ⟨_, rfl⟩
      subst hW2
      obtain ⟨m, hm⟩ : ∃ m, m = winV e k := ⟨_, rfl⟩
      rw [← hm] at hC
      have HM := Lib.hid hm
      have HC := Lib.hid hC
      have hkb : (k : Int) < 64 := by omega
      have hw1 : IntKind.i64.wrap ((63 : Int) - (k : Int)) = (63 : Int) - (k : Int) := by rw [IntKind.wrap_i64]; omega
      have HNt := Lib.hid (note_ext q (ext q es (powE k)) S0 W2 hC.tp (by have := ext_le q es (powE k); rw [powE_length] at this; omega) ((6 : Int), (63 : Int) - (k : Int), (0 : Int)))
      clear hC hm
      go_wp2_with fail
      refine HNt.out.mono ?_
      rintro e1 W3 ⟨rfl, hN, hO3⟩
      obtain ⟨S1, hC⟩ := HC.out.note HB.out (hO3.mono (fun b _ c => .inr c)) (hO3.heap HC.out.res (HC.out.far HB.out (by have := HB.out.tb1; have := HB.out.rb1; omega) (Nat.le_refl _))) hN
      obtain ⟨es1, hes⟩ : ∃ es1, es1 = ext q (ext q es (powE k)) [((6 : Int), (63 : Int) - (k : Int), (0 : Int))] := ⟨_, rfl⟩
      rw [← hes] at hC
      have HEs := Lib.hid hes
      have HC1 := Lib.hid hC
      clear hC hes hN hO3 HC
      go_wp2_with fail
      go_loopw [27] (fun j wr => ∃ n : Nat, n ≤ 4 ∧ j = .int .i64 (n : Int) ∧ PowC w wr id p i0 r s e rb tb (tblV p v 15) q es1 S S1 (fm p (v ^ (2 ^ n * m) % p))) (fun i _ => 4 - (intOf i).toNat)
      case atStart => exact ⟨0, by omega, rfl, by rw [Nat.pow_zero, Nat.one_mul]; exact HC1.out⟩
      case round =>
        obtain ⟨n, hn, rfl, hC⟩ := hrel
        by_cases hlt3 : n < 4
        · have HC := Lib.hid hC
          obtain ⟨f0, f1, f2, f3, f4, f5, f6, f7, f8, f9, f10, f11, f12, f13⟩ := fv_cells hC.fld
          obtain ⟨o0, o1, o2, o3⟩ := cells4 hC.res
          have hnb : (n : Int) < 4 := by omega
          clear hC
          go_wp2_with fail
          refine (HSq.out _ _).mono ?_
          rintro e1 W4 ⟨rfl, hO4⟩
          clear f0 f1 f2 f3 f4 f5 f6 f7 f8 f9 f10 f11 f12 f13 o0 o1 o2 o3
          obtain ⟨z, hz⟩ : ∃ z, z = fm p (v ^ (2 ^ n * m + 2 ^ n * m) % p) := ⟨_, rfl⟩
          rw [← hz]
          have hC := HC.out.keep hO4
          obtain ⟨m0, m1, m2, m3⟩ := cells4 hC.res
          have fz := fun j => frozen_of_heap hC.res j
          have lt := heap_lt hC.res
          have hC2 := hC.put HB.out (setCells_off rb (words4 z) 0 W4) (setCells_at hC.res rfl)
          have HZ := Lib.hid (show z = fm p (v ^ (2 ^ (n + 1) * m) % p) by rw [hz, Nat.pow_succ, Nat.mul_comm (2 ^ n) 2, Nat.mul_assoc, Nat.two_mul])
          have HC2 := Lib.hid hC2
          clear hC hC2 hz hO4
          go_wp2
          go_roundw
          case rel => exact ⟨n + 1, by omega, by simp, by rw [← HZ.out]; exact HC2.out⟩
          case measure => simp [intOf] <;> omega
        · obtain rfl : n = 4 := by omega
          rw [show (2 : Nat) ^ 4 * m = 16 * m from rfl] at hC
          obtain ⟨W4, hW4⟩ : ∃ W4, W4 = wr := ⟨_, rfl⟩
          subst hW4
          have HC := Lib.hid hC
          obtain ⟨y0, y1, y2, y3⟩ := cells4 hC.exp
          obtain ⟨P4, hP4⟩ : ∃ P4, P4 = (63 - k) * 4 := ⟨_, rfl⟩
          have hw2 : IntKind.i64.wrap (((63 : Int) - (k : Int)) * 4) = (P4 : Int) := by rw [IntKind.wrap_i64]; omega
          have HBk := Lib.hid (fun W => HBi.out (63 - k) W)
          rw [← hP4] at HBk
          clear hC hP4
          go_wp2_with fail
          refine (HBk.out _).mono ?_
          rintro e1 W5 ⟨rfl, hO5⟩
          obtain ⟨d, hd⟩ : ∃ d, d = digV e (63 - k) := ⟨_, rfl⟩
          rw [← hd]
          obtain ⟨u, hu⟩ : ∃ u, u = fm p (v ^ (16 * m) % p) := ⟨_, rfl⟩
          have hC5 := HC.out.keep hO5
          rw [← hu] at hC5
          have HC5 := Lib.hid hC5
          obtain ⟨y, hy⟩ : ∃ y, y = fm p (v ^ d % p) := ⟨_, rfl⟩
          obtain ⟨z, hz⟩ : ∃ z, z = fm p (v ^ (16 * m + d) % p) := ⟨_, rfl⟩
          have hd16 : d < 16 := by rw [hd]; exact digV_lt _ _
          have hrb : ¬ S1 rb := hC5.far HB.out (by have := HB.out.tb1; have := HB.out.rb1; omega) (Nat.le_refl _)
          have htbn : ¬ S1 tb := hC5.far HB.out (by have := HB.out.tb1; omega) (by have := HB.out.rb1; omega)
          have hes1 : es1.length ≤ 90000 := by
            rw [HEs.out]
            have h1 := ext_le q (ext q es (powE k)) [((6 : Int), (63 : Int) - (k : Int), (0 : Int))]
            have h2 := ext_le q es (powE k)
            rw [powE_length] at h2
            simp only [List.length_cons, List.length_nil] at h1
            omega
          have HRd := Lib.hid (show ∀ W, NumsAt W tb 80 (tblV p v 15) → Tp W q es1 S1 → Calls Tryd.prog 33 #[.pointer (some ⟨tb, 0, none⟩), .pointer q, .int .u64 (d : Int)] W fun e w' => e = .returned (V y) ∧ Noted W.heap.size q es1 (scanE 16) S1 w' ∧ Off S1 W w' from
            fun W h1 h2 => read_any tb (tblV p v 15) (tblV_length p v 15) HTb.out q es1 S1 d y hd16 (by rw [hy]; exact tblV_get (by omega) (by omega)) W h1 h2 htbn hes1)
          have HMu := Lib.hid (show ∀ W, Calls Tryd.prog 32 #[FV id p i0 r s, V u, V y] W fun x w' => x = .returned (V z) ∧ Off (fun _ => False) W w' from fun W => by rw [hu, hy, hz]; exact HMl.out _ _ W)
          have HRs := Lib.hid hC5.res
          have HT1 := Lib.hid hC5.tp
          have HK1 : Hid (∀ W, Off (fun k => k = rb ∨ S1 k) W5 W → (W.cell? ⟨w.heap.size, 0, none⟩ = some (.int .i64 id) ∧ W.cell? ⟨w.heap.size, 1, none⟩ = some (.int .u64 (wd p 0 : Int)) ∧ W.cell? ⟨w.heap.size, 2, none⟩ = some (.int .u64 (wd p 1 : Int)) ∧ W.cell? ⟨w.heap.size, 3, none⟩ = some (.int .u64 (wd p 2 : Int)) ∧ W.cell? ⟨w.heap.size, 4, none⟩ = some (.int .u64 (wd p 3 : Int)) ∧ W.cell? ⟨w.heap.size, 5, none⟩ = some (.int .u64 (i0 : Int)) ∧ W.cell? ⟨w.heap.size, 6, none⟩ = some (.int .u64 (wd r 0 : Int)) ∧ W.cell? ⟨w.heap.size, 7, none⟩ = some (.int .u64 (wd r 1 : Int)) ∧ W.cell? ⟨w.heap.size, 8, none⟩ = some (.int .u64 (wd r 2 : Int)) ∧ W.cell? ⟨w.heap.size, 9, none⟩ = some (.int .u64 (wd r 3 : Int)) ∧ W.cell? ⟨w.heap.size, 10, none⟩ = some (.int .u64 (wd s 0 : Int)) ∧ W.cell? ⟨w.heap.size, 11, none⟩ = some (.int .u64 (wd s 1 : Int)) ∧ W.cell? ⟨w.heap.size, 12, none⟩ = some (.int .u64 (wd s 2 : Int)) ∧ W.cell? ⟨w.heap.size, 13, none⟩ = some (.int .u64 (wd s 3 : Int))) ∧ NumsAt W tb 80 (tblV p v 15) ∧ Off (fun k => k = rb ∨ S1 k) W5 W) := Lib.hid (fun W h => by
            have h1 := HB.out.tb1
            have h2 := HB.out.rb1
            have hx : ∀ b, w.heap.size ≤ b → b < rb → ¬ (b = rb ∨ S1 b) := fun b c1 c2 c => c.elim (fun c => by omega) (HC5.out.far HB.out c1 (by omega))
            exact ⟨fv_cells (h.heap HC5.out.fld (hx _ (Nat.le_refl _) (by omega))), HC5.out.tab.off h (hx _ (by omega) (by omega)), h⟩)
          have HZ := Lib.hid (show z = fm p (v ^ winV e (k + 1) % p) by rw [hz, hd, HM.out, win_next e k hlt2])
          clear hC5 hu hy hz hd hd16 htbn hes1 hO5 y0 y1 y2 y3 hw1 hw2 HBk
          go_upto_region 13 with fail
          refine wp_region_inv (fun a0 l a' w' => ∃ (u37 : Value) (u38 : Value) (u39 : Value) (u40 : Value) (u41 : Value) (u42 : Value) (u43 : Value), a' = (Act.put (Act.put (Act.put (Act.put (Act.put (Act.put (Act.put a0 (some 37) u37) (some 38) u38) (some 39) u39) (some 40) u40) (some 41) u41) (some 42) u42) (some 43) u43) ∧ Slot l 0 u37 (FV id p i0 r s) ∧ Slot l 1 u38 (V u) ∧ Slot l 2 u39 (.pointer (some ⟨tb, 0, none⟩)) ∧ Slot l 3 u40 (.pointer q) ∧ Slot l 4 u41 (.int .u64 (d : Int)) ∧ Slot l 5 u42 (V y) ∧ Slot l 6 u43 (V z) ∧ Old l 7 rb W5 w' (.cells #[.int .u64 (wd u 0 : Int), .int .u64 (wd u 1 : Int), .int .u64 (wd u 2 : Int), .int .u64 (wd u 3 : Int)] 24) (.cells #[.int .u64 (wd z 0 : Int), .int .u64 (wd z 1 : Int), .int .u64 (wd z 2 : Int), .int .u64 (wd z 3 : Int)] 24) ∧ Dep l 1 7 ∧ TpI l 5 W5 w' q es1 (scanE 16) S1 ∧ Off (fun k => k = rb ∨ S1 k) W5 w') (by kernel_rfl) (by kernel_rfl) ?_ ⟨?_, ?_, ?_, ?_, ?_, ?_, ?_, ?_, trivial⟩ ?_
          · refine ⟨?z37, ?z38, ?z39, ?z40, ?z41, ?z42, ?z43, ?fr, Slot.start _ _ _, Slot.start _ _ _, Slot.start _ _ _, Slot.start _ _ _, Slot.start _ _ _, Slot.start _ _ _, Slot.start _ _ _, Old.start HRs.out _ _, Dep.start _ _, TpI.start HT1.out _ _ _, (Off.refl _ W5).drew⟩
            case fr => first | (simp only [Act.put, List.setIfInBounds_toArray, List.set_cons_zero, List.set_cons_succ]; rfl) | simp only [Act.put, List.setIfInBounds_toArray, List.set_cons_zero, List.set_cons_succ]
          · intro l a wr hI hl hd K' hK
            obtain ⟨u37, u38, u39, u40, u41, u42, u43, ha, s0, s1, s2, s3, s4, s5, s6, O0, P1_7, TP, hO⟩ := hI
            simp only [Act.put, List.setIfInBounds_toArray, List.set_cons_zero, List.set_cons_succ] at ha
            subst ha
            have hc := HK1.out wr hO
            have p0 := hc.1.1
            have p1 := hc.1.2.1
            have p2 := hc.1.2.2.1
            have p3 := hc.1.2.2.2.1
            have p4 := hc.1.2.2.2.2.1
            have p5 := hc.1.2.2.2.2.2.1
            have p6 := hc.1.2.2.2.2.2.2.1
            have p7 := hc.1.2.2.2.2.2.2.2.1
            have p8 := hc.1.2.2.2.2.2.2.2.2.1
            have p9 := hc.1.2.2.2.2.2.2.2.2.2.1
            have p10 := hc.1.2.2.2.2.2.2.2.2.2.2.1
            have p11 := hc.1.2.2.2.2.2.2.2.2.2.2.2.1
            have p12 := hc.1.2.2.2.2.2.2.2.2.2.2.2.2.1
            have p13 := hc.1.2.2.2.2.2.2.2.2.2.2.2.2.2
            clear hc
            go_simp
            refine hK.out _ _ ⟨_, _, _, _, _, _, _, ?_, Slot.new _ _ _, s1.keep rfl, s2.keep rfl, s3.keep rfl, s4.keep rfl, s5.keep rfl, s6.keep rfl, O0.keep (Off.refl _ wr) rfl, P1_7.keep rfl, TP.same rfl, hO⟩
            simp only [Act.put, List.setIfInBounds_toArray, List.set_cons_zero, List.set_cons_succ]
          · intro l a wr hI hl hd K' hK
            obtain ⟨u37, u38, u39, u40, u41, u42, u43, ha, s0, s1, s2, s3, s4, s5, s6, O0, P1_7, TP, hO⟩ := hI
            simp only [Act.put, List.setIfInBounds_toArray, List.set_cons_zero, List.set_cons_succ] at ha
            subst ha
            have hZ := O0.was (P1_7 hl)
            obtain ⟨p0, p1, p2, p3⟩ := cells4 hZ
            clear hZ
            go_simp
            refine hK.out _ _ ⟨_, _, _, _, _, _, _, ?_, s0.keep rfl, Slot.new _ _ _, s2.keep rfl, s3.keep rfl, s4.keep rfl, s5.keep rfl, s6.keep rfl, O0.keep (Off.refl _ wr) rfl, P1_7.keep rfl, TP.same rfl, hO⟩
            simp only [Act.put, List.setIfInBounds_toArray, List.set_cons_zero, List.set_cons_succ]
          · intro l a wr hI hl hd K' hK
            obtain ⟨u37, u38, u39, u40, u41, u42, u43, ha, s0, s1, s2, s3, s4, s5, s6, O0, P1_7, TP, hO⟩ := hI
            simp only [Act.put, List.setIfInBounds_toArray, List.set_cons_zero, List.set_cons_succ] at ha
            subst ha
            go_simp
            refine hK.out _ _ ⟨_, _, _, _, _, _, _, ?_, s0.keep rfl, s1.keep rfl, Slot.new _ _ _, s3.keep rfl, s4.keep rfl, s5.keep rfl, s6.keep rfl, O0.keep (Off.refl _ wr) rfl, P1_7.keep rfl, TP.same rfl, hO⟩
            simp only [Act.put, List.setIfInBounds_toArray, List.set_cons_zero, List.set_cons_succ]
          · intro l a wr hI hl hd K' hK
            obtain ⟨u37, u38, u39, u40, u41, u42, u43, ha, s0, s1, s2, s3, s4, s5, s6, O0, P1_7, TP, hO⟩ := hI
            simp only [Act.put, List.setIfInBounds_toArray, List.set_cons_zero, List.set_cons_succ] at ha
            subst ha
            go_simp
            refine hK.out _ _ ⟨_, _, _, _, _, _, _, ?_, s0.keep rfl, s1.keep rfl, s2.keep rfl, Slot.new _ _ _, s4.keep rfl, s5.keep rfl, s6.keep rfl, O0.keep (Off.refl _ wr) rfl, P1_7.keep rfl, TP.same rfl, hO⟩
            simp only [Act.put, List.setIfInBounds_toArray, List.set_cons_zero, List.set_cons_succ]
          · intro l a wr hI hl hd K' hK
            obtain ⟨u37, u38, u39, u40, u41, u42, u43, ha, s0, s1, s2, s3, s4, s5, s6, O0, P1_7, TP, hO⟩ := hI
            simp only [Act.put, List.setIfInBounds_toArray, List.set_cons_zero, List.set_cons_succ] at ha
            subst ha
            go_simp
            refine hK.out _ _ ⟨_, _, _, _, _, _, _, ?_, s0.keep rfl, s1.keep rfl, s2.keep rfl, s3.keep rfl, Slot.new _ _ _, s5.keep rfl, s6.keep rfl, O0.keep (Off.refl _ wr) rfl, P1_7.keep rfl, TP.same rfl, hO⟩
            simp only [Act.put, List.setIfInBounds_toArray, List.set_cons_zero, List.set_cons_succ]
          · intro l a wr hI hl hd K' hK
            obtain ⟨u37, u38, u39, u40, u41, u42, u43, ha, s0, s1, s2, s3, s4, s5, s6, O0, P1_7, TP, hO⟩ := hI
            simp only [Act.put, List.setIfInBounds_toArray, List.set_cons_zero, List.set_cons_succ] at ha
            have q2 := s2 (hd 2 (by decide))
            have q3 := s3 (hd 3 (by decide))
            have q4 := s4 (hd 4 (by decide))
            subst ha q2 q3 q4
            go_simp
            refine (HRd.out wr (HK1.out wr hO).2.1 (TP.was hl)).mono ?_
            rintro e w1 ⟨rfl, hT1, hOW⟩
            have hO1 := hO.trans hOW (fun _ _ c => .inr (c))
            go_wp2_with fail
            refine hK.out _ _ ⟨_, _, _, _, _, _, _, ?_, s0.keep rfl, s1.keep rfl, s2.keep rfl, s3.keep rfl, s4.keep rfl, Slot.new _ _ _, s6.keep rfl, O0.keepS hOW hrb rfl, P1_7.keep rfl, TpI.note hT1 hO.size, hO1⟩
            simp only [Act.put, List.setIfInBounds_toArray, List.set_cons_zero, List.set_cons_succ]
          · intro l a wr hI hl hd K' hK
            obtain ⟨u37, u38, u39, u40, u41, u42, u43, ha, s0, s1, s2, s3, s4, s5, s6, O0, P1_7, TP, hO⟩ := hI
            simp only [Act.put, List.setIfInBounds_toArray, List.set_cons_zero, List.set_cons_succ] at ha
            have q0 := s0 (hd 0 (by decide))
            have q1 := s1 (hd 1 (by decide))
            have q5 := s5 (hd 5 (by decide))
            subst ha q0 q1 q5
            go_simp
            refine (held_inv (HMu.out wr) hO).mono ?_
            rintro e w1 ⟨rfl, hO1, hOW⟩
            go_wp2_with fail
            refine hK.out _ _ ⟨_, _, _, _, _, _, _, ?_, s0.keep rfl, s1.keep rfl, s2.keep rfl, s3.keep rfl, s4.keep rfl, s5.keep rfl, Slot.new _ _ _, O0.keep hOW rfl, P1_7.keep rfl, TP.keep hOW rfl, hO1⟩
            simp only [Act.put, List.setIfInBounds_toArray, List.set_cons_zero, List.set_cons_succ]
          · intro l a wr hI hl hd K' hK
            obtain ⟨u37, u38, u39, u40, u41, u42, u43, ha, s0, s1, s2, s3, s4, s5, s6, O0, P1_7, TP, hO⟩ := hI
            simp only [Act.put, List.setIfInBounds_toArray, List.set_cons_zero, List.set_cons_succ] at ha
            have q6 := s6 (hd 6 (by decide))
            subst ha q6
            have hZ := (O0.was hl)
            obtain ⟨m0, m1, m2, m3⟩ := cells4 hZ
            have fz := fun j => frozen_of_heap hZ j
            have lt := heap_lt hZ
            clear hZ
            go_simp
            refine hK.out _ _ ⟨_, _, _, _, _, _, _, ?_, s0.keep rfl, s1.keep rfl, s2.keep rfl, s3.keep rfl, s4.keep rfl, s5.keep rfl, s6.keep rfl, O0.put hl rfl, Dep.at (hd 1 (by decide)), TP.put (o := 0) (vs := [.int .u64 (wd z 0 : Int), .int .u64 (wd z 1 : Int), .int .u64 (wd z 2 : Int), .int .u64 (wd z 3 : Int)]) rfl hrb O0.lt, setCells_in hO (fun _ => .inl rfl) [.int .u64 (wd z 0 : Int), .int .u64 (wd z 1 : Int), .int .u64 (wd z 2 : Int), .int .u64 (wd z 3 : Int)]⟩
            simp only [Act.put, List.setIfInBounds_toArray, List.set_cons_zero, List.set_cons_succ]
          · intro l a wc hI hd
            obtain ⟨u37, u38, u39, u40, u41, u42, u43, ha, s0, s1, s2, s3, s4, s5, s6, O0, P1_7, TP, hO⟩ := hI
            simp only [Act.put, List.setIfInBounds_toArray, List.set_cons_zero, List.set_cons_succ] at ha
            have q0 := s0 (hd 0 (by decide))
            have q1 := s1 (hd 1 (by decide))
            have q2 := s2 (hd 2 (by decide))
            have q3 := s3 (hd 3 (by decide))
            have q4 := s4 (hd 4 (by decide))
            have q5 := s5 (hd 5 (by decide))
            have q6 := s6 (hd 6 (by decide))
            have r0 : wc.heap[rb]? = some (.cells #[.int .u64 (wd z 0 : Int), .int .u64 (wd z 1 : Int), .int .u64 (wd z 2 : Int), .int .u64 (wd z 3 : Int)] 24) := O0.now (hd 7 (by decide))
            have tp := TP.now (hd 5 (by decide))
            subst ha q0 q1 q2 q3 q4 q5 q6
            clear hd s0 s1 s2 s3 s4 s5 s6 O0 P1_7 TP
            obtain ⟨S2, hC⟩ := HC5.out.note HB.out hO r0 tp
            rw [HEs.out, ext_ext, ext_ext, show [((6 : Int), (63 : Int) - (k : Int), (0 : Int))] ++ scanE 16 = ((6 : Int), (63 : Int) - (k : Int), (0 : Int)) :: scanE 16 from rfl, ← powE_next, HZ.out] at hC
            have HC := Lib.hid hC
            clear hC r0 tp hO
            go_wp2
            go_roundw
            case rel => exact ⟨k + 1, by omega, by simp, S2, HC.out⟩
            case measure => simp [intOf] <;> omega
    · obtain rfl : k = 64 := by omega
      rw [win_full] at hC
      have HC := Lib.hid hC
      obtain ⟨u, hu⟩ : ∃ u, u = fm p (v ^ e % p) := ⟨_, rfl⟩
      rw [← hu] at hC
      have HU := Lib.hid hu
      obtain ⟨o0, o1, o2, o3⟩ := cells4 hC.res
      obtain ⟨⟨r0, r1, r2, r3⟩, fz, lt⟩ := zero_cells hC.ret
      clear hC hu
      go_wp2
      refine bodyPost_ret (v := V u) (by simp [results, Tryd.results12, go_sem, r0, r1, r2, r3]) rfl ⟨by rw [HU.out], ?_⟩
      have h1 := HB.out.tb1
      have h2 := HB.out.rb1
      have hnr : ¬ S0 (w.heap.size + 3) := HC.out.far HB.out (by omega) (by omega)
      have ho := setCells_off (w.heap.size + 3) (words4 u) 0 wr
      exact ⟨⟨S0, HC.out.tp.off ho (fun b e c => by subst e; exact hnr c), fun b c => (HC.out.new b c).imp (fun c => c) (fun c => by omega)⟩, HC.out.off.trans ho (fun b hb e => by omega)⟩
end
section
open Go.RowKit
attribute [local go_sem ↓] Go.wp_at_zero Go.wp_at_succ
theorem sub_two6 {p : Nat} (hp : p < R256) (h1 : 1 < p) : V (subV p 2) = V (p - 2) := by
  have e : subV p 2 % R256 = p - 2 := by
    unfold subV R256 W64 at *
    simp only [Nat.reducePow] at *
    omega
  rw [← V_mod (subV p 2), e]
set_option maxRecDepth 100000 in
set_option maxHeartbeats 4000000 in
theorem inverse_any {id : Int} {p i r s : Nat} (hF : Fld id p i r s) (v : Nat) (q : Option Addr) (es : List Ev) (S : Nat → Prop) (w : World) (hS : Tp w q es S) (hl : es.length ≤ 80000) :
    Calls Tryd.prog 16 #[.pointer q, FV id p i r s, V (fm p v)] w fun x w' => x = .returned (V (fm p (v ^ (p - 2) % p))) ∧ Noted w.heap.size q es (powE 64) S w' ∧ Off S w w' := by
  have hpl := hF.mp.lt
  have hp1 := hF.mp.one
  have HSb := Lib.hid (fun W => by have h := sub_any p 2 hpl (by decide) W; rw [sub_two6 hpl hp1, lit_small 2 (by decide)] at h; exact h)
  obtain ⟨l, hlt⟩ : ∃ l, l = ltN p 2 := ⟨_, rfl⟩
  rw [← hlt] at HSb
  have HPw := Lib.hid (fun W h => pow_any hF v (p - 2) (by omega) q es S W h hl)
  obtain ⟨n, hn⟩ : ∃ n, n = p - 2 := ⟨_, rfl⟩
  rw [← hn] at HSb
  obtain ⟨z, hz⟩ : ∃ z, z = fm p (v ^ (p - 2) % p) := ⟨_, rfl⟩
  rw [← hz] at HPw ⊢
  rw [← hn] at HPw
  obtain ⟨x, hx⟩ : ∃ x, x = fm p v := ⟨_, rfl⟩
  rw [← hx] at HPw ⊢
  have HS := Lib.hid hS
  have hSl := hS.2
  clear hx hz hn hlt hS hpl hp1 hF hl
  obtain ⟨W0, hW0⟩ : ∃ W0, W0 = ((w.alloc (.cells #[.int .i64 id, .int .u64 (wd p 0 : Int), .int .u64 (wd p 1 : Int), .int .u64 (wd p 2 : Int), .int .u64 (wd p 3 : Int), .int .u64 (i : Int), .int .u64 (wd r 0 : Int), .int .u64 (wd r 1 : Int), .int .u64 (wd r 2 : Int), .int .u64 (wd r 3 : Int), .int .u64 (wd s 0 : Int), .int .u64 (wd s 1 : Int), .int .u64 (wd s 2 : Int), .int .u64 (wd s 3 : Int)] 26)).alloc (.cells #[.int .u64 (wd x 0 : Int), .int .u64 (wd x 1 : Int), .int .u64 (wd x 2 : Int), .int .u64 (wd x 3 : Int)] 24)).alloc (.cells #[.int .u64 0, .int .u64 0, .int .u64 0, .int .u64 0] 24) := ⟨_, rfl⟩
  have hO0 : Off (fun _ => False) w W0 := by rw [hW0]; exact (((Off.refl _ w).alloc _).alloc _).alloc _
  have hf0 : W0.heap[w.heap.size]? = some (.cells #[.int .i64 id, .int .u64 (wd p 0 : Int), .int .u64 (wd p 1 : Int), .int .u64 (wd p 2 : Int), .int .u64 (wd p 3 : Int), .int .u64 (i : Int), .int .u64 (wd r 0 : Int), .int .u64 (wd r 1 : Int), .int .u64 (wd r 2 : Int), .int .u64 (wd r 3 : Int), .int .u64 (wd s 0 : Int), .int .u64 (wd s 1 : Int), .int .u64 (wd s 2 : Int), .int .u64 (wd s 3 : Int)] 26) := by rw [hW0]; exact heap_old' (heap_old' (heap_new' rfl _) _) _
  have hx0 : W0.heap[w.heap.size + 1]? = some (.cells #[.int .u64 (wd x 0 : Int), .int .u64 (wd x 1 : Int), .int .u64 (wd x 2 : Int), .int .u64 (wd x 3 : Int)] 24) := by rw [hW0]; exact heap_old' (heap_new' (by simp) _) _
  have hr0 : W0.heap[w.heap.size + 2]? = some (.cells #[.int .u64 0, .int .u64 0, .int .u64 0, .int .u64 0] 24) := by rw [hW0]; exact heap_new' (by simp) _
  have HF0 := Lib.hid hf0
  have HX0 := Lib.hid hx0
  have HR0 := Lib.hid hr0
  have HO0 := Lib.hid hO0
  have HW0 := Lib.hid hW0
  obtain ⟨f0, f1, f2, f3, f4, f5, f6, f7, f8, f9, f10, f11, f12, f13⟩ := fv_cells hf0
  clear hO0 hf0 hx0 hr0 hW0
  go_enter Tryd.func16, Tryd.ntmps16
  go_upto_region 1 with fail
  rw [← HW0.out]
  go_wp2_with fail
  refine (HSb.out _).mono ?_
  rintro e1 u1 ⟨rfl, hO1⟩
  clear f0 f1 f2 f3 f4 f5 f6 f7 f8 f9 f10 f11 f12 f13
  obtain ⟨W1, hW1⟩ : ∃ W1, W1 = u1.alloc (.cells #[.int .u64 (wd n 0 : Int), .int .u64 (wd n 1 : Int), .int .u64 (wd n 2 : Int), .int .u64 (wd n 3 : Int)] 23) := ⟨_, rfl⟩
  have hOW : Off (fun _ => False) u1 W1 := by rw [hW1]; exact (Off.refl _ u1).alloc _
  have hN1 : W1.heap[u1.heap.size]? = some (.cells #[.int .u64 (wd n 0 : Int), .int .u64 (wd n 1 : Int), .int .u64 (wd n 2 : Int), .int .u64 (wd n 3 : Int)] 23) := by rw [hW1]; exact heap_new' rfl _
  have hF1 := hOW.heap (hO1.heap HF0.out (fun c => c)) (fun c => c)
  have hX1 := hOW.heap (hO1.heap HX0.out (fun c => c)) (fun c => c)
  have HR1 := Lib.hid (hOW.heap (hO1.heap HR0.out (fun c => c)) (fun c => c))
  have HOf := Lib.hid ((HO0.out.trans hO1 (fun _ _ c => c)).trans hOW (fun _ _ c => c))
  obtain ⟨f0, f1, f2, f3, f4, f5, f6, f7, f8, f9, f10, f11, f12, f13⟩ := fv_cells hF1
  obtain ⟨x0, x1, x2, x3⟩ := cells4 hX1
  obtain ⟨n0, n1, n2, n3⟩ := cells4 hN1
  have HW1 := Lib.hid hW1
  clear hOW hF1 hX1 hN1 hO1 HF0 HX0 HR0 HO0 HW0 hW1
  go_upto_region 2 with fail
  rw [← HW1.out]
  go_wp2_with fail
  refine (HPw.out _ (HS.out.off0 HOf.out)).mono ?_
  rintro e2 W2 ⟨rfl, hN2, hO2⟩
  clear f0 f1 f2 f3 f4 f5 f6 f7 f8 f9 f10 f11 f12 f13 x0 x1 x2 x3 n0 n1 n2 n3
  have hnr : ¬ S (w.heap.size + 2) := fun c => by have := hSl _ c; omega
  have hlt := heap_lt HR1.out
  have hRz := hO2.heap HR1.out hnr
  obtain ⟨⟨r0, r1, r2, r3⟩, fz, lt⟩ := zero_cells hRz
  have HN2 := Lib.hid hN2
  have HO2 := Lib.hid hO2
  clear hRz hN2 hO2 HW1
  go_wp2
  refine bodyPost_ret (v := V z) (by simp [results, Tryd.results16, go_sem, r0, r1, r2, r3]) rfl ⟨rfl, ?_⟩
  have ho := setCells_off (w.heap.size + 2) (words4 z) 0 W2
  refine ⟨?_, ((HOf.out.mono (fun _ _ c => c.elim)).trans HO2.out (fun b hb c => c)).trans ho (fun b hb e => by omega)⟩
  obtain ⟨S', h1, h2⟩ := HN2.out
  have hsz := HOf.out.size
  exact ⟨S', h1.off ho (fun b e c => by subst e; exact (h2 _ c).elim hnr (fun c => by omega)), fun b c => (h2 b c).imp (fun c => c) (fun c => by omega)⟩
end
end Go.Proofs.YtnegdlmpmmehmaaDoor
