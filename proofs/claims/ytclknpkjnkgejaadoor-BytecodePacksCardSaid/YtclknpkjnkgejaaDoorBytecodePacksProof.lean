/-
  For every field and all bytes, the examples of the chapter hold, and Pack returns the element of the number that the bytes represent, which Unpack inverts, or ErrLength: the statement of P7.4 to P7.6. No condition.
-/
import Derived.Test.YtclknpkjnkgejaaDoorRows
import Derived.Test.YtclknpkjnkgejaaDoorTie
import Derived.Test.YtclknpkjnkgejaaDoorCards
import Derived.LaidMore
import Derived.LaidHandle
import Derived.SevenTiedAt
import Derived.Stop.Joined
import Derived.JoinedOf
import Derived.Test.YtclknpkjnkgejaaDoorLimbOpen
import Derived.Test.YtclknpkjnkgejaaDoorFieldTab
import Derived.Test.YtclknpkjnkgejaaDoorFieldHeld
import Derived.Test.YtclknpkjnkgejaaDoorBytOpen
import Derived.Test.YtclknpkjnkgejaaDoorBytAlive
import Derived.Test.YtclknpkjnkgejaaDoorBytRefs
import Derived.Test.YtclknpkjnkgejaaDoorInvMem
import Derived.Test.YtclknpkjnkgejaaDoorInvSel
import Derived.WalkKit
import Derived.ProofKit
import Derived.OpenShut
import Derived.ShutString
import Derived.ChangeOld
import Derived.Below
namespace Go.Proofs.YtclknpkjnkgejaaDoor.bytecodePacks
open Go.ChangeShapes Go.WideShapes Go.ChangeAt Go.RowKit
set_option linter.unusedVariables false

theorem own : ownKnob Tryd.prog.godebug = none := by kernel_rfl
theorem laidOut : laidOutB Tryd.prog = true := by kernel_rfl

set_option maxRecDepth 100000 in
set_option maxHeartbeats 4000000 in
theorem walk (i0 : Bool) (a1 : Option Addr) (n1 cap1 : Nat) (bs1 : List Nat) (w : World) (w0 : True) (hn1 : n1 = bs1.length) (hc1 : n1 ≤ cap1) (hs1 : Small bs1) (w1 : BsAt w a1 bs1 (fun k => k < w.heap.size)) (hT : TabAt w) :
    Calls Tryd.prog 6 #[.bool i0, .slice a1 n1 cap1] w fun e w' => e = .returned (.bool true) ∧ Off (fun _ => False) w w' := by
  obtain ⟨id, p, i, r, s, hF, hid⟩ := fld_of i0
  have hp := hF.mp.lt
  have h1 := hF.mp.one
  have FG := Lib.hid (fun W hT => get7_any i0 hF hid W hT)
  have FAL : Hid (∀ W, TabAt W → Calls Tryd.prog 14 #[] W fun e w' => e = .returned (.bool true) ∧ Off (fun _ => False) W w') := Lib.hid (fun W hT => alive7_any W hT)
  by_cases hbig : n1 ≤ 500
  · have j1 : ¬ ((500 : Int) < (n1 : Int)) := by omega
    have j2 : decide ((500 : Int) < (n1 : Int)) = false := by simp; omega
    have hW := fun W h => pack_any hF a1 n1 cap1 bs1 _ W (w1.later h) hn1 hs1
    by_cases h31 : n1 ≤ 31
    · rw [show packV p bs1 = (fm p (numB bs1), 0) by unfold packV; rw [if_pos (by omega)]] at hW
      have hlt : numB bs1 < p := Nat.lt_of_lt_of_le (numB_lt hs1) (Nat.le_trans (Nat.pow_le_pow_right (by decide) (show bs1.length ≤ 31 by omega)) (fld_big hF))
      have hwf : (Lit.int .i64 (n1 : Int)).wf = true := WalkArith.wf_i64 ⟨by omega, by omega⟩
      have hU := fun W => unpack_any hF (fm p (numB bs1)) (fm_lt (by omega) _) (n1 : Int) hwf W
      rw [mm_one hF.mp, Nat.mod_eq_of_lt hlt, hn1, unp_pack hs1 (by omega), ← hn1] at hU
      have hN := fun W h => refnumber_any a1 n1 cap1 bs1 _ W (w1.later h) hn1 hs1 (by omega)
      have hX := fun W => form7_any p (numB bs1) hp h1 (by omega) W
      obtain ⟨el, hx⟩ : ∃ el, el = fm p (numB bs1) := ⟨_, rfl⟩
      obtain ⟨v, hv2⟩ : ∃ v, v = numB bs1 := ⟨_, rfl⟩
      rw [← hx] at hW hX hU
      rw [← hv2] at hN hX
      have FW : Hid (∀ W, Off (fun k => w.heap.size ≤ k) w W → Calls Tryd.prog 20 #[FV id p i r s, .slice a1 n1 cap1] W fun e w' => e = .returned (.tuple #[V el, .int .i64 0]) ∧ Off (fun _ => False) W w') := Lib.hid (fun W h => hW W h)
      have FN : Hid (∀ W, Off (fun k => w.heap.size ≤ k) w W → Calls Tryd.prog 22 #[.slice a1 n1 cap1] W fun e w' => e = .returned (V v) ∧ Off (fun _ => False) W w') := Lib.hid (fun W h => hN W h)
      have FX := Lib.hid hX
      have FU : Hid (∀ W, Calls Tryd.prog 21 #[FV id p i r s, V el, .int .i64 (n1 : Int)] W fun e w' => ∃ sv, e = .returned (.tuple #[sv, .int .i64 0]) ∧ SvAt w' sv bs1 ∧ Off (fun _ => False) W w') := Lib.hid hU
      have FB := Lib.hid (fun W (h : Off (fun k => w.heap.size ≤ k) w W) => show SvAt W (.slice a1 n1 cap1) bs1 from ⟨a1, n1, cap1, rfl, hn1, hc1, (w1.later h).mono (fun _ _ _ => trivial)⟩)
      have k1 : ¬ ((31 : Int) < (n1 : Int)) := by omega
      have k2 : decide ((31 : Int) < (n1 : Int)) = false := by simp; omega
      clear hW hN hX hU hx hv2 hF hid hp h1 hs1 hc1 w1 hn1 h31 hlt hbig hwf
      have e1 := equalIn_elem_same
      have e2 := equalIn_same
      go_enter Tryd.func6, Tryd.ntmps6
      go_wp2_with fail
      refine (FG.out _ hT).mono ?_
      rintro e u0 ⟨rfl, hO⟩
      have HOw := Lib.hid (Off.refl (fun _ => False) w)
      have HTw := Lib.hid hT
      clear hT
      obtain ⟨W1, eW1⟩ : ∃ W1, W1 = (((u0).alloc (.cells #[.int .i64 id, .int .u64 (wd p 0 : Int), .int .u64 (wd p 1 : Int), .int .u64 (wd p 2 : Int), .int .u64 (wd p 3 : Int), .int .u64 (i : Int), .int .u64 (wd r 0 : Int), .int .u64 (wd r 1 : Int), .int .u64 (wd r 2 : Int), .int .u64 (wd r 3 : Int), .int .u64 (wd s 0 : Int), .int .u64 (wd s 1 : Int), .int .u64 (wd s 2 : Int), .int .u64 (wd s 3 : Int)] 26)).alloc (.cells #[.int .u64 (wd p 0 : Int), .int .u64 (wd p 1 : Int), .int .u64 (wd p 2 : Int), .int .u64 (wd p 3 : Int)] 23)) := ⟨_, rfl⟩
      have oW1 : Off (fun _ => False) u0 W1 := by rw [eW1]; exact ((Off.refl _ u0).alloc _).alloc _
      have Fc : W1.heap[u0.heap.size]? = some (.cells #[.int .i64 id, .int .u64 (wd p 0 : Int), .int .u64 (wd p 1 : Int), .int .u64 (wd p 2 : Int), .int .u64 (wd p 3 : Int), .int .u64 (i : Int), .int .u64 (wd r 0 : Int), .int .u64 (wd r 1 : Int), .int .u64 (wd r 2 : Int), .int .u64 (wd r 3 : Int), .int .u64 (wd s 0 : Int), .int .u64 (wd s 1 : Int), .int .u64 (wd s 2 : Int), .int .u64 (wd s 3 : Int)] 26) := by rw [eW1]; exact heap_old' (heap_new' rfl _) _
      have Pc : W1.heap[u0.heap.size + 1]? = some (.cells #[.int .u64 (wd p 0 : Int), .int .u64 (wd p 1 : Int), .int .u64 (wd p 2 : Int), .int .u64 (wd p 3 : Int)] 23) := by rw [eW1]; exact heap_new' (by simp) _
      have hOx := hO.trans oW1 (fun _ _ c => c)
      have HOW1 := Lib.hid (HOw.out.trans hOx (fun _ _ c => c))
      have HTW1 := Lib.hid (HTw.out.off hOx)
      have HFcW1 := Lib.hid Fc
      have HPcW1 := Lib.hid Pc
      obtain ⟨f0, f1, f2, f3, f4, f5, f6, f7, f8, f9, f10, f11, f12, f13⟩ := fv_cells Fc
      have lf := heap_lt Fc
      have HWW1 := Lib.hid eW1
      clear hO oW1 hOx eW1 HOw HTw  Fc Pc
      go_upto_region 4 with fail
      rw [← HWW1.out]
      go_wp2_with fail
      refine (FW.out _ ((HOW1.out).mono (S' := fun k => w.heap.size ≤ k) (fun _ _ c => c.elim))).mono ?_
      rintro e u1 ⟨rfl, hO⟩
      clear f0 f1 f2 f3 f4 f5 f6 f7 f8 f9 f10 f11 f12 f13 lf
      obtain ⟨W2, eW2⟩ : ∃ W2, W2 = ((u1).alloc (.cells #[.int .u64 (wd el 0 : Int), .int .u64 (wd el 1 : Int), .int .u64 (wd el 2 : Int), .int .u64 (wd el 3 : Int)] 24)) := ⟨_, rfl⟩
      have oW2 : Off (fun _ => False) u1 W2 := by rw [eW2]; exact (Off.refl _ u1).alloc _
      have Xc : W2.heap[u1.heap.size]? = some (.cells #[.int .u64 (wd el 0 : Int), .int .u64 (wd el 1 : Int), .int .u64 (wd el 2 : Int), .int .u64 (wd el 3 : Int)] 24) := by rw [eW2]; exact heap_new' rfl _
      have hOx := hO.trans oW2 (fun _ _ c => c)
      have hHFcW1k := hOx.heap HFcW1.out (fun c => c)
      have hHPcW1k := hOx.heap HPcW1.out (fun c => c)
      have HOW2 := Lib.hid (HOW1.out.trans hOx (fun _ _ c => c))
      have HTW2 := Lib.hid (HTW1.out.off hOx)
      have HFcW1W2 := Lib.hid hHFcW1k
      have HPcW1W2 := Lib.hid hHPcW1k
      have HXcW2 := Lib.hid Xc
      obtain ⟨f0, f1, f2, f3, f4, f5, f6, f7, f8, f9, f10, f11, f12, f13⟩ := fv_cells hHFcW1k
      obtain ⟨p0, p1, p2, p3⟩ := cells4 Xc
      have lf := heap_lt hHFcW1k
      have HWW2 := Lib.hid eW2
      clear hO oW2 hOx eW2 HOW1 HTW1 hHFcW1k HFcW1 hHPcW1k HPcW1 Xc
      go_upto_region 7 with fail
      rw [← HWW2.out]
      go_wp2_with fail
      refine (FU.out _).mono ?_
      rintro e u2 ⟨sv, rfl, hsv, hO⟩
      clear f0 f1 f2 f3 f4 f5 f6 f7 f8 f9 f10 f11 f12 f13 p0 p1 p2 p3 lf
      obtain ⟨a2, n2, c2, rfl, hn2, hc2, hb2⟩ := hsv
      have HS2 := Lib.hid (show SvAt u2 (.slice a2 n2 c2) bs1 from ⟨_, _, _, rfl, hn2, hc2, hb2⟩)
      clear hn2 hc2 hb2
      obtain ⟨W3, eW3⟩ : ∃ W3, W3 = u2 := ⟨_, rfl⟩
      have oW3 : Off (fun _ => False) u2 W3 := by rw [eW3]; exact Off.refl _ u2
      have hOx := hO.trans oW3 (fun _ _ c => c)
      have hHFcW1W2k := hOx.heap HFcW1W2.out (fun c => c)
      have hHPcW1W2k := hOx.heap HPcW1W2.out (fun c => c)
      have hHXcW2k := hOx.heap HXcW2.out (fun c => c)
      have HOW3 := Lib.hid (HOW2.out.trans hOx (fun _ _ c => c))
      have HTW3 := Lib.hid (HTW2.out.off hOx)
      have HFcW1W2W3 := Lib.hid hHFcW1W2k
      have HPcW1W2W3 := Lib.hid hHPcW1W2k
      have HXcW2W3 := Lib.hid hHXcW2k
      have HWW3 := Lib.hid eW3
      clear hO oW3 hOx eW3 HOW2 HTW2 hHFcW1W2k HFcW1W2 hHPcW1W2k HPcW1W2 hHXcW2k HXcW2 
      have HK3 : Hid (∀ W, Off (fun _ => False) W3 W → (W.cell? ⟨u0.heap.size, 0, none⟩ = some (.int .i64 id) ∧ W.cell? ⟨u0.heap.size, 1, none⟩ = some (.int .u64 (wd p 0 : Int)) ∧ W.cell? ⟨u0.heap.size, 2, none⟩ = some (.int .u64 (wd p 1 : Int)) ∧ W.cell? ⟨u0.heap.size, 3, none⟩ = some (.int .u64 (wd p 2 : Int)) ∧ W.cell? ⟨u0.heap.size, 4, none⟩ = some (.int .u64 (wd p 3 : Int)) ∧ W.cell? ⟨u0.heap.size, 5, none⟩ = some (.int .u64 (i : Int)) ∧ W.cell? ⟨u0.heap.size, 6, none⟩ = some (.int .u64 (wd r 0 : Int)) ∧ W.cell? ⟨u0.heap.size, 7, none⟩ = some (.int .u64 (wd r 1 : Int)) ∧ W.cell? ⟨u0.heap.size, 8, none⟩ = some (.int .u64 (wd r 2 : Int)) ∧ W.cell? ⟨u0.heap.size, 9, none⟩ = some (.int .u64 (wd r 3 : Int)) ∧ W.cell? ⟨u0.heap.size, 10, none⟩ = some (.int .u64 (wd s 0 : Int)) ∧ W.cell? ⟨u0.heap.size, 11, none⟩ = some (.int .u64 (wd s 1 : Int)) ∧ W.cell? ⟨u0.heap.size, 12, none⟩ = some (.int .u64 (wd s 2 : Int)) ∧ W.cell? ⟨u0.heap.size, 13, none⟩ = some (.int .u64 (wd s 3 : Int))) ∧ (W.cell? ⟨(u0.heap.size + 1), 0, none⟩ = some (.int .u64 (wd p 0 : Int)) ∧ W.cell? ⟨(u0.heap.size + 1), 1, none⟩ = some (.int .u64 (wd p 1 : Int)) ∧ W.cell? ⟨(u0.heap.size + 1), 2, none⟩ = some (.int .u64 (wd p 2 : Int)) ∧ W.cell? ⟨(u0.heap.size + 1), 3, none⟩ = some (.int .u64 (wd p 3 : Int))) ∧ (W.cell? ⟨u1.heap.size, 0, none⟩ = some (.int .u64 (wd el 0 : Int)) ∧ W.cell? ⟨u1.heap.size, 1, none⟩ = some (.int .u64 (wd el 1 : Int)) ∧ W.cell? ⟨u1.heap.size, 2, none⟩ = some (.int .u64 (wd el 2 : Int)) ∧ W.cell? ⟨u1.heap.size, 3, none⟩ = some (.int .u64 (wd el 3 : Int))) ∧ Off (fun _ => False) W3 W) := Lib.hid (fun W h => ⟨fv_cells (h.heap HFcW1W2W3.out (fun c => c)), cells4 (h.heap HPcW1W2W3.out (fun c => c)), cells4 (h.heap HXcW2W3.out (fun c => c)), h⟩)
      have HTX := Lib.hid (fun W (h : Off (fun _ => False) W3 W) => HTW3.out.off h)
      have HO3 := Lib.hid HOW3.out
      have HBX := Lib.hid (fun W (h : Off (fun _ => False) W3 W) => FB.out W (((HO3.out.trans h (fun _ _ c => c))).mono (S' := fun k => w.heap.size ≤ k) (fun _ _ c => c.elim)))
      have HNX := Lib.hid (fun W (h : Off (fun _ => False) W3 W) => FN.out W (((HO3.out.trans h (fun _ _ c => c))).mono (S' := fun k => w.heap.size ≤ k) (fun _ _ c => c.elim)))
      have HSX := Lib.hid (fun W (h : Off (fun _ => False) W3 W) => HS2.out.off (by rw [← HWW3.out]; exact h))
      clear HTW3 HOW3 FB FN HS2
      go_upto_region 8 with fail
      rw [← HWW3.out]
      obtain ⟨x47, hx⟩ : ∃ x : Value, x = .bool true := ⟨_, rfl⟩
      have X47 := Lib.hid hx
      clear hx
      obtain ⟨x48, hx⟩ : ∃ x : Value, x = .bool true := ⟨_, rfl⟩
      have X48 := Lib.hid hx
      clear hx
      obtain ⟨x49, hx⟩ : ∃ x : Value, x = .int .i64 0 := ⟨_, rfl⟩
      have X49 := Lib.hid hx
      clear hx
      obtain ⟨x50, hx⟩ : ∃ x : Value, x = .bool true := ⟨_, rfl⟩
      have X50 := Lib.hid hx
      clear hx
      obtain ⟨x51, hx⟩ : ∃ x : Value, x = .bool true := ⟨_, rfl⟩
      have X51 := Lib.hid hx
      clear hx
      obtain ⟨x52, hx⟩ : ∃ x : Value, x = .bool true := ⟨_, rfl⟩
      have X52 := Lib.hid hx
      clear hx
      obtain ⟨x53, hx⟩ : ∃ x : Value, x = V el := ⟨_, rfl⟩
      have X53 := Lib.hid hx
      clear hx
      obtain ⟨x54, hx⟩ : ∃ x : Value, x = V p := ⟨_, rfl⟩
      have X54 := Lib.hid hx
      clear hx
      obtain ⟨x55, hx⟩ : ∃ x : Value, x = .slice a1 n1 cap1 := ⟨_, rfl⟩
      have X55 := Lib.hid hx
      clear hx
      obtain ⟨x56, hx⟩ : ∃ x : Value, x = V v := ⟨_, rfl⟩
      have X56 := Lib.hid hx
      clear hx
      obtain ⟨x57, hx⟩ : ∃ x : Value, x = V el := ⟨_, rfl⟩
      have X57 := Lib.hid hx
      clear hx
      obtain ⟨x58, hx⟩ : ∃ x : Value, x = .bool true := ⟨_, rfl⟩
      have X58 := Lib.hid hx
      clear hx
      obtain ⟨x59, hx⟩ : ∃ x : Value, x = .bool true := ⟨_, rfl⟩
      have X59 := Lib.hid hx
      clear hx
      obtain ⟨x60, hx⟩ : ∃ x : Value, x = .bool true := ⟨_, rfl⟩
      have X60 := Lib.hid hx
      clear hx
      obtain ⟨x61, hx⟩ : ∃ x : Value, x = .int .i64 0 := ⟨_, rfl⟩
      have X61 := Lib.hid hx
      clear hx
      obtain ⟨x62, hx⟩ : ∃ x : Value, x = .bool true := ⟨_, rfl⟩
      have X62 := Lib.hid hx
      clear hx
      obtain ⟨x63, hx⟩ : ∃ x : Value, x = .bool true := ⟨_, rfl⟩
      have X63 := Lib.hid hx
      clear hx
      obtain ⟨x64, hx⟩ : ∃ x : Value, x = .bool true := ⟨_, rfl⟩
      have X64 := Lib.hid hx
      clear hx
      obtain ⟨x65, hx⟩ : ∃ x : Value, x = .slice a1 n1 cap1 := ⟨_, rfl⟩
      have X65 := Lib.hid hx
      clear hx
      obtain ⟨x66, hx⟩ : ∃ x : Value, x = .slice a2 n2 c2 := ⟨_, rfl⟩
      have X66 := Lib.hid hx
      clear hx
      obtain ⟨x67, hx⟩ : ∃ x : Value, x = .bool true := ⟨_, rfl⟩
      have X67 := Lib.hid hx
      clear hx
      obtain ⟨x68, hx⟩ : ∃ x : Value, x = .bool true := ⟨_, rfl⟩
      have X68 := Lib.hid hx
      clear hx
      obtain ⟨x4, hx⟩ : ∃ x : Value, x = .bool true := ⟨_, rfl⟩
      have X4 := Lib.hid hx
      clear hx
      refine wp_region_inv (fun a0 l a' w' => a' = (Act.put (fill a0 47 [sel (l 0) x47 undef, sel (l 1) x48 undef, sel (l 2) x49 undef, sel (l 3) x50 undef, sel (l 4) x51 undef, sel (l 5) x52 undef, sel (l 6) x53 undef, sel (l 7) x54 undef, sel (l 8) x55 undef, sel (l 9) x56 undef, sel (l 10) x57 undef, sel (l 11) x58 undef, sel (l 12) x59 undef, sel (l 13) x60 undef, sel (l 14) x61 undef, sel (l 15) x62 undef, sel (l 16) x63 undef, sel (l 17) x64 undef, sel (l 18) x65 undef, sel (l 19) x66 undef, sel (l 20) x67 undef, sel (l 21) x68 undef]) (some 4) (sel (l 22) x4 (.bool false))) ∧ Off (fun _ => False) W3 w') (by kernel_rfl) (by kernel_rfl) ?_ ⟨?_, ?_, ?_, ?_, ?_, ?_, ?_, ?_, ?_, ?_, ?_, ?_, ?_, ?_, ?_, ?_, ?_, ?_, ?_, ?_, ?_, ?_, ?_, trivial⟩ ?_
      · refine ⟨?_, (Off.refl _ W3).drew⟩
        simp only [fill_eq, List.take_succ_cons, List.take_zero, List.cons_append, List.nil_append, Act.put, List.setIfInBounds_toArray, List.set_cons_zero, List.set_cons_succ, sel_start]
      · as_aux_lemma =>
          rintro l a wr ⟨ha, hO⟩ hl hd K' hK
          have hx := X47.out; subst hx
          simp only [fill_eq, List.take_succ_cons, List.take_zero, List.cons_append, List.nil_append, Act.put, List.setIfInBounds_toArray, List.set_cons_zero, List.set_cons_succ] at ha
          subst ha
          rw [if_pos (by rfl)]
          go_simp
          refine (held_inv (FAL.out wr (HTX.out wr hO)) hO).mono ?_
          rintro e w1 ⟨rfl, hO1, hOW⟩
          go_wp2_with fail
          refine hK.out _ _ ⟨?_, hO1⟩
          simp only [fill_eq, List.take_succ_cons, List.take_zero, List.cons_append, List.nil_append, Act.put, List.setIfInBounds_toArray, List.set_cons_zero, List.set_cons_succ, sel_new]
          rfl
      · as_aux_lemma =>
          rintro l a wr ⟨ha, hO⟩ hl hd K' hK
          have d0 := hd 0 (by decide)
          have hx := X47.out; subst hx
          have hx := X48.out; subst hx
          simp only [fill_eq, List.take_succ_cons, List.take_zero, List.cons_append, List.nil_append, Act.put, List.setIfInBounds_toArray, List.set_cons_zero, List.set_cons_succ, sel_of d0] at ha
          subst ha
          rw [if_pos (by rfl)]
          go_simp
          refine hK.out _ _ ⟨?_, hO⟩
          simp only [fill_eq, List.take_succ_cons, List.take_zero, List.cons_append, List.nil_append, Act.put, List.setIfInBounds_toArray, List.set_cons_zero, List.set_cons_succ, sel_new, sel_dep d0]
          rfl
      · as_aux_lemma =>
          rintro l a wr ⟨ha, hO⟩ hl hd K' hK
          have d1 := hd 1 (by decide)
          have hx := X48.out; subst hx
          have hx := X49.out; subst hx
          simp only [fill_eq, List.take_succ_cons, List.take_zero, List.cons_append, List.nil_append, Act.put, List.setIfInBounds_toArray, List.set_cons_zero, List.set_cons_succ, sel_of d1] at ha
          subst ha
          rw [if_pos (by rfl)]
          go_simp
          refine hK.out _ _ ⟨?_, hO⟩
          simp only [fill_eq, List.take_succ_cons, List.take_zero, List.cons_append, List.nil_append, Act.put, List.setIfInBounds_toArray, List.set_cons_zero, List.set_cons_succ, sel_new, sel_dep d1]
          rfl
      · as_aux_lemma =>
          rintro l a wr ⟨ha, hO⟩ hl hd K' hK
          have d1 := hd 1 (by decide)
          have d2 := hd 2 (by decide)
          have hx := X48.out; subst hx
          have hx := X49.out; subst hx
          have hx := X50.out; subst hx
          simp only [fill_eq, List.take_succ_cons, List.take_zero, List.cons_append, List.nil_append, Act.put, List.setIfInBounds_toArray, List.set_cons_zero, List.set_cons_succ, sel_of d1, sel_of d2] at ha
          subst ha
          rw [if_pos (by rfl)]
          go_simp
          refine hK.out _ _ ⟨?_, hO⟩
          simp only [fill_eq, List.take_succ_cons, List.take_zero, List.cons_append, List.nil_append, Act.put, List.setIfInBounds_toArray, List.set_cons_zero, List.set_cons_succ, sel_new, sel_dep d1, sel_dep d2]
          rfl
      · as_aux_lemma =>
          rintro l a wr ⟨ha, hO⟩ hl hd K' hK
          have d1 := hd 1 (by decide)
          have d3 := hd 3 (by decide)
          have hx := X48.out; subst hx
          have hx := X50.out; subst hx
          have hx := X51.out; subst hx
          simp only [fill_eq, List.take_succ_cons, List.take_zero, List.cons_append, List.nil_append, Act.put, List.setIfInBounds_toArray, List.set_cons_zero, List.set_cons_succ, sel_of d1, sel_of d3] at ha
          subst ha
          rw [if_pos (by rfl)]
          go_simp
          refine hK.out _ _ ⟨?_, hO⟩
          simp only [fill_eq, List.take_succ_cons, List.take_zero, List.cons_append, List.nil_append, Act.put, List.setIfInBounds_toArray, List.set_cons_zero, List.set_cons_succ, sel_new, sel_dep d1, sel_dep d3]
          rfl
      · as_aux_lemma =>
          rintro l a wr ⟨ha, hO⟩ hl hd K' hK
          have d4 := hd 4 (by decide)
          have hx := X51.out; subst hx
          have hx := X52.out; subst hx
          simp only [fill_eq, List.take_succ_cons, List.take_zero, List.cons_append, List.nil_append, Act.put, List.setIfInBounds_toArray, List.set_cons_zero, List.set_cons_succ, sel_of d4] at ha
          subst ha
          rw [if_pos (by rfl)]
          go_simp
          refine hK.out _ _ ⟨?_, hO⟩
          simp only [fill_eq, List.take_succ_cons, List.take_zero, List.cons_append, List.nil_append, Act.put, List.setIfInBounds_toArray, List.set_cons_zero, List.set_cons_succ, sel_new, sel_dep d4]
          rfl
      · as_aux_lemma =>
          rintro l a wr ⟨ha, hO⟩ hl hd K' hK
          have d5 := hd 5 (by decide)
          have hx := X52.out; subst hx
          have hx := X53.out; subst hx
          simp only [fill_eq, List.take_succ_cons, List.take_zero, List.cons_append, List.nil_append, Act.put, List.setIfInBounds_toArray, List.set_cons_zero, List.set_cons_succ, sel_of d5] at ha
          subst ha
          have hc := HK3.out wr hO
          have p0 := hc.2.2.1.1
          have p1 := hc.2.2.1.2.1
          have p2 := hc.2.2.1.2.2.1
          have p3 := hc.2.2.1.2.2.2
          clear hc
          rw [if_pos (by rfl)]
          go_simp
          refine hK.out _ _ ⟨?_, hO⟩
          simp only [fill_eq, List.take_succ_cons, List.take_zero, List.cons_append, List.nil_append, Act.put, List.setIfInBounds_toArray, List.set_cons_zero, List.set_cons_succ, sel_new, sel_dep d5]
          rfl
      · as_aux_lemma =>
          rintro l a wr ⟨ha, hO⟩ hl hd K' hK
          have d5 := hd 5 (by decide)
          have hx := X52.out; subst hx
          have hx := X54.out; subst hx
          simp only [fill_eq, List.take_succ_cons, List.take_zero, List.cons_append, List.nil_append, Act.put, List.setIfInBounds_toArray, List.set_cons_zero, List.set_cons_succ, sel_of d5] at ha
          subst ha
          have hc := HK3.out wr hO
          have p0 := hc.2.1.1
          have p1 := hc.2.1.2.1
          have p2 := hc.2.1.2.2.1
          have p3 := hc.2.1.2.2.2
          clear hc
          rw [if_pos (by rfl)]
          go_simp
          refine hK.out _ _ ⟨?_, hO⟩
          simp only [fill_eq, List.take_succ_cons, List.take_zero, List.cons_append, List.nil_append, Act.put, List.setIfInBounds_toArray, List.set_cons_zero, List.set_cons_succ, sel_new, sel_dep d5]
          rfl
      · as_aux_lemma =>
          rintro l a wr ⟨ha, hO⟩ hl hd K' hK
          have d5 := hd 5 (by decide)
          have hx := X52.out; subst hx
          have hx := X55.out; subst hx
          simp only [fill_eq, List.take_succ_cons, List.take_zero, List.cons_append, List.nil_append, Act.put, List.setIfInBounds_toArray, List.set_cons_zero, List.set_cons_succ, sel_of d5] at ha
          subst ha
          rw [if_pos (by rfl)]
          go_simp
          refine hK.out _ _ ⟨?_, hO⟩
          simp only [fill_eq, List.take_succ_cons, List.take_zero, List.cons_append, List.nil_append, Act.put, List.setIfInBounds_toArray, List.set_cons_zero, List.set_cons_succ, sel_new, sel_dep d5]
          rfl
      · as_aux_lemma =>
          rintro l a wr ⟨ha, hO⟩ hl hd K' hK
          have d5 := hd 5 (by decide)
          have d8 := hd 8 (by decide)
          have hx := X52.out; subst hx
          have hx := X55.out; subst hx
          have hx := X56.out; subst hx
          simp only [fill_eq, List.take_succ_cons, List.take_zero, List.cons_append, List.nil_append, Act.put, List.setIfInBounds_toArray, List.set_cons_zero, List.set_cons_succ, sel_of d5, sel_of d8] at ha
          subst ha
          rw [if_pos (by rfl)]
          go_simp
          refine (held_inv (HNX.out wr hO) hO).mono ?_
          rintro e w1 ⟨rfl, hO1, hOW⟩
          go_wp2_with fail
          refine hK.out _ _ ⟨?_, hO1⟩
          simp only [fill_eq, List.take_succ_cons, List.take_zero, List.cons_append, List.nil_append, Act.put, List.setIfInBounds_toArray, List.set_cons_zero, List.set_cons_succ, sel_new, sel_dep d5, sel_dep d8]
          rfl
      · as_aux_lemma =>
          rintro l a wr ⟨ha, hO⟩ hl hd K' hK
          have d5 := hd 5 (by decide)
          have d7 := hd 7 (by decide)
          have d9 := hd 9 (by decide)
          have hx := X52.out; subst hx
          have hx := X54.out; subst hx
          have hx := X56.out; subst hx
          have hx := X57.out; subst hx
          simp only [fill_eq, List.take_succ_cons, List.take_zero, List.cons_append, List.nil_append, Act.put, List.setIfInBounds_toArray, List.set_cons_zero, List.set_cons_succ, sel_of d5, sel_of d7, sel_of d9] at ha
          subst ha
          rw [if_pos (by rfl)]
          go_simp
          refine (held_inv (FX.out wr) hO).mono ?_
          rintro e w1 ⟨rfl, hO1, hOW⟩
          go_wp2_with fail
          refine hK.out _ _ ⟨?_, hO1⟩
          simp only [fill_eq, List.take_succ_cons, List.take_zero, List.cons_append, List.nil_append, Act.put, List.setIfInBounds_toArray, List.set_cons_zero, List.set_cons_succ, sel_new, sel_dep d5, sel_dep d7, sel_dep d9]
          rfl
      · as_aux_lemma =>
          rintro l a wr ⟨ha, hO⟩ hl hd K' hK
          have d5 := hd 5 (by decide)
          have d6 := hd 6 (by decide)
          have d10 := hd 10 (by decide)
          have hx := X52.out; subst hx
          have hx := X53.out; subst hx
          have hx := X57.out; subst hx
          have hx := X58.out; subst hx
          simp only [fill_eq, List.take_succ_cons, List.take_zero, List.cons_append, List.nil_append, Act.put, List.setIfInBounds_toArray, List.set_cons_zero, List.set_cons_succ, sel_of d5, sel_of d6, sel_of d10] at ha
          subst ha
          rw [if_pos (by rfl)]
          go_simp
          refine hK.out _ _ ⟨?_, hO⟩
          simp only [fill_eq, List.take_succ_cons, List.take_zero, List.cons_append, List.nil_append, Act.put, List.setIfInBounds_toArray, List.set_cons_zero, List.set_cons_succ, sel_new, sel_dep d5, sel_dep d6, sel_dep d10]
          rfl
      · as_aux_lemma =>
          rintro l a wr ⟨ha, hO⟩ hl hd K' hK
          have d5 := hd 5 (by decide)
          have d11 := hd 11 (by decide)
          have hx := X52.out; subst hx
          have hx := X58.out; subst hx
          have hx := X59.out; subst hx
          simp only [fill_eq, List.take_succ_cons, List.take_zero, List.cons_append, List.nil_append, Act.put, List.setIfInBounds_toArray, List.set_cons_zero, List.set_cons_succ, sel_of d5, sel_of d11] at ha
          subst ha
          rw [if_pos (by rfl)]
          go_simp
          refine hK.out _ _ ⟨?_, hO⟩
          simp only [fill_eq, List.take_succ_cons, List.take_zero, List.cons_append, List.nil_append, Act.put, List.setIfInBounds_toArray, List.set_cons_zero, List.set_cons_succ, sel_new, sel_dep d5, sel_dep d11]
          rfl
      · as_aux_lemma =>
          rintro l a wr ⟨ha, hO⟩ hl hd K' hK
          have d12 := hd 12 (by decide)
          have hx := X59.out; subst hx
          have hx := X60.out; subst hx
          simp only [fill_eq, List.take_succ_cons, List.take_zero, List.cons_append, List.nil_append, Act.put, List.setIfInBounds_toArray, List.set_cons_zero, List.set_cons_succ, sel_of d12] at ha
          subst ha
          rw [if_pos (by rfl)]
          go_simp
          refine hK.out _ _ ⟨?_, hO⟩
          simp only [fill_eq, List.take_succ_cons, List.take_zero, List.cons_append, List.nil_append, Act.put, List.setIfInBounds_toArray, List.set_cons_zero, List.set_cons_succ, sel_new, sel_dep d12]
          rfl
      · as_aux_lemma =>
          rintro l a wr ⟨ha, hO⟩ hl hd K' hK
          have d13 := hd 13 (by decide)
          have hx := X60.out; subst hx
          have hx := X61.out; subst hx
          simp only [fill_eq, List.take_succ_cons, List.take_zero, List.cons_append, List.nil_append, Act.put, List.setIfInBounds_toArray, List.set_cons_zero, List.set_cons_succ, sel_of d13] at ha
          subst ha
          rw [if_pos (by rfl)]
          go_simp
          refine hK.out _ _ ⟨?_, hO⟩
          simp only [fill_eq, List.take_succ_cons, List.take_zero, List.cons_append, List.nil_append, Act.put, List.setIfInBounds_toArray, List.set_cons_zero, List.set_cons_succ, sel_new, sel_dep d13]
          rfl
      · as_aux_lemma =>
          rintro l a wr ⟨ha, hO⟩ hl hd K' hK
          have d13 := hd 13 (by decide)
          have d14 := hd 14 (by decide)
          have hx := X60.out; subst hx
          have hx := X61.out; subst hx
          have hx := X62.out; subst hx
          simp only [fill_eq, List.take_succ_cons, List.take_zero, List.cons_append, List.nil_append, Act.put, List.setIfInBounds_toArray, List.set_cons_zero, List.set_cons_succ, sel_of d13, sel_of d14] at ha
          subst ha
          rw [if_pos (by rfl)]
          go_simp
          refine hK.out _ _ ⟨?_, hO⟩
          simp only [fill_eq, List.take_succ_cons, List.take_zero, List.cons_append, List.nil_append, Act.put, List.setIfInBounds_toArray, List.set_cons_zero, List.set_cons_succ, sel_new, sel_dep d13, sel_dep d14]
          rfl
      · as_aux_lemma =>
          rintro l a wr ⟨ha, hO⟩ hl hd K' hK
          have d13 := hd 13 (by decide)
          have d15 := hd 15 (by decide)
          have hx := X60.out; subst hx
          have hx := X62.out; subst hx
          have hx := X63.out; subst hx
          simp only [fill_eq, List.take_succ_cons, List.take_zero, List.cons_append, List.nil_append, Act.put, List.setIfInBounds_toArray, List.set_cons_zero, List.set_cons_succ, sel_of d13, sel_of d15] at ha
          subst ha
          rw [if_pos (by rfl)]
          go_simp
          refine hK.out _ _ ⟨?_, hO⟩
          simp only [fill_eq, List.take_succ_cons, List.take_zero, List.cons_append, List.nil_append, Act.put, List.setIfInBounds_toArray, List.set_cons_zero, List.set_cons_succ, sel_new, sel_dep d13, sel_dep d15]
          rfl
      · as_aux_lemma =>
          rintro l a wr ⟨ha, hO⟩ hl hd K' hK
          have d16 := hd 16 (by decide)
          have hx := X63.out; subst hx
          have hx := X64.out; subst hx
          simp only [fill_eq, List.take_succ_cons, List.take_zero, List.cons_append, List.nil_append, Act.put, List.setIfInBounds_toArray, List.set_cons_zero, List.set_cons_succ, sel_of d16] at ha
          subst ha
          rw [if_pos (by rfl)]
          go_simp
          refine hK.out _ _ ⟨?_, hO⟩
          simp only [fill_eq, List.take_succ_cons, List.take_zero, List.cons_append, List.nil_append, Act.put, List.setIfInBounds_toArray, List.set_cons_zero, List.set_cons_succ, sel_new, sel_dep d16]
          rfl
      · as_aux_lemma =>
          rintro l a wr ⟨ha, hO⟩ hl hd K' hK
          have d17 := hd 17 (by decide)
          have hx := X64.out; subst hx
          have hx := X65.out; subst hx
          simp only [fill_eq, List.take_succ_cons, List.take_zero, List.cons_append, List.nil_append, Act.put, List.setIfInBounds_toArray, List.set_cons_zero, List.set_cons_succ, sel_of d17] at ha
          subst ha
          rw [if_pos (by rfl)]
          go_simp
          refine hK.out _ _ ⟨?_, hO⟩
          simp only [fill_eq, List.take_succ_cons, List.take_zero, List.cons_append, List.nil_append, Act.put, List.setIfInBounds_toArray, List.set_cons_zero, List.set_cons_succ, sel_new, sel_dep d17]
          rfl
      · as_aux_lemma =>
          rintro l a wr ⟨ha, hO⟩ hl hd K' hK
          have d17 := hd 17 (by decide)
          have hx := X64.out; subst hx
          have hx := X66.out; subst hx
          simp only [fill_eq, List.take_succ_cons, List.take_zero, List.cons_append, List.nil_append, Act.put, List.setIfInBounds_toArray, List.set_cons_zero, List.set_cons_succ, sel_of d17] at ha
          subst ha
          rw [if_pos (by rfl)]
          go_simp
          refine hK.out _ _ ⟨?_, hO⟩
          simp only [fill_eq, List.take_succ_cons, List.take_zero, List.cons_append, List.nil_append, Act.put, List.setIfInBounds_toArray, List.set_cons_zero, List.set_cons_succ, sel_new, sel_dep d17]
          rfl
      · as_aux_lemma =>
          rintro l a wr ⟨ha, hO⟩ hl hd K' hK
          have d17 := hd 17 (by decide)
          have d18 := hd 18 (by decide)
          have d19 := hd 19 (by decide)
          have hx := X64.out; subst hx
          have hx := X65.out; subst hx
          have hx := X66.out; subst hx
          have hx := X67.out; subst hx
          simp only [fill_eq, List.take_succ_cons, List.take_zero, List.cons_append, List.nil_append, Act.put, List.setIfInBounds_toArray, List.set_cons_zero, List.set_cons_succ, sel_of d17, sel_of d18, sel_of d19] at ha
          subst ha
          rw [if_pos (by rfl)]
          go_simp
          refine (held_inv (bequal_sv (HBX.out wr hO) (HSX.out wr hO)) hO).mono ?_
          rintro e w1 ⟨rfl, hO1, hOW⟩
          go_wp2_with fail
          refine hK.out _ _ ⟨?_, hO1⟩
          simp only [fill_eq, List.take_succ_cons, List.take_zero, List.cons_append, List.nil_append, Act.put, List.setIfInBounds_toArray, List.set_cons_zero, List.set_cons_succ, sel_new, sel_dep d17, sel_dep d18, sel_dep d19]
          rfl
      · as_aux_lemma =>
          rintro l a wr ⟨ha, hO⟩ hl hd K' hK
          have d17 := hd 17 (by decide)
          have d20 := hd 20 (by decide)
          have hx := X64.out; subst hx
          have hx := X67.out; subst hx
          have hx := X68.out; subst hx
          simp only [fill_eq, List.take_succ_cons, List.take_zero, List.cons_append, List.nil_append, Act.put, List.setIfInBounds_toArray, List.set_cons_zero, List.set_cons_succ, sel_of d17, sel_of d20] at ha
          subst ha
          rw [if_pos (by rfl)]
          go_simp
          refine hK.out _ _ ⟨?_, hO⟩
          simp only [fill_eq, List.take_succ_cons, List.take_zero, List.cons_append, List.nil_append, Act.put, List.setIfInBounds_toArray, List.set_cons_zero, List.set_cons_succ, sel_new, sel_dep d17, sel_dep d20]
          rfl
      · as_aux_lemma =>
          rintro l a wr ⟨ha, hO⟩ hl hd K' hK
          have d21 := hd 21 (by decide)
          have hx := X68.out; subst hx
          have hx := X4.out; subst hx
          simp only [fill_eq, List.take_succ_cons, List.take_zero, List.cons_append, List.nil_append, Act.put, List.setIfInBounds_toArray, List.set_cons_zero, List.set_cons_succ, sel_of d21] at ha
          subst ha
          rw [if_pos (by rfl)]
          go_simp
          refine hK.out _ _ ⟨?_, hO⟩
          simp only [fill_eq, List.take_succ_cons, List.take_zero, List.cons_append, List.nil_append, Act.put, List.setIfInBounds_toArray, List.set_cons_zero, List.set_cons_succ, sel_new, sel_dep d21]
          rfl
      · rintro l a wc ⟨ha, hO⟩ hd
        simp only [fill_eq, List.take_succ_cons, List.take_zero, List.cons_append, List.nil_append, Act.put, List.setIfInBounds_toArray, List.set_cons_zero, List.set_cons_succ, sel_of (hd 0 (by decide)), sel_of (hd 1 (by decide)), sel_of (hd 2 (by decide)), sel_of (hd 3 (by decide)), sel_of (hd 4 (by decide)), sel_of (hd 5 (by decide)), sel_of (hd 6 (by decide)), sel_of (hd 7 (by decide)), sel_of (hd 8 (by decide)), sel_of (hd 9 (by decide)), sel_of (hd 10 (by decide)), sel_of (hd 11 (by decide)), sel_of (hd 12 (by decide)), sel_of (hd 13 (by decide)), sel_of (hd 14 (by decide)), sel_of (hd 15 (by decide)), sel_of (hd 16 (by decide)), sel_of (hd 17 (by decide)), sel_of (hd 18 (by decide)), sel_of (hd 19 (by decide)), sel_of (hd 20 (by decide)), sel_of (hd 21 (by decide)), sel_of (hd 22 (by decide))] at ha
        subst ha
        have hx := X4.out; subst hx
        have HOf := Lib.hid ((HO3.out).trans hO (fun _ _ c => c))
        clear hO hd
        go_wp2
        go_ret
        exact ⟨rfl, HOf.out⟩
    · rw [show packV p bs1 = (0, 8) by unfold packV; rw [if_neg (by omega)], show V (0, 8).1 = .agg #[.int .u64 0, .int .u64 0, .int .u64 0, .int .u64 0] from lit_small 0 (by decide)] at hW
      have FW : Hid (∀ W, Off (fun k => w.heap.size ≤ k) w W → Calls Tryd.prog 20 #[FV id p i r s, .slice a1 n1 cap1] W fun e w' => e = .returned (.tuple #[.agg #[.int .u64 0, .int .u64 0, .int .u64 0, .int .u64 0], .int .i64 8]) ∧ Off (fun _ => False) W w') := Lib.hid (fun W h => hW W h)
      have k1 : (31 : Int) < (n1 : Int) := by omega
      have k2 : decide ((31 : Int) < (n1 : Int)) = true := by simp; omega
      clear hW hF hid hp h1 hs1 hc1 w1 hn1 h31 hbig
      have e1 : ∀ W, (Op.equalIn 10000 24 (.agg #[.int .u64 0, .int .u64 0, .int .u64 0, .int .u64 0]) (.agg #[.int .u64 0, .int .u64 0, .int .u64 0, .int .u64 0])).run Tryd.prog W = .ok true W := fun W => by
        have h := equalIn_elem_same 0 W
        rw [lit_small 0 (by decide)] at h
        exact h
      go_enter Tryd.func6, Tryd.ntmps6
      go_wp2_with fail
      refine (FG.out _ hT).mono ?_
      rintro e u0 ⟨rfl, hO⟩
      have HOw := Lib.hid (Off.refl (fun _ => False) w)
      have HTw := Lib.hid hT
      clear hT
      obtain ⟨W1, eW1⟩ : ∃ W1, W1 = (((u0).alloc (.cells #[.int .i64 id, .int .u64 (wd p 0 : Int), .int .u64 (wd p 1 : Int), .int .u64 (wd p 2 : Int), .int .u64 (wd p 3 : Int), .int .u64 (i : Int), .int .u64 (wd r 0 : Int), .int .u64 (wd r 1 : Int), .int .u64 (wd r 2 : Int), .int .u64 (wd r 3 : Int), .int .u64 (wd s 0 : Int), .int .u64 (wd s 1 : Int), .int .u64 (wd s 2 : Int), .int .u64 (wd s 3 : Int)] 26)).alloc (.cells #[.int .u64 (wd p 0 : Int), .int .u64 (wd p 1 : Int), .int .u64 (wd p 2 : Int), .int .u64 (wd p 3 : Int)] 23)) := ⟨_, rfl⟩
      have oW1 : Off (fun _ => False) u0 W1 := by rw [eW1]; exact ((Off.refl _ u0).alloc _).alloc _
      have Fc : W1.heap[u0.heap.size]? = some (.cells #[.int .i64 id, .int .u64 (wd p 0 : Int), .int .u64 (wd p 1 : Int), .int .u64 (wd p 2 : Int), .int .u64 (wd p 3 : Int), .int .u64 (i : Int), .int .u64 (wd r 0 : Int), .int .u64 (wd r 1 : Int), .int .u64 (wd r 2 : Int), .int .u64 (wd r 3 : Int), .int .u64 (wd s 0 : Int), .int .u64 (wd s 1 : Int), .int .u64 (wd s 2 : Int), .int .u64 (wd s 3 : Int)] 26) := by rw [eW1]; exact heap_old' (heap_new' rfl _) _
      have Pc : W1.heap[u0.heap.size + 1]? = some (.cells #[.int .u64 (wd p 0 : Int), .int .u64 (wd p 1 : Int), .int .u64 (wd p 2 : Int), .int .u64 (wd p 3 : Int)] 23) := by rw [eW1]; exact heap_new' (by simp) _
      have hOx := hO.trans oW1 (fun _ _ c => c)
      have HOW1 := Lib.hid (HOw.out.trans hOx (fun _ _ c => c))
      have HTW1 := Lib.hid (HTw.out.off hOx)
      have HFcW1 := Lib.hid Fc
      have HPcW1 := Lib.hid Pc
      obtain ⟨f0, f1, f2, f3, f4, f5, f6, f7, f8, f9, f10, f11, f12, f13⟩ := fv_cells Fc
      have lf := heap_lt Fc
      have HWW1 := Lib.hid eW1
      clear hO oW1 hOx eW1 HOw HTw  Fc Pc
      go_upto_region 4 with fail
      rw [← HWW1.out]
      go_wp2_with fail
      refine (FW.out _ ((HOW1.out).mono (S' := fun k => w.heap.size ≤ k) (fun _ _ c => c.elim))).mono ?_
      rintro e u1 ⟨rfl, hO⟩
      clear f0 f1 f2 f3 f4 f5 f6 f7 f8 f9 f10 f11 f12 f13 lf
      obtain ⟨W2, eW2⟩ : ∃ W2, W2 = ((u1).alloc (.cells #[.int .u64 0, .int .u64 0, .int .u64 0, .int .u64 0] 24)) := ⟨_, rfl⟩
      have oW2 : Off (fun _ => False) u1 W2 := by rw [eW2]; exact (Off.refl _ u1).alloc _
      have Xc : W2.heap[u1.heap.size]? = some (.cells #[.int .u64 0, .int .u64 0, .int .u64 0, .int .u64 0] 24) := by rw [eW2]; exact heap_new' rfl _
      have hOx := hO.trans oW2 (fun _ _ c => c)
      have hHFcW1k := hOx.heap HFcW1.out (fun c => c)
      have hHPcW1k := hOx.heap HPcW1.out (fun c => c)
      have HOW2 := Lib.hid (HOW1.out.trans hOx (fun _ _ c => c))
      have HTW2 := Lib.hid (HTW1.out.off hOx)
      have HFcW1W2 := Lib.hid hHFcW1k
      have HPcW1W2 := Lib.hid hHPcW1k
      have HXcW2 := Lib.hid Xc
      have HWW2 := Lib.hid eW2
      clear hO oW2 hOx eW2 HOW1 HTW1 hHFcW1k HFcW1 hHPcW1k HPcW1 Xc
      go_upto_region 6 with fail
      rw [← HWW2.out]
      go_wp2_with fail
      refine (FAL.out _ HTW2.out).mono ?_
      rintro e u3 ⟨rfl, hO⟩
      obtain ⟨x0, x1, x2, x3⟩ := cells4 (hO.heap HXcW2.out (fun c => c))
      have HOf := Lib.hid (HOW2.out.trans hO (fun _ _ c => c))
      clear hO
      go_wp2
      go_ret
      exact ⟨rfl, HOf.out⟩
  · have j1 : (500 : Int) < (n1 : Int) := by omega
    have j2 : decide ((500 : Int) < (n1 : Int)) = true := by simp; omega
    clear FG hF hid hp h1 hs1 hc1 w1
    go_enter Tryd.func6, Tryd.ntmps6
    go_wp2_with fail
    refine (FAL.out _ hT).mono ?_
    rintro e u ⟨rfl, hO⟩
    have HOf := Lib.hid hO
    clear hO
    go_wp2
    go_ret
    exact ⟨rfl, HOf.out⟩

theorem door_met (os : Os) (args : Array Value) : laidMetH Tryd.prog [("sharecore/field.fields", Rows.laid_sharecore_field_fields)] ((World.doorLaid Tryd.prog 400 os).forCall (fun _ _ => 0) ⟨#[], args, []⟩).memory :=
  laidMetH_of_parts3 (fuel := 8) (laidMet_of_run' 8 (by kernel_rfl) (by kernel_rfl)) (by kernel_rfl) (by kernel_rfl)

set_option maxRecDepth 100000 in
theorem lifted (os : Os) (started : os.Started) (H : Type) (enc : TypeId × Value → H) :
    ReturnsInHanded {} Tryd.checked os 6 .any (fun w args => (Rows.bytecodePacksSpec.pre enc Tryd.prog Tryd.f6 [] false w args ∧ laidMetH Tryd.prog [("sharecore/field.fields", Rows.laid_sharecore_field_fields)] w) ∧ sizedMet enc Tryd.prog Tryd.f6 (OpenSpec.ofChange Rows.bytecodePacksSpec) false w args)
      (Rows.bytecodePacksSpec.post enc Tryd.prog Tryd.f6 false true false false) := by
  refine returnsInHanded_of_change_and (C := Tryd.checked) (X := fun w _ => laidMetH Tryd.prog [("sharecore/field.fields", Rows.laid_sharecore_field_fields)] w) (fun _ _ _ hh h => h.of_heap hh) own started (by kernel_rfl) Tryd.func6
    (ChangeSpec.witness_shaped (enc := enc) (C := Tryd.checked) (os := os) (X := fun w _ => laidMetH Tryd.prog [("sharecore/field.fields", Rows.laid_sharecore_field_fields)] w) false (World.doorLaid Tryd.prog 400 os) #[.bool false, .slice none 0 0] 8 rfl (World.shaped_of_RefB (by kernel_rfl) (by kernel_rfl)) (by kernel_rfl) (by kernel_rfl) (by kernel_rfl) (door_met os _)) ?_
  intro W base args ds gs before hval0 hW _ _ hL _
  have hval : ∀ (j : Nat) t v, Tryd.f6.params[j]? = some t → args[j]? = some v → Value.okWide Tryd.prog W .any base t v := hval0
  have hW' := hW
  obtain ⟨p, q, hA0, hV, rfl, hfz, hnd⟩ := hW
  have hA : DataW.TrodAll enc Tryd.prog W 0 (fun _ => true) true Tryd.f6.params.toList args.toList ds p := hA0
  rw [Tryd.params6] at hA hval
  obtain ⟨v0, vs0, d0, ds0, p0, q0, hargs, rfl, rfl, h0, r0⟩ := trodAll_cons hA
  obtain ⟨v1, vs1, d1, ds1, p1, q1, rfl, rfl, rfl, h1, r1⟩ := trodAll_cons r0
  obtain ⟨rfl, rfl, rfl⟩ := trodAll_nil r1
  obtain rfl : args = #[v0, v1] := by cases args; simp_all
  obtain ⟨rfl, rfl⟩ := trodVars_none hV
  obtain ⟨i0, rfl, rfl, rfl⟩ := open_bool Tryd.underlying4 (hval 0 4 v0 rfl rfl) h0
  have w0 := trivial
  obtain ⟨a1, n1, cap1, rfl⟩ := okWide_slice Tryd.underlying30 (hval 1 30 v1 rfl rfl)
  have k1 := h1
  have lt1 : ∀ x ∈ p1, x.block < W.heap.size := by obtain ⟨m, hm⟩ := k1; exact DataW.trod_lt m _ _ _ hm
  obtain ⟨bs1, hn1, hc1, hs1, w1⟩ : ∃ bs, n1 = bs.length ∧ n1 ≤ cap1 ∧ Small bs ∧ BsAt W a1 bs (fun k => k < W.heap.size) := by
    obtain ⟨fuel, hf⟩ := h1
    exact bytes_of_trod hf
  have hT := tab_of_laid hL
  clear hA0 hval0
  refine (walk i0 a1 n1 cap1 bs1 W w0 hn1 hc1 hs1 w1 hT).mono fun e W' ⟨he, hoff⟩ => ?_
  have bel : Below W.heap.size W W' := hoff.below (Nat.le_refl _) (fun _ _ c => c)
  subst he
  exact ⟨_, rfl, _, _, _, [], _, [], hW', trodAll_mk1 (shut_bool Tryd.underlying4 _), (trodAll_cons_mk (shut_bool Tryd.underlying4 _) (trodAll_cons_mk (Below.trod laidOut (by kernel_rfl) (of_decide_eq_true (by kernel_rfl)) k1 bel lt1) trodAll_mk0)), rfl, bel.frame _, fun h => by cases h⟩

theorem over : Rows.bytecodePacksRow.holds Tryd.pinned (OpenSpec.ofChange Rows.bytecodePacksSpec) :=
  OpenClaim.holds_of_wide 6 Tryd.f6 rfl rfl rfl rfl rfl rfl rfl ⟨rfl, rfl, rfl, rfl, rfl⟩ rfl rfl rfl rfl rfl (by kernel_rfl) Tryd.func6 (by kernel_rfl)
    (of_decide_eq_true (by kernel_rfl)) (by unfold Func.isWrapper; first | (rw [if_pos (by decide +kernel)]; kernel_rfl) | (rw [if_neg (by decide +kernel)]; exact ⟨rfl, rfl⟩))
    (fun os started H enc _ => lifted os started H enc)

theorem proved : Rows.BytecodePacksCardSaid :=
  Claim7.holds_tied_plain_at .later [] [.data] true (true, "0501a0b72a99cfb9ca1ff1f7e0f7f908ab47c28911e2dcee8a79923f14811295") false
    over (fun _ h => by cases h) (by kernel_rfl) (fun _ h => by cases h) bytecodePacks_row_tie rfl ⟨rfl, rfl⟩ (by kernel_rfl) rfl
    (fun f fn hf hfn => by
      obtain rfl : f = 6 := Option.some.inj ((show Tryd.prog.funcNamed "sharecore/sharecorelaw07.BytecodePacks" = some 6 by kernel_rfl).symm.trans hf) |>.symm
      obtain rfl : fn = Tryd.f6 := (Option.some.inj (Tryd.func6.symm.trans hfn)).symm
      exact ⟨by kernel_rfl, fun j t ht => by
        rw [Tryd.params6] at ht
        have hm : t ∈ [4, 30] := by simpa using Array.mem_of_getElem? ht
        have hall : ([4, 30].all fun u => !Tryd.prog.wantsStandIn u) = true := by kernel_rfl
        exact (show Tryd.prog.wantsStandIn t = false by simpa using List.all_eq_true.1 hall t hm)⟩)
    (by kernel_rfl)
#print axioms proved
end Go.Proofs.YtclknpkjnkgejaaDoor.bytecodePacks
