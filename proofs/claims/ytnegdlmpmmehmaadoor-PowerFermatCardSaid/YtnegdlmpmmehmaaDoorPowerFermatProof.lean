/-
  For every field and number, the examples of the chapter hold, and the value's power with the exponent p - 1 is 1 where it is not 0, that with the exponent p is the value itself: the statement of P6.1. No condition.
-/
import Derived.Test.YtnegdlmpmmehmaaDoorRows
import Derived.Test.YtnegdlmpmmehmaaDoorTie
import Derived.Test.YtnegdlmpmmehmaaDoorCards
import Derived.LaidMore
import Derived.LaidHandle
import Derived.SevenTiedAt
import Derived.Stop.Joined
import Derived.JoinedOf
import Derived.Test.YtnegdlmpmmehmaaDoorLimbOpen
import Derived.Test.YtnegdlmpmmehmaaDoorFieldTab
import Derived.Test.YtnegdlmpmmehmaaDoorFieldHeld
import Derived.Test.YtnegdlmpmmehmaaDoorPowBase
import Derived.Test.YtnegdlmpmmehmaaDoorInvMem
import Derived.Test.YtnegdlmpmmehmaaDoorInvSel
import Derived.WalkKit
import Derived.ProofKit
import Derived.OpenShut
import Derived.ShutString
import Derived.ChangeOld
import Derived.Below
namespace Go.Proofs.YtnegdlmpmmehmaaDoor.powerFermat
open Go.ChangeShapes Go.WideShapes Go.ChangeAt Go.RowKit
set_option linter.unusedVariables false

theorem own : ownKnob Tryd.prog.godebug = none := by kernel_rfl
theorem laidOut : laidOutB Tryd.prog = true := by kernel_rfl

set_option maxRecDepth 100000 in
set_option maxHeartbeats 4000000 in
theorem walk (i0 : Bool) (n1 : Nat) (w : World) (w0 : True) (w1 : n1 < R256) (hT : TabAt w) :
    Calls Tryd.prog 8 #[.bool i0, V n1] w fun e w' => e = .returned (.bool true) ∧ Off (fun _ => False) w w' := by
  obtain ⟨id, p, i, r, s, hF, hid⟩ := fld_of i0
  have hp := hF.mp.lt
  have h1 := hF.mp.one
  have FG := Lib.hid (fun W hT => get6_any i0 hF hid W hT)
  obtain ⟨c, hx⟩ : ∃ c, c = n1 % p := ⟨_, rfl⟩
  have hxp : c < p := by rw [hx]; exact Nat.mod_lt _ (by omega)
  have hxR : c < R256 := by omega
  have FMo : Hid (∀ W, TabAt W → Calls Tryd.prog 10 #[V p, V n1] W fun e w' => e = .returned (V c) ∧ Off (fun _ => False) W w') := Lib.hid (fun W hT => by rw [hx]; exact mod_mod p n1 hp h1 w1 W)
  have FAL : Hid (∀ W, TabAt W → Calls Tryd.prog 11 #[] W fun e w' => e = .returned (.bool true) ∧ Off (fun _ => False) W w') := Lib.hid (fun W hT => alive6_any W hT)
  obtain ⟨hodd, hfer, hp3⟩ := fld_more hF
  obtain ⟨u, hu⟩ : ∃ u, u = fm p c := ⟨_, rfl⟩
  have huR : u < p := by rw [hu]; exact fm_lt (by omega) _
  obtain ⟨m, hm⟩ : ∃ m, m = p - 1 := ⟨_, rfl⟩
  obtain ⟨on, hon⟩ : ∃ on, on = fm p (c ^ m % p) := ⟨_, rfl⟩
  have hpw := pred_words hodd
  rw [← hm] at hpw
  have hz : c = 0 → on = u ∧ eqN u 0 = true := fun h => ⟨by rw [hon, hu, h, Nat.zero_pow (by omega), Nat.zero_mod], by rw [hu, h, fm_zero]; decide⟩
  have hnz : c ≠ 0 → on = r ∧ eqN u 0 = false := fun h => ⟨by rw [hon, hm, hfer c (by rw [Nat.mod_eq_of_lt hxp]; exact h), fm_one, ← hF.rr], by
    unfold eqN
    rw [decide_eq_false_iff_not]
    intro h2
    exact h (fm_inj hF.mp hxp hF.mp.pos ((hu.symm.trans h2).trans (fm_zero p).symm))⟩
  have FX : Hid (∀ W, TabAt W → Calls Tryd.prog 13 #[V p, V c] W fun e w' => e = .returned (V u) ∧ Off (fun _ => False) W w') := Lib.hid (fun W hT => by rw [hu]; exact form6_any p c hp h1 hxR W)
  have FP : Hid (∀ W, TabAt W → Calls Tryd.prog 12 #[.pointer none, FV id p i r s, V u, V m] W fun e w' => e = .returned (V on) ∧ Off (fun _ => False) W w') := Lib.hid (fun W hT => by rw [hu, hon]; exact pow_nil hF c m (by omega) W)
  have FQ : Hid (∀ W, TabAt W → Calls Tryd.prog 12 #[.pointer none, FV id p i r s, V u, V p] W fun e w' => e = .returned (V u) ∧ Off (fun _ => False) W w') := Lib.hid (fun W hT => by have h := pow_nil hF c p hp W; rw [pow_p h1 hfer hxp, ← hu] at h; exact h)
  have EZ : Hid (∀ W, (Op.equalIn 10000 24 (V u) (.agg #[.int .u64 0, .int .u64 0, .int .u64 0, .int .u64 0])).run Tryd.prog W = .ok (eqN u 0) W) := Lib.hid (fun W => by have h := equalIn_elem_num (show u < R256 by omega) (show 0 < R256 by decide) W; rw [lit_small 0 (by decide)] at h; exact h)
  obtain ⟨hq0, hq1, hq2, hq3⟩ := hpw
  have HQ := Lib.hid (And.intro hq1 (And.intro hq2 hq3))
  have hwq : IntKind.u64.wrap ((wd p 0 : Int) - 1) = (wd m 0 : Int) := by have := wd_lt m 0; rw [hq0, IntKind.wrap_u64]; omega
  clear hx hxp hxR hu huR hodd hfer hp3 hm hon hq0 hq1 hq2 hq3 hF hid hp h1 w0 w1
  have e1 := equalIn_elem_same
  have e2 := equalIn_same
  go_enter Tryd.func8, Tryd.ntmps8
  go_wp2_with fail
  refine (FG.out _ (hT.off ((Off.refl _ w).alloc _))).mono ?_
  rintro e u0 ⟨rfl, hO1⟩
  have hO0 : Off (fun _ => False) w u0 := ((Off.refl _ w).alloc _).trans hO1 (fun _ _ c => c)
  have hn1c : u0.heap[w.heap.size]? = some (.cells #[.int .u64 (wd n1 0 : Int), .int .u64 (wd n1 1 : Int), .int .u64 (wd n1 2 : Int), .int .u64 (wd n1 3 : Int)] 23) := hO1.heap (heap_new' rfl _) (fun c => c)
  obtain ⟨W1, eW1⟩ : ∃ W1, W1 = (((u0).alloc (.cells #[.int .i64 id, .int .u64 (wd p 0 : Int), .int .u64 (wd p 1 : Int), .int .u64 (wd p 2 : Int), .int .u64 (wd p 3 : Int), .int .u64 (i : Int), .int .u64 (wd r 0 : Int), .int .u64 (wd r 1 : Int), .int .u64 (wd r 2 : Int), .int .u64 (wd r 3 : Int), .int .u64 (wd s 0 : Int), .int .u64 (wd s 1 : Int), .int .u64 (wd s 2 : Int), .int .u64 (wd s 3 : Int)] 26)).alloc (.cells #[.int .u64 (wd p 0 : Int), .int .u64 (wd p 1 : Int), .int .u64 (wd p 2 : Int), .int .u64 (wd p 3 : Int)] 23)) := ⟨_, rfl⟩
  have oW1 : Off (fun _ => False) u0 W1 := by rw [eW1]; exact ((Off.refl _ u0).alloc _).alloc _
  have hFc : W1.heap[u0.heap.size]? = some (.cells #[.int .i64 id, .int .u64 (wd p 0 : Int), .int .u64 (wd p 1 : Int), .int .u64 (wd p 2 : Int), .int .u64 (wd p 3 : Int), .int .u64 (i : Int), .int .u64 (wd r 0 : Int), .int .u64 (wd r 1 : Int), .int .u64 (wd r 2 : Int), .int .u64 (wd r 3 : Int), .int .u64 (wd s 0 : Int), .int .u64 (wd s 1 : Int), .int .u64 (wd s 2 : Int), .int .u64 (wd s 3 : Int)] 26) := by rw [eW1]; exact heap_old' (heap_new' rfl _) _
  have hPc : W1.heap[u0.heap.size + 1]? = some (.cells #[.int .u64 (wd p 0 : Int), .int .u64 (wd p 1 : Int), .int .u64 (wd p 2 : Int), .int .u64 (wd p 3 : Int)] 23) := by rw [eW1]; exact heap_new' (by simp) _
  have hn1c1 := oW1.heap hn1c (fun c => c)
  have HT1 := Lib.hid (hT.off (hO0.trans oW1 (fun _ _ c => c)))
  have HTW := Lib.hid (fun W (h : Off (fun _ => False) W1 W) => HT1.out.off h)
  have HOw := Lib.hid (hO0.trans oW1 (fun _ _ c => c))
  have HFk := Lib.hid hFc
  have HPk := Lib.hid hPc
  have HW1 := Lib.hid eW1
  have HNk := Lib.hid hn1c1
  have HK2 : Hid (∀ W, Off (fun _ => False) W1 W → (W.cell? ⟨u0.heap.size + 1, 0, none⟩ = some (.int .u64 (wd p 0 : Int)) ∧ W.cell? ⟨u0.heap.size + 1, 1, none⟩ = some (.int .u64 (wd p 1 : Int)) ∧ W.cell? ⟨u0.heap.size + 1, 2, none⟩ = some (.int .u64 (wd p 2 : Int)) ∧ W.cell? ⟨u0.heap.size + 1, 3, none⟩ = some (.int .u64 (wd p 3 : Int))) ∧ (W.cell? ⟨w.heap.size, 0, none⟩ = some (.int .u64 (wd n1 0 : Int)) ∧ W.cell? ⟨w.heap.size, 1, none⟩ = some (.int .u64 (wd n1 1 : Int)) ∧ W.cell? ⟨w.heap.size, 2, none⟩ = some (.int .u64 (wd n1 2 : Int)) ∧ W.cell? ⟨w.heap.size, 3, none⟩ = some (.int .u64 (wd n1 3 : Int))) ∧ Off (fun _ => False) W1 W) := Lib.hid (fun W h => ⟨cells4 (h.heap HPk.out (fun c => c)), cells4 (h.heap HNk.out (fun c => c)), h⟩)
  clear hO1 hO0 hn1c hn1c1 hFc hPc eW1 oW1 HT1
  go_upto_region 2 with fail
  rw [← HW1.out]
  refine wp_region_inv (fun a0 l a' w' => ∃ (u15 : Value) (u16 : Value) (u17 : Value) (u18 : Value) (u19 : Value) (u7 : Value) (b7 : Nat), a' = (Act.put (Act.put (Act.put (Act.put (Act.put (Act.put a0 (some 15) u15) (some 16) u16) (some 17) u17) (some 18) u18) (some 19) u19) (some 7) u7) ∧ Slot l 0 u15 (V p) ∧ Slot l 1 u16 (V p) ∧ Slot l 2 u17 (V n1) ∧ Slot l 3 u18 (V c) ∧ Slot l 4 u19 (V u) ∧ Blk l 5 6 u7 b7 W1 w' (.cells #[.int .u64 0, .int .u64 0, .int .u64 0, .int .u64 0] 24) (.cells #[.int .u64 (wd u 0 : Int), .int .u64 (wd u 1 : Int), .int .u64 (wd u 2 : Int), .int .u64 (wd u 3 : Int)] 24) ∧ Off (fun _ => False) W1 w') (by kernel_rfl) (by kernel_rfl) ?_ ⟨?_, ?_, ?_, ?_, ?_, ?_, ?_, trivial⟩ ?_
  · refine ⟨?z15, ?z16, ?z17, ?z18, ?z19, ?z7, 0, ?fr, Slot.start _ _ _, Slot.start _ _ _, Slot.start _ _ _, Slot.start _ _ _, Slot.start _ _ _, Blk.start _ _ _ _ _ _ _ _, (Off.refl _ W1).drew⟩
    case fr => first | (simp only [Act.put, List.setIfInBounds_toArray, List.set_cons_zero, List.set_cons_succ]; rfl) | simp only [Act.put, List.setIfInBounds_toArray, List.set_cons_zero, List.set_cons_succ]
  · intro l a wr hI hl hd K' hK
    obtain ⟨u15, u16, u17, u18, u19, u7, b7, ha, s0, s1, s2, s3, s4, B5, hO⟩ := hI
    simp only [Act.put, List.setIfInBounds_toArray, List.set_cons_zero, List.set_cons_succ] at ha
    subst ha
    have hc := HK2.out wr hO
    have p0 := hc.1.1
    have p1 := hc.1.2.1
    have p2 := hc.1.2.2.1
    have p3 := hc.1.2.2.2
    clear hc
    go_simp
    refine hK.out _ _ ⟨_, _, _, _, _, _, _, ?_, Slot.new _ _ _, s1.keep rfl, s2.keep rfl, s3.keep rfl, s4.keep rfl, B5.keep (Off.refl _ wr) rfl rfl, hO⟩
    simp only [Act.put, List.setIfInBounds_toArray, List.set_cons_zero, List.set_cons_succ]
  · intro l a wr hI hl hd K' hK
    obtain ⟨u15, u16, u17, u18, u19, u7, b7, ha, s0, s1, s2, s3, s4, B5, hO⟩ := hI
    simp only [Act.put, List.setIfInBounds_toArray, List.set_cons_zero, List.set_cons_succ] at ha
    subst ha
    have hc := HK2.out wr hO
    have p0 := hc.1.1
    have p1 := hc.1.2.1
    have p2 := hc.1.2.2.1
    have p3 := hc.1.2.2.2
    clear hc
    go_simp
    refine hK.out _ _ ⟨_, _, _, _, _, _, _, ?_, s0.keep rfl, Slot.new _ _ _, s2.keep rfl, s3.keep rfl, s4.keep rfl, B5.keep (Off.refl _ wr) rfl rfl, hO⟩
    simp only [Act.put, List.setIfInBounds_toArray, List.set_cons_zero, List.set_cons_succ]
  · intro l a wr hI hl hd K' hK
    obtain ⟨u15, u16, u17, u18, u19, u7, b7, ha, s0, s1, s2, s3, s4, B5, hO⟩ := hI
    simp only [Act.put, List.setIfInBounds_toArray, List.set_cons_zero, List.set_cons_succ] at ha
    subst ha
    have hc := HK2.out wr hO
    have p0 := hc.2.1.1
    have p1 := hc.2.1.2.1
    have p2 := hc.2.1.2.2.1
    have p3 := hc.2.1.2.2.2
    clear hc
    go_simp
    refine hK.out _ _ ⟨_, _, _, _, _, _, _, ?_, s0.keep rfl, s1.keep rfl, Slot.new _ _ _, s3.keep rfl, s4.keep rfl, B5.keep (Off.refl _ wr) rfl rfl, hO⟩
    simp only [Act.put, List.setIfInBounds_toArray, List.set_cons_zero, List.set_cons_succ]
  · intro l a wr hI hl hd K' hK
    obtain ⟨u15, u16, u17, u18, u19, u7, b7, ha, s0, s1, s2, s3, s4, B5, hO⟩ := hI
    simp only [Act.put, List.setIfInBounds_toArray, List.set_cons_zero, List.set_cons_succ] at ha
    have q1 := s1 (hd 1 (by decide))
    have q2 := s2 (hd 2 (by decide))
    subst ha q1 q2
    go_simp
    refine (held_inv (FMo.out wr (HTW.out wr hO)) hO).mono ?_
    rintro e w1 ⟨rfl, hO1, hOW⟩
    go_wp2_with fail
    refine hK.out _ _ ⟨_, _, _, _, _, _, _, ?_, s0.keep rfl, s1.keep rfl, s2.keep rfl, Slot.new _ _ _, s4.keep rfl, B5.keep hOW rfl rfl, hO1⟩
    simp only [Act.put, List.setIfInBounds_toArray, List.set_cons_zero, List.set_cons_succ]
  · intro l a wr hI hl hd K' hK
    obtain ⟨u15, u16, u17, u18, u19, u7, b7, ha, s0, s1, s2, s3, s4, B5, hO⟩ := hI
    simp only [Act.put, List.setIfInBounds_toArray, List.set_cons_zero, List.set_cons_succ] at ha
    have q0 := s0 (hd 0 (by decide))
    have q3 := s3 (hd 3 (by decide))
    subst ha q0 q3
    go_simp
    refine (held_inv (FX.out wr (HTW.out wr hO)) hO).mono ?_
    rintro e w1 ⟨rfl, hO1, hOW⟩
    go_wp2_with fail
    refine hK.out _ _ ⟨_, _, _, _, _, _, _, ?_, s0.keep rfl, s1.keep rfl, s2.keep rfl, s3.keep rfl, Slot.new _ _ _, B5.keep hOW rfl rfl, hO1⟩
    simp only [Act.put, List.setIfInBounds_toArray, List.set_cons_zero, List.set_cons_succ]
  · intro l a wr hI hl hd K' hK
    obtain ⟨u15, u16, u17, u18, u19, u7, b7, ha, s0, s1, s2, s3, s4, B5, hO⟩ := hI
    simp only [Act.put, List.setIfInBounds_toArray, List.set_cons_zero, List.set_cons_succ] at ha
    subst ha
    go_simp
    refine hK.out _ _ ⟨_, _, _, _, _, _, _, ?_, s0.keep rfl, s1.keep rfl, s2.keep rfl, s3.keep rfl, s4.keep rfl, B5.make hl rfl hO, hO.alloc _⟩
    simp only [Act.put, List.setIfInBounds_toArray, List.set_cons_zero, List.set_cons_succ]
  · intro l a wr hI hl hd K' hK
    obtain ⟨u15, u16, u17, u18, u19, u7, b7, ha, s0, s1, s2, s3, s4, B5, hO⟩ := hI
    simp only [Act.put, List.setIfInBounds_toArray, List.set_cons_zero, List.set_cons_succ] at ha
    have h5 := hd 5 (by decide)
    have q5 := B5.ptr h5
    have q4 := s4 (hd 4 (by decide))
    subst ha q5 q4
    obtain ⟨⟨m0, m1, m2, m3⟩, fz, lt⟩ := zero_cells (B5.was h5 hl)
    go_simp
    refine hK.out _ _ ⟨_, _, _, _, _, _, _, ?_, s0.keep rfl, s1.keep rfl, s2.keep rfl, s3.keep rfl, s4.keep rfl, B5.put hl h5 rfl rfl, setCells_in hO (fun c => absurd c (Nat.not_lt.2 (B5.new h5))) [.int .u64 (wd u 0 : Int), .int .u64 (wd u 1 : Int), .int .u64 (wd u 2 : Int), .int .u64 (wd u 3 : Int)]⟩
    simp only [Act.put, List.setIfInBounds_toArray, List.set_cons_zero, List.set_cons_succ]
  · intro l a wc hI hd
    obtain ⟨u15, u16, u17, u18, u19, u7, b7, ha, s0, s1, s2, s3, s4, B5, hO⟩ := hI
    simp only [Act.put, List.setIfInBounds_toArray, List.set_cons_zero, List.set_cons_succ] at ha
    have q0 := s0 (hd 0 (by decide))
    have q1 := s1 (hd 1 (by decide))
    have q2 := s2 (hd 2 (by decide))
    have q3 := s3 (hd 3 (by decide))
    have q4 := s4 (hd 4 (by decide))
    have q5 := B5.ptr (hd 5 (by decide))
    have n7 : wc.heap[b7]? = some (.cells #[.int .u64 (wd u 0 : Int), .int .u64 (wd u 1 : Int), .int .u64 (wd u 2 : Int), .int .u64 (wd u 3 : Int)] 24) := B5.now (hd 5 (by decide)) (hd 6 (by decide))
    have v7 := B5.new (hd 5 (by decide))
    subst ha q0 q1 q2 q3 q4 q5
    clear hd s0 s1 s2 s3 s4 B5
    obtain ⟨W2, hW2⟩ : ∃ W2, W2 = wc := ⟨_, rfl⟩
    subst hW2
    have hPk := hO.heap HPk.out (fun c => c)
    have HFk2 := Lib.hid (hO.heap HFk.out (fun c => c))
    have HPk2 := Lib.hid hPk
    have HUk2 := Lib.hid n7
    have HTW2 := Lib.hid (fun W (h : Off (fun _ => False) W2 W) => HTW.out W (hO.trans h (fun _ _ c => c)))
    have HOw2 := Lib.hid (HOw.out.trans hO (fun _ _ c => c))
    clear HTW HOw HK2 HFk HPk HW1 HNk hO n7 v7
    obtain ⟨p0, p1, p2, p3⟩ := cells4 hPk
    have lp := heap_lt hPk
    obtain ⟨W3, eW3⟩ : ∃ W3, W3 = W2.alloc (.cells #[.int .u64 (wd m 0 : Int), .int .u64 (wd p 1 : Int), .int .u64 (wd p 2 : Int), .int .u64 (wd p 3 : Int)] 23) := ⟨_, rfl⟩
    have oW3 : Off (fun _ => False) W2 W3 := by rw [eW3]; exact (Off.refl _ W2).alloc _
    have hMk : W3.heap[W2.heap.size]? = some (.cells #[.int .u64 (wd m 0 : Int), .int .u64 (wd m 1 : Int), .int .u64 (wd m 2 : Int), .int .u64 (wd m 3 : Int)] 23) := by
      rw [eW3, HQ.out.1, HQ.out.2.1, HQ.out.2.2]
      exact heap_new' rfl _
    have hFk := oW3.heap HFk2.out (fun c => c)
    have hUk := oW3.heap HUk2.out (fun c => c)
    have hPk3 := oW3.heap HPk2.out (fun c => c)
    have HMk := Lib.hid hMk
    have HFk3 := Lib.hid hFk
    have HUk3 := Lib.hid hUk
    have HPk3 := Lib.hid hPk3
    have HTW3 := Lib.hid (HTW2.out W3 oW3)
    have HTW4 := Lib.hid (fun W (h : Off (fun _ => False) W3 W) => HTW2.out W (oW3.trans h (fun _ _ c => c)))
    have HOw3 := Lib.hid (HOw2.out.trans oW3 (fun _ _ c => c))
    have HW3 := Lib.hid eW3
    clear hPk hFk hUk hMk hPk3 oW3 eW3 HFk2 HUk2 HPk2 HTW2 HOw2
    go_upto_region 5 with fail
    rw [← HW3.out]
    clear p0 p1 p2 p3 lp hwq HW3 HQ
    obtain ⟨f0, f1, f2, f3, f4, f5, f6, f7, f8, f9, f10, f11, f12, f13⟩ := fv_cells HFk3.out
    obtain ⟨u0', u1', u2', u3'⟩ := cells4 HUk3.out
    obtain ⟨m0, m1, m2, m3⟩ := cells4 HMk.out
    go_wp2_with fail
    refine (FP.out _ HTW3.out).mono ?_
    rintro e u5 ⟨rfl, hO5⟩
    clear f0 f1 f2 f3 f4 f5 f6 f7 f8 f9 f10 f11 f12 f13 u0' u1' u2' u3' m0 m1 m2 m3
    obtain ⟨W6, eW6⟩ : ∃ W6, W6 = u5.alloc (.cells #[.int .u64 (wd on 0 : Int), .int .u64 (wd on 1 : Int), .int .u64 (wd on 2 : Int), .int .u64 (wd on 3 : Int)] 24) := ⟨_, rfl⟩
    have oW6 : Off (fun _ => False) u5 W6 := by rw [eW6]; exact (Off.refl _ u5).alloc _
    have hOk : W6.heap[u5.heap.size]? = some (.cells #[.int .u64 (wd on 0 : Int), .int .u64 (wd on 1 : Int), .int .u64 (wd on 2 : Int), .int .u64 (wd on 3 : Int)] 24) := by rw [eW6]; exact heap_new' rfl _
    have o36 := hO5.trans oW6 (fun _ _ c => c)
    have hFk := o36.heap HFk3.out (fun c => c)
    have hUk := o36.heap HUk3.out (fun c => c)
    have hPk := o36.heap HPk3.out (fun c => c)
    have HK6 : Hid (∀ W, Off (fun _ => False) W6 W → (W.cell? ⟨u0.heap.size, 0, none⟩ = some (.int .i64 id) ∧ W.cell? ⟨u0.heap.size, 1, none⟩ = some (.int .u64 (wd p 0 : Int)) ∧ W.cell? ⟨u0.heap.size, 2, none⟩ = some (.int .u64 (wd p 1 : Int)) ∧ W.cell? ⟨u0.heap.size, 3, none⟩ = some (.int .u64 (wd p 2 : Int)) ∧ W.cell? ⟨u0.heap.size, 4, none⟩ = some (.int .u64 (wd p 3 : Int)) ∧ W.cell? ⟨u0.heap.size, 5, none⟩ = some (.int .u64 (i : Int)) ∧ W.cell? ⟨u0.heap.size, 6, none⟩ = some (.int .u64 (wd r 0 : Int)) ∧ W.cell? ⟨u0.heap.size, 7, none⟩ = some (.int .u64 (wd r 1 : Int)) ∧ W.cell? ⟨u0.heap.size, 8, none⟩ = some (.int .u64 (wd r 2 : Int)) ∧ W.cell? ⟨u0.heap.size, 9, none⟩ = some (.int .u64 (wd r 3 : Int)) ∧ W.cell? ⟨u0.heap.size, 10, none⟩ = some (.int .u64 (wd s 0 : Int)) ∧ W.cell? ⟨u0.heap.size, 11, none⟩ = some (.int .u64 (wd s 1 : Int)) ∧ W.cell? ⟨u0.heap.size, 12, none⟩ = some (.int .u64 (wd s 2 : Int)) ∧ W.cell? ⟨u0.heap.size, 13, none⟩ = some (.int .u64 (wd s 3 : Int))) ∧ (W.cell? ⟨u0.heap.size + 1, 0, none⟩ = some (.int .u64 (wd p 0 : Int)) ∧ W.cell? ⟨u0.heap.size + 1, 1, none⟩ = some (.int .u64 (wd p 1 : Int)) ∧ W.cell? ⟨u0.heap.size + 1, 2, none⟩ = some (.int .u64 (wd p 2 : Int)) ∧ W.cell? ⟨u0.heap.size + 1, 3, none⟩ = some (.int .u64 (wd p 3 : Int))) ∧ (W.cell? ⟨b7, 0, none⟩ = some (.int .u64 (wd u 0 : Int)) ∧ W.cell? ⟨b7, 1, none⟩ = some (.int .u64 (wd u 1 : Int)) ∧ W.cell? ⟨b7, 2, none⟩ = some (.int .u64 (wd u 2 : Int)) ∧ W.cell? ⟨b7, 3, none⟩ = some (.int .u64 (wd u 3 : Int))) ∧ (W.cell? ⟨u5.heap.size, 0, none⟩ = some (.int .u64 (wd on 0 : Int)) ∧ W.cell? ⟨u5.heap.size, 1, none⟩ = some (.int .u64 (wd on 1 : Int)) ∧ W.cell? ⟨u5.heap.size, 2, none⟩ = some (.int .u64 (wd on 2 : Int)) ∧ W.cell? ⟨u5.heap.size, 3, none⟩ = some (.int .u64 (wd on 3 : Int))) ∧ Off (fun _ => False) W6 W) := Lib.hid (fun W h => ⟨fv_cells (h.heap hFk (fun c => c)), cells4 (h.heap hPk (fun c => c)), cells4 (h.heap hUk (fun c => c)), cells4 (h.heap hOk (fun c => c)), h⟩)
    have HTW6 := Lib.hid (fun W (h : Off (fun _ => False) W6 W) => HTW4.out W (o36.trans h (fun _ _ c => c)))
    have HOw6 := Lib.hid (HOw3.out.trans o36 (fun _ _ c => c))
    have HW6 := Lib.hid eW6
    clear hO5 oW6 hOk o36 hFk hUk hPk eW6 HFk3 HUk3 HPk3 HMk HTW3 HTW4 HOw3
    go_upto_region 6 with fail
    rw [← HW6.out]
    by_cases hc0 : c = 0
    · obtain ⟨hon', hu0⟩ := hz hc0
      have e3 := EZ.out
      rw [hu0] at e3
      clear hz hnz hc0 hu0
      have hon2 := hon'.symm
      clear hon'
      subst hon2
      obtain ⟨x29, hx⟩ : ∃ x : Value, x = .bool true := ⟨_, rfl⟩
      have X29 := Lib.hid hx
      clear hx
      obtain ⟨x30, hx⟩ : ∃ x : Value, x = .bool true := ⟨_, rfl⟩
      have X30 := Lib.hid hx
      clear hx
      obtain ⟨x31, hx⟩ : ∃ x : Value, x = FV id p i r s := ⟨_, rfl⟩
      have X31 := Lib.hid hx
      clear hx
      obtain ⟨x32, hx⟩ : ∃ x : Value, x = V u := ⟨_, rfl⟩
      have X32 := Lib.hid hx
      clear hx
      obtain ⟨x33, hx⟩ : ∃ x : Value, x = V p := ⟨_, rfl⟩
      have X33 := Lib.hid hx
      clear hx
      obtain ⟨x34, hx⟩ : ∃ x : Value, x = V u := ⟨_, rfl⟩
      have X34 := Lib.hid hx
      clear hx
      obtain ⟨x35, hx⟩ : ∃ x : Value, x = V u := ⟨_, rfl⟩
      have X35 := Lib.hid hx
      clear hx
      obtain ⟨x36, hx⟩ : ∃ x : Value, x = .bool true := ⟨_, rfl⟩
      have X36 := Lib.hid hx
      clear hx
      obtain ⟨x37, hx⟩ : ∃ x : Value, x = .bool true := ⟨_, rfl⟩
      have X37 := Lib.hid hx
      clear hx
      obtain ⟨x38, hx⟩ : ∃ x : Value, x = .bool true := ⟨_, rfl⟩
      have X38 := Lib.hid hx
      clear hx
      obtain ⟨x39, hx⟩ : ∃ x : Value, x = V u := ⟨_, rfl⟩
      have X39 := Lib.hid hx
      clear hx
      obtain ⟨x40, hx⟩ : ∃ x : Value, x = .agg #[.int .u64 0, .int .u64 0, .int .u64 0, .int .u64 0] := ⟨_, rfl⟩
      have X40 := Lib.hid hx
      clear hx
      obtain ⟨x41, hx⟩ : ∃ x : Value, x = .bool true := ⟨_, rfl⟩
      have X41 := Lib.hid hx
      clear hx
      obtain ⟨x42, hx⟩ : ∃ x : Value, x = .bool true := ⟨_, rfl⟩
      have X42 := Lib.hid hx
      clear hx
      obtain ⟨x43, hx⟩ : ∃ x : Value, x = V u := ⟨_, rfl⟩
      have X43 := Lib.hid hx
      clear hx
      obtain ⟨x44, hx⟩ : ∃ x : Value, x = V u := ⟨_, rfl⟩
      have X44 := Lib.hid hx
      clear hx
      obtain ⟨x45, hx⟩ : ∃ x : Value, x = .bool true := ⟨_, rfl⟩
      have X45 := Lib.hid hx
      clear hx
      obtain ⟨x46, hx⟩ : ∃ x : Value, x = .bool true := ⟨_, rfl⟩
      have X46 := Lib.hid hx
      clear hx
      obtain ⟨x47, hx⟩ : ∃ x : Value, x = .bool true := ⟨_, rfl⟩
      have X47 := Lib.hid hx
      clear hx
      obtain ⟨x48, hx⟩ : ∃ x : Value, x = undef := ⟨_, rfl⟩
      have X48 := Lib.hid hx
      clear hx
      obtain ⟨x49, hx⟩ : ∃ x : Value, x = undef := ⟨_, rfl⟩
      have X49 := Lib.hid hx
      clear hx
      obtain ⟨x50, hx⟩ : ∃ x : Value, x = undef := ⟨_, rfl⟩
      have X50 := Lib.hid hx
      clear hx
      obtain ⟨x51, hx⟩ : ∃ x : Value, x = undef := ⟨_, rfl⟩
      have X51 := Lib.hid hx
      clear hx
      obtain ⟨x52, hx⟩ : ∃ x : Value, x = .bool true := ⟨_, rfl⟩
      have X52 := Lib.hid hx
      clear hx
      obtain ⟨x53, hx⟩ : ∃ x : Value, x = .bool true := ⟨_, rfl⟩
      have X53 := Lib.hid hx
      clear hx
      obtain ⟨x4, hx⟩ : ∃ x : Value, x = .bool true := ⟨_, rfl⟩
      have X4 := Lib.hid hx
      clear hx
      refine wp_region_inv (fun a0 l a' w' => a' = (Act.put (fill a0 29 [sel (l 0) x29 undef, sel (l 1) x30 undef, sel (l 2) x31 undef, sel (l 3) x32 undef, sel (l 4) x33 undef, sel (l 5) x34 undef, sel (l 6) x35 undef, sel (l 7) x36 undef, sel (l 8) x37 undef, sel (l 9) x38 undef, sel (l 10) x39 undef, sel (l 11) x40 undef, sel (l 12) x41 undef, sel (l 13) x42 undef, sel (l 14) x43 undef, sel (l 15) x44 undef, sel (l 16) x45 undef, sel (l 17) x46 undef, sel (l 18) x47 undef, sel (l 19) x48 undef, sel (l 20) x49 undef, sel (l 21) x50 undef, sel (l 22) x51 undef, sel (l 23) x52 undef, sel (l 24) x53 undef]) (some 4) (sel (l 25) x4 (.bool false))) ∧ Off (fun _ => False) W6 w') (by kernel_rfl) (by kernel_rfl) ?_ ⟨?_, ?_, ?_, ?_, ?_, ?_, ?_, ?_, ?_, ?_, ?_, ?_, ?_, ?_, ?_, ?_, ?_, ?_, ?_, ?_, ?_, ?_, ?_, ?_, ?_, ?_, trivial⟩ ?_
      · refine ⟨?_, (Off.refl _ W6).drew⟩
        simp only [fill_eq, List.take_succ_cons, List.take_zero, List.cons_append, List.nil_append, Act.put, List.setIfInBounds_toArray, List.set_cons_zero, List.set_cons_succ, sel_start]
      · as_aux_lemma =>
          rintro l a wr ⟨ha, hO⟩ hl hd K' hK
          have hx := X29.out; subst hx
          simp only [fill_eq, List.take_succ_cons, List.take_zero, List.cons_append, List.nil_append, Act.put, List.setIfInBounds_toArray, List.set_cons_zero, List.set_cons_succ] at ha
          subst ha
          rw [if_pos (by rfl)]
          go_simp
          refine (held_inv (FAL.out wr (HTW6.out wr hO)) hO).mono ?_
          rintro e w1 ⟨rfl, hO1, hOW⟩
          go_wp2_with fail
          refine hK.out _ _ ⟨?_, hO1⟩
          simp only [fill_eq, List.take_succ_cons, List.take_zero, List.cons_append, List.nil_append, Act.put, List.setIfInBounds_toArray, List.set_cons_zero, List.set_cons_succ, sel_new]
          rfl
      · as_aux_lemma =>
          rintro l a wr ⟨ha, hO⟩ hl hd K' hK
          have d0 := hd 0 (by decide)
          have hx := X29.out; subst hx
          have hx := X30.out; subst hx
          simp only [fill_eq, List.take_succ_cons, List.take_zero, List.cons_append, List.nil_append, Act.put, List.setIfInBounds_toArray, List.set_cons_zero, List.set_cons_succ, sel_of d0] at ha
          subst ha
          rw [if_pos (by rfl)]
          go_simp
          refine hK.out _ _ ⟨?_, hO⟩
          simp only [fill_eq, List.take_succ_cons, List.take_zero, List.cons_append, List.nil_append, Act.put, List.setIfInBounds_toArray, List.set_cons_zero, List.set_cons_succ, sel_new, sel_dep d0]
          rfl
      · as_aux_lemma =>
          rintro l a wr ⟨ha, hO⟩ hl hd K' hK
          have d1 := hd 1 (by decide)
          have hx := X30.out; subst hx
          have hx := X31.out; subst hx
          simp only [fill_eq, List.take_succ_cons, List.take_zero, List.cons_append, List.nil_append, Act.put, List.setIfInBounds_toArray, List.set_cons_zero, List.set_cons_succ, sel_of d1] at ha
          subst ha
          have hc := HK6.out wr hO
          have p0 := hc.1.1
          have p1 := hc.1.2.1
          have p2 := hc.1.2.2.1
          have p3 := hc.1.2.2.2.1
          have p4 := hc.1.2.2.2.2.1
          have p5 := hc.1.2.2.2.2.2.1
          have p6 := hc.1.2.2.2.2.2.2.1
          have p7 := hc.1.2.2.2.2.2.2.2.1
          have p8 := hc.1.2.2.2.2.2.2.2.2.1
          have p9 := hc.1.2.2.2.2.2.2.2.2.2.1
          have p10 := hc.1.2.2.2.2.2.2.2.2.2.2.1
          have p11 := hc.1.2.2.2.2.2.2.2.2.2.2.2.1
          have p12 := hc.1.2.2.2.2.2.2.2.2.2.2.2.2.1
          have p13 := hc.1.2.2.2.2.2.2.2.2.2.2.2.2.2
          clear hc
          rw [if_pos (by rfl)]
          go_simp
          refine hK.out _ _ ⟨?_, hO⟩
          simp only [fill_eq, List.take_succ_cons, List.take_zero, List.cons_append, List.nil_append, Act.put, List.setIfInBounds_toArray, List.set_cons_zero, List.set_cons_succ, sel_new, sel_dep d1]
          rfl
      · as_aux_lemma =>
          rintro l a wr ⟨ha, hO⟩ hl hd K' hK
          have d1 := hd 1 (by decide)
          have hx := X30.out; subst hx
          have hx := X32.out; subst hx
          simp only [fill_eq, List.take_succ_cons, List.take_zero, List.cons_append, List.nil_append, Act.put, List.setIfInBounds_toArray, List.set_cons_zero, List.set_cons_succ, sel_of d1] at ha
          subst ha
          have hc := HK6.out wr hO
          have p0 := hc.2.2.1.1
          have p1 := hc.2.2.1.2.1
          have p2 := hc.2.2.1.2.2.1
          have p3 := hc.2.2.1.2.2.2
          clear hc
          rw [if_pos (by rfl)]
          go_simp
          refine hK.out _ _ ⟨?_, hO⟩
          simp only [fill_eq, List.take_succ_cons, List.take_zero, List.cons_append, List.nil_append, Act.put, List.setIfInBounds_toArray, List.set_cons_zero, List.set_cons_succ, sel_new, sel_dep d1]
          rfl
      · as_aux_lemma =>
          rintro l a wr ⟨ha, hO⟩ hl hd K' hK
          have d1 := hd 1 (by decide)
          have hx := X30.out; subst hx
          have hx := X33.out; subst hx
          simp only [fill_eq, List.take_succ_cons, List.take_zero, List.cons_append, List.nil_append, Act.put, List.setIfInBounds_toArray, List.set_cons_zero, List.set_cons_succ, sel_of d1] at ha
          subst ha
          have hc := HK6.out wr hO
          have p0 := hc.2.1.1
          have p1 := hc.2.1.2.1
          have p2 := hc.2.1.2.2.1
          have p3 := hc.2.1.2.2.2
          clear hc
          rw [if_pos (by rfl)]
          go_simp
          refine hK.out _ _ ⟨?_, hO⟩
          simp only [fill_eq, List.take_succ_cons, List.take_zero, List.cons_append, List.nil_append, Act.put, List.setIfInBounds_toArray, List.set_cons_zero, List.set_cons_succ, sel_new, sel_dep d1]
          rfl
      · as_aux_lemma =>
          rintro l a wr ⟨ha, hO⟩ hl hd K' hK
          have d1 := hd 1 (by decide)
          have d2 := hd 2 (by decide)
          have d3 := hd 3 (by decide)
          have d4 := hd 4 (by decide)
          have hx := X30.out; subst hx
          have hx := X31.out; subst hx
          have hx := X32.out; subst hx
          have hx := X33.out; subst hx
          have hx := X34.out; subst hx
          simp only [fill_eq, List.take_succ_cons, List.take_zero, List.cons_append, List.nil_append, Act.put, List.setIfInBounds_toArray, List.set_cons_zero, List.set_cons_succ, sel_of d1, sel_of d2, sel_of d3, sel_of d4] at ha
          subst ha
          rw [if_pos (by rfl)]
          go_simp
          refine (held_inv (FQ.out wr (HTW6.out wr hO)) hO).mono ?_
          rintro e w1 ⟨rfl, hO1, hOW⟩
          go_wp2_with fail
          refine hK.out _ _ ⟨?_, hO1⟩
          simp only [fill_eq, List.take_succ_cons, List.take_zero, List.cons_append, List.nil_append, Act.put, List.setIfInBounds_toArray, List.set_cons_zero, List.set_cons_succ, sel_new, sel_dep d1, sel_dep d2, sel_dep d3, sel_dep d4]
          rfl
      · as_aux_lemma =>
          rintro l a wr ⟨ha, hO⟩ hl hd K' hK
          have d1 := hd 1 (by decide)
          have hx := X30.out; subst hx
          have hx := X35.out; subst hx
          simp only [fill_eq, List.take_succ_cons, List.take_zero, List.cons_append, List.nil_append, Act.put, List.setIfInBounds_toArray, List.set_cons_zero, List.set_cons_succ, sel_of d1] at ha
          subst ha
          have hc := HK6.out wr hO
          have p0 := hc.2.2.1.1
          have p1 := hc.2.2.1.2.1
          have p2 := hc.2.2.1.2.2.1
          have p3 := hc.2.2.1.2.2.2
          clear hc
          rw [if_pos (by rfl)]
          go_simp
          refine hK.out _ _ ⟨?_, hO⟩
          simp only [fill_eq, List.take_succ_cons, List.take_zero, List.cons_append, List.nil_append, Act.put, List.setIfInBounds_toArray, List.set_cons_zero, List.set_cons_succ, sel_new, sel_dep d1]
          rfl
      · as_aux_lemma =>
          rintro l a wr ⟨ha, hO⟩ hl hd K' hK
          have d1 := hd 1 (by decide)
          have d5 := hd 5 (by decide)
          have d6 := hd 6 (by decide)
          have hx := X30.out; subst hx
          have hx := X34.out; subst hx
          have hx := X35.out; subst hx
          have hx := X36.out; subst hx
          simp only [fill_eq, List.take_succ_cons, List.take_zero, List.cons_append, List.nil_append, Act.put, List.setIfInBounds_toArray, List.set_cons_zero, List.set_cons_succ, sel_of d1, sel_of d5, sel_of d6] at ha
          subst ha
          rw [if_pos (by rfl)]
          go_simp
          refine hK.out _ _ ⟨?_, hO⟩
          simp only [fill_eq, List.take_succ_cons, List.take_zero, List.cons_append, List.nil_append, Act.put, List.setIfInBounds_toArray, List.set_cons_zero, List.set_cons_succ, sel_new, sel_dep d1, sel_dep d5, sel_dep d6]
          rfl
      · as_aux_lemma =>
          rintro l a wr ⟨ha, hO⟩ hl hd K' hK
          have d1 := hd 1 (by decide)
          have d7 := hd 7 (by decide)
          have hx := X30.out; subst hx
          have hx := X36.out; subst hx
          have hx := X37.out; subst hx
          simp only [fill_eq, List.take_succ_cons, List.take_zero, List.cons_append, List.nil_append, Act.put, List.setIfInBounds_toArray, List.set_cons_zero, List.set_cons_succ, sel_of d1, sel_of d7] at ha
          subst ha
          rw [if_pos (by rfl)]
          go_simp
          refine hK.out _ _ ⟨?_, hO⟩
          simp only [fill_eq, List.take_succ_cons, List.take_zero, List.cons_append, List.nil_append, Act.put, List.setIfInBounds_toArray, List.set_cons_zero, List.set_cons_succ, sel_new, sel_dep d1, sel_dep d7]
          rfl
      · as_aux_lemma =>
          rintro l a wr ⟨ha, hO⟩ hl hd K' hK
          have d8 := hd 8 (by decide)
          have hx := X37.out; subst hx
          have hx := X38.out; subst hx
          simp only [fill_eq, List.take_succ_cons, List.take_zero, List.cons_append, List.nil_append, Act.put, List.setIfInBounds_toArray, List.set_cons_zero, List.set_cons_succ, sel_of d8] at ha
          subst ha
          rw [if_pos (by rfl)]
          go_simp
          refine hK.out _ _ ⟨?_, hO⟩
          simp only [fill_eq, List.take_succ_cons, List.take_zero, List.cons_append, List.nil_append, Act.put, List.setIfInBounds_toArray, List.set_cons_zero, List.set_cons_succ, sel_new, sel_dep d8]
          rfl
      · as_aux_lemma =>
          rintro l a wr ⟨ha, hO⟩ hl hd K' hK
          have d9 := hd 9 (by decide)
          have hx := X38.out; subst hx
          have hx := X39.out; subst hx
          simp only [fill_eq, List.take_succ_cons, List.take_zero, List.cons_append, List.nil_append, Act.put, List.setIfInBounds_toArray, List.set_cons_zero, List.set_cons_succ, sel_of d9] at ha
          subst ha
          have hc := HK6.out wr hO
          have p0 := hc.2.2.1.1
          have p1 := hc.2.2.1.2.1
          have p2 := hc.2.2.1.2.2.1
          have p3 := hc.2.2.1.2.2.2
          clear hc
          rw [if_pos (by rfl)]
          go_simp
          refine hK.out _ _ ⟨?_, hO⟩
          simp only [fill_eq, List.take_succ_cons, List.take_zero, List.cons_append, List.nil_append, Act.put, List.setIfInBounds_toArray, List.set_cons_zero, List.set_cons_succ, sel_new, sel_dep d9]
          rfl
      · as_aux_lemma =>
          rintro l a wr ⟨ha, hO⟩ hl hd K' hK
          have d9 := hd 9 (by decide)
          have hx := X38.out; subst hx
          have hx := X40.out; subst hx
          simp only [fill_eq, List.take_succ_cons, List.take_zero, List.cons_append, List.nil_append, Act.put, List.setIfInBounds_toArray, List.set_cons_zero, List.set_cons_succ, sel_of d9] at ha
          subst ha
          rw [if_pos (by rfl)]
          go_simp
          refine hK.out _ _ ⟨?_, hO⟩
          simp only [fill_eq, List.take_succ_cons, List.take_zero, List.cons_append, List.nil_append, Act.put, List.setIfInBounds_toArray, List.set_cons_zero, List.set_cons_succ, sel_new, sel_dep d9]
          rfl
      · as_aux_lemma =>
          rintro l a wr ⟨ha, hO⟩ hl hd K' hK
          have d9 := hd 9 (by decide)
          have d10 := hd 10 (by decide)
          have d11 := hd 11 (by decide)
          have hx := X38.out; subst hx
          have hx := X39.out; subst hx
          have hx := X40.out; subst hx
          have hx := X41.out; subst hx
          simp only [fill_eq, List.take_succ_cons, List.take_zero, List.cons_append, List.nil_append, Act.put, List.setIfInBounds_toArray, List.set_cons_zero, List.set_cons_succ, sel_of d9, sel_of d10, sel_of d11] at ha
          subst ha
          rw [if_pos (by rfl)]
          go_simp
          refine hK.out _ _ ⟨?_, hO⟩
          simp only [fill_eq, List.take_succ_cons, List.take_zero, List.cons_append, List.nil_append, Act.put, List.setIfInBounds_toArray, List.set_cons_zero, List.set_cons_succ, sel_new, sel_dep d9, sel_dep d10, sel_dep d11]
          rfl
      · as_aux_lemma =>
          rintro l a wr ⟨ha, hO⟩ hl hd K' hK
          have d9 := hd 9 (by decide)
          have d12 := hd 12 (by decide)
          have hx := X38.out; subst hx
          have hx := X41.out; subst hx
          have hx := X42.out; subst hx
          simp only [fill_eq, List.take_succ_cons, List.take_zero, List.cons_append, List.nil_append, Act.put, List.setIfInBounds_toArray, List.set_cons_zero, List.set_cons_succ, sel_of d9, sel_of d12] at ha
          subst ha
          rw [if_pos (by rfl)]
          go_simp
          refine hK.out _ _ ⟨?_, hO⟩
          simp only [fill_eq, List.take_succ_cons, List.take_zero, List.cons_append, List.nil_append, Act.put, List.setIfInBounds_toArray, List.set_cons_zero, List.set_cons_succ, sel_new, sel_dep d9, sel_dep d12]
          rfl
      · as_aux_lemma =>
          rintro l a wr ⟨ha, hO⟩ hl hd K' hK
          have d13 := hd 13 (by decide)
          have hx := X42.out; subst hx
          have hx := X43.out; subst hx
          simp only [fill_eq, List.take_succ_cons, List.take_zero, List.cons_append, List.nil_append, Act.put, List.setIfInBounds_toArray, List.set_cons_zero, List.set_cons_succ, sel_of d13] at ha
          subst ha
          have hc := HK6.out wr hO
          have p0 := hc.2.2.2.1.1
          have p1 := hc.2.2.2.1.2.1
          have p2 := hc.2.2.2.1.2.2.1
          have p3 := hc.2.2.2.1.2.2.2
          clear hc
          rw [if_pos (by rfl)]
          go_simp
          refine hK.out _ _ ⟨?_, hO⟩
          simp only [fill_eq, List.take_succ_cons, List.take_zero, List.cons_append, List.nil_append, Act.put, List.setIfInBounds_toArray, List.set_cons_zero, List.set_cons_succ, sel_new, sel_dep d13]
          rfl
      · as_aux_lemma =>
          rintro l a wr ⟨ha, hO⟩ hl hd K' hK
          have d13 := hd 13 (by decide)
          have hx := X42.out; subst hx
          have hx := X44.out; subst hx
          simp only [fill_eq, List.take_succ_cons, List.take_zero, List.cons_append, List.nil_append, Act.put, List.setIfInBounds_toArray, List.set_cons_zero, List.set_cons_succ, sel_of d13] at ha
          subst ha
          have hc := HK6.out wr hO
          have p0 := hc.2.2.1.1
          have p1 := hc.2.2.1.2.1
          have p2 := hc.2.2.1.2.2.1
          have p3 := hc.2.2.1.2.2.2
          clear hc
          rw [if_pos (by rfl)]
          go_simp
          refine hK.out _ _ ⟨?_, hO⟩
          simp only [fill_eq, List.take_succ_cons, List.take_zero, List.cons_append, List.nil_append, Act.put, List.setIfInBounds_toArray, List.set_cons_zero, List.set_cons_succ, sel_new, sel_dep d13]
          rfl
      · as_aux_lemma =>
          rintro l a wr ⟨ha, hO⟩ hl hd K' hK
          have d13 := hd 13 (by decide)
          have d14 := hd 14 (by decide)
          have d15 := hd 15 (by decide)
          have hx := X42.out; subst hx
          have hx := X43.out; subst hx
          have hx := X44.out; subst hx
          have hx := X45.out; subst hx
          simp only [fill_eq, List.take_succ_cons, List.take_zero, List.cons_append, List.nil_append, Act.put, List.setIfInBounds_toArray, List.set_cons_zero, List.set_cons_succ, sel_of d13, sel_of d14, sel_of d15] at ha
          subst ha
          rw [if_pos (by rfl)]
          go_simp
          refine hK.out _ _ ⟨?_, hO⟩
          simp only [fill_eq, List.take_succ_cons, List.take_zero, List.cons_append, List.nil_append, Act.put, List.setIfInBounds_toArray, List.set_cons_zero, List.set_cons_succ, sel_new, sel_dep d13, sel_dep d14, sel_dep d15]
          rfl
      · as_aux_lemma =>
          rintro l a wr ⟨ha, hO⟩ hl hd K' hK
          have d9 := hd 9 (by decide)
          have d13 := hd 13 (by decide)
          have d16 := hd 16 (by decide)
          have hx := X38.out; subst hx
          have hx := X42.out; subst hx
          have hx := X45.out; subst hx
          have hx := X46.out; subst hx
          simp only [fill_eq, List.take_succ_cons, List.take_zero, List.cons_append, List.nil_append, Act.put, List.setIfInBounds_toArray, List.set_cons_zero, List.set_cons_succ, sel_of d9, sel_of d13, sel_of d16] at ha
          subst ha
          rw [if_pos (by rfl)]
          go_simp
          refine hK.out _ _ ⟨?_, hO⟩
          simp only [fill_eq, List.take_succ_cons, List.take_zero, List.cons_append, List.nil_append, Act.put, List.setIfInBounds_toArray, List.set_cons_zero, List.set_cons_succ, sel_new, sel_dep d9, sel_dep d13, sel_dep d16]
          rfl
      · as_aux_lemma =>
          rintro l a wr ⟨ha, hO⟩ hl hd K' hK
          have d9 := hd 9 (by decide)
          have d17 := hd 17 (by decide)
          have hx := X38.out; subst hx
          have hx := X46.out; subst hx
          have hx := X47.out; subst hx
          simp only [fill_eq, List.take_succ_cons, List.take_zero, List.cons_append, List.nil_append, Act.put, List.setIfInBounds_toArray, List.set_cons_zero, List.set_cons_succ, sel_of d9, sel_of d17] at ha
          subst ha
          rw [if_pos (by rfl)]
          go_simp
          refine hK.out _ _ ⟨?_, hO⟩
          simp only [fill_eq, List.take_succ_cons, List.take_zero, List.cons_append, List.nil_append, Act.put, List.setIfInBounds_toArray, List.set_cons_zero, List.set_cons_succ, sel_new, sel_dep d9, sel_dep d17]
          rfl
      · as_aux_lemma =>
          rintro l a wr ⟨ha, hO⟩ hl hd K' hK
          have d18 := hd 18 (by decide)
          have hx := X47.out; subst hx
          have hx := X48.out; subst hx
          simp only [fill_eq, List.take_succ_cons, List.take_zero, List.cons_append, List.nil_append, Act.put, List.setIfInBounds_toArray, List.set_cons_zero, List.set_cons_succ, sel_of d18] at ha
          subst ha
          rw [if_neg (by intro h; exact absurd (show (false : Bool) = true from h) (by decide))]
          refine hK.out _ _ ⟨?_, hO⟩
          simp only [fill_eq, List.take_succ_cons, List.take_zero, List.cons_append, List.nil_append, Act.put, List.setIfInBounds_toArray, List.set_cons_zero, List.set_cons_succ, sel_new, sel_dep d18]
          rfl
      · as_aux_lemma =>
          rintro l a wr ⟨ha, hO⟩ hl hd K' hK
          have d18 := hd 18 (by decide)
          have hx := X47.out; subst hx
          have hx := X49.out; subst hx
          simp only [fill_eq, List.take_succ_cons, List.take_zero, List.cons_append, List.nil_append, Act.put, List.setIfInBounds_toArray, List.set_cons_zero, List.set_cons_succ, sel_of d18] at ha
          subst ha
          rw [if_neg (by intro h; exact absurd (show (false : Bool) = true from h) (by decide))]
          refine hK.out _ _ ⟨?_, hO⟩
          simp only [fill_eq, List.take_succ_cons, List.take_zero, List.cons_append, List.nil_append, Act.put, List.setIfInBounds_toArray, List.set_cons_zero, List.set_cons_succ, sel_new, sel_dep d18]
          rfl
      · as_aux_lemma =>
          rintro l a wr ⟨ha, hO⟩ hl hd K' hK
          have d18 := hd 18 (by decide)
          have hx := X47.out; subst hx
          have hx := X50.out; subst hx
          simp only [fill_eq, List.take_succ_cons, List.take_zero, List.cons_append, List.nil_append, Act.put, List.setIfInBounds_toArray, List.set_cons_zero, List.set_cons_succ, sel_of d18] at ha
          subst ha
          rw [if_neg (by intro h; exact absurd (show (false : Bool) = true from h) (by decide))]
          refine hK.out _ _ ⟨?_, hO⟩
          simp only [fill_eq, List.take_succ_cons, List.take_zero, List.cons_append, List.nil_append, Act.put, List.setIfInBounds_toArray, List.set_cons_zero, List.set_cons_succ, sel_new, sel_dep d18]
          rfl
      · as_aux_lemma =>
          rintro l a wr ⟨ha, hO⟩ hl hd K' hK
          have d18 := hd 18 (by decide)
          have hx := X47.out; subst hx
          have hx := X51.out; subst hx
          simp only [fill_eq, List.take_succ_cons, List.take_zero, List.cons_append, List.nil_append, Act.put, List.setIfInBounds_toArray, List.set_cons_zero, List.set_cons_succ, sel_of d18] at ha
          subst ha
          rw [if_neg (by intro h; exact absurd (show (false : Bool) = true from h) (by decide))]
          refine hK.out _ _ ⟨?_, hO⟩
          simp only [fill_eq, List.take_succ_cons, List.take_zero, List.cons_append, List.nil_append, Act.put, List.setIfInBounds_toArray, List.set_cons_zero, List.set_cons_succ, sel_new, sel_dep d18]
          rfl
      · as_aux_lemma =>
          rintro l a wr ⟨ha, hO⟩ hl hd K' hK
          have d9 := hd 9 (by decide)
          have d18 := hd 18 (by decide)
          have hx := X38.out; subst hx
          have hx := X47.out; subst hx
          have hx := X52.out; subst hx
          simp only [fill_eq, List.take_succ_cons, List.take_zero, List.cons_append, List.nil_append, Act.put, List.setIfInBounds_toArray, List.set_cons_zero, List.set_cons_succ, sel_of d9, sel_of d18] at ha
          subst ha
          rw [if_pos (by rfl)]
          go_simp
          refine hK.out _ _ ⟨?_, hO⟩
          simp only [fill_eq, List.take_succ_cons, List.take_zero, List.cons_append, List.nil_append, Act.put, List.setIfInBounds_toArray, List.set_cons_zero, List.set_cons_succ, sel_new, sel_dep d9, sel_dep d18]
          rfl
      · as_aux_lemma =>
          rintro l a wr ⟨ha, hO⟩ hl hd K' hK
          have d9 := hd 9 (by decide)
          have d23 := hd 23 (by decide)
          have hx := X38.out; subst hx
          have hx := X52.out; subst hx
          have hx := X53.out; subst hx
          simp only [fill_eq, List.take_succ_cons, List.take_zero, List.cons_append, List.nil_append, Act.put, List.setIfInBounds_toArray, List.set_cons_zero, List.set_cons_succ, sel_of d9, sel_of d23] at ha
          subst ha
          rw [if_pos (by rfl)]
          go_simp
          refine hK.out _ _ ⟨?_, hO⟩
          simp only [fill_eq, List.take_succ_cons, List.take_zero, List.cons_append, List.nil_append, Act.put, List.setIfInBounds_toArray, List.set_cons_zero, List.set_cons_succ, sel_new, sel_dep d9, sel_dep d23]
          rfl
      · as_aux_lemma =>
          rintro l a wr ⟨ha, hO⟩ hl hd K' hK
          have d24 := hd 24 (by decide)
          have hx := X53.out; subst hx
          have hx := X4.out; subst hx
          simp only [fill_eq, List.take_succ_cons, List.take_zero, List.cons_append, List.nil_append, Act.put, List.setIfInBounds_toArray, List.set_cons_zero, List.set_cons_succ, sel_of d24] at ha
          subst ha
          rw [if_pos (by rfl)]
          go_simp
          refine hK.out _ _ ⟨?_, hO⟩
          simp only [fill_eq, List.take_succ_cons, List.take_zero, List.cons_append, List.nil_append, Act.put, List.setIfInBounds_toArray, List.set_cons_zero, List.set_cons_succ, sel_new, sel_dep d24]
          rfl
      · rintro l a wz ⟨ha, hO⟩ hd
        simp only [fill_eq, List.take_succ_cons, List.take_zero, List.cons_append, List.nil_append, Act.put, List.setIfInBounds_toArray, List.set_cons_zero, List.set_cons_succ, sel_of (hd 0 (by decide)), sel_of (hd 1 (by decide)), sel_of (hd 2 (by decide)), sel_of (hd 3 (by decide)), sel_of (hd 4 (by decide)), sel_of (hd 5 (by decide)), sel_of (hd 6 (by decide)), sel_of (hd 7 (by decide)), sel_of (hd 8 (by decide)), sel_of (hd 9 (by decide)), sel_of (hd 10 (by decide)), sel_of (hd 11 (by decide)), sel_of (hd 12 (by decide)), sel_of (hd 13 (by decide)), sel_of (hd 14 (by decide)), sel_of (hd 15 (by decide)), sel_of (hd 16 (by decide)), sel_of (hd 17 (by decide)), sel_of (hd 18 (by decide)), sel_of (hd 19 (by decide)), sel_of (hd 20 (by decide)), sel_of (hd 21 (by decide)), sel_of (hd 22 (by decide)), sel_of (hd 23 (by decide)), sel_of (hd 24 (by decide)), sel_of (hd 25 (by decide))] at ha
        subst ha
        have hx := X4.out; subst hx
        have HOf := Lib.hid ((HOw6.out).trans hO (fun _ _ c => c))
        clear hO hd
        go_wp2
        go_ret
        exact ⟨rfl, HOf.out⟩
    · obtain ⟨hon', hu0⟩ := hnz hc0
      have e3 := EZ.out
      rw [hu0] at e3
      clear hz hnz hc0 hu0
      have hon2 := hon'.symm
      clear hon'
      subst hon2
      obtain ⟨x29, hx⟩ : ∃ x : Value, x = .bool true := ⟨_, rfl⟩
      have X29 := Lib.hid hx
      clear hx
      obtain ⟨x30, hx⟩ : ∃ x : Value, x = .bool true := ⟨_, rfl⟩
      have X30 := Lib.hid hx
      clear hx
      obtain ⟨x31, hx⟩ : ∃ x : Value, x = FV id p i r s := ⟨_, rfl⟩
      have X31 := Lib.hid hx
      clear hx
      obtain ⟨x32, hx⟩ : ∃ x : Value, x = V u := ⟨_, rfl⟩
      have X32 := Lib.hid hx
      clear hx
      obtain ⟨x33, hx⟩ : ∃ x : Value, x = V p := ⟨_, rfl⟩
      have X33 := Lib.hid hx
      clear hx
      obtain ⟨x34, hx⟩ : ∃ x : Value, x = V u := ⟨_, rfl⟩
      have X34 := Lib.hid hx
      clear hx
      obtain ⟨x35, hx⟩ : ∃ x : Value, x = V u := ⟨_, rfl⟩
      have X35 := Lib.hid hx
      clear hx
      obtain ⟨x36, hx⟩ : ∃ x : Value, x = .bool true := ⟨_, rfl⟩
      have X36 := Lib.hid hx
      clear hx
      obtain ⟨x37, hx⟩ : ∃ x : Value, x = .bool true := ⟨_, rfl⟩
      have X37 := Lib.hid hx
      clear hx
      obtain ⟨x38, hx⟩ : ∃ x : Value, x = .bool true := ⟨_, rfl⟩
      have X38 := Lib.hid hx
      clear hx
      obtain ⟨x39, hx⟩ : ∃ x : Value, x = V u := ⟨_, rfl⟩
      have X39 := Lib.hid hx
      clear hx
      obtain ⟨x40, hx⟩ : ∃ x : Value, x = .agg #[.int .u64 0, .int .u64 0, .int .u64 0, .int .u64 0] := ⟨_, rfl⟩
      have X40 := Lib.hid hx
      clear hx
      obtain ⟨x41, hx⟩ : ∃ x : Value, x = .bool false := ⟨_, rfl⟩
      have X41 := Lib.hid hx
      clear hx
      obtain ⟨x42, hx⟩ : ∃ x : Value, x = .bool false := ⟨_, rfl⟩
      have X42 := Lib.hid hx
      clear hx
      obtain ⟨x43, hx⟩ : ∃ x : Value, x = undef := ⟨_, rfl⟩
      have X43 := Lib.hid hx
      clear hx
      obtain ⟨x44, hx⟩ : ∃ x : Value, x = undef := ⟨_, rfl⟩
      have X44 := Lib.hid hx
      clear hx
      obtain ⟨x45, hx⟩ : ∃ x : Value, x = undef := ⟨_, rfl⟩
      have X45 := Lib.hid hx
      clear hx
      obtain ⟨x46, hx⟩ : ∃ x : Value, x = .bool false := ⟨_, rfl⟩
      have X46 := Lib.hid hx
      clear hx
      obtain ⟨x47, hx⟩ : ∃ x : Value, x = .bool false := ⟨_, rfl⟩
      have X47 := Lib.hid hx
      clear hx
      obtain ⟨x48, hx⟩ : ∃ x : Value, x = V r := ⟨_, rfl⟩
      have X48 := Lib.hid hx
      clear hx
      obtain ⟨x49, hx⟩ : ∃ x : Value, x = .pointer (some ⟨u0.heap.size, 6, none⟩) := ⟨_, rfl⟩
      have X49 := Lib.hid hx
      clear hx
      obtain ⟨x50, hx⟩ : ∃ x : Value, x = V r := ⟨_, rfl⟩
      have X50 := Lib.hid hx
      clear hx
      obtain ⟨x51, hx⟩ : ∃ x : Value, x = .bool true := ⟨_, rfl⟩
      have X51 := Lib.hid hx
      clear hx
      obtain ⟨x52, hx⟩ : ∃ x : Value, x = .bool true := ⟨_, rfl⟩
      have X52 := Lib.hid hx
      clear hx
      obtain ⟨x53, hx⟩ : ∃ x : Value, x = .bool true := ⟨_, rfl⟩
      have X53 := Lib.hid hx
      clear hx
      obtain ⟨x4, hx⟩ : ∃ x : Value, x = .bool true := ⟨_, rfl⟩
      have X4 := Lib.hid hx
      clear hx
      refine wp_region_inv (fun a0 l a' w' => a' = (Act.put (fill a0 29 [sel (l 0) x29 undef, sel (l 1) x30 undef, sel (l 2) x31 undef, sel (l 3) x32 undef, sel (l 4) x33 undef, sel (l 5) x34 undef, sel (l 6) x35 undef, sel (l 7) x36 undef, sel (l 8) x37 undef, sel (l 9) x38 undef, sel (l 10) x39 undef, sel (l 11) x40 undef, sel (l 12) x41 undef, sel (l 13) x42 undef, sel (l 14) x43 undef, sel (l 15) x44 undef, sel (l 16) x45 undef, sel (l 17) x46 undef, sel (l 18) x47 undef, sel (l 19) x48 undef, sel (l 20) x49 undef, sel (l 21) x50 undef, sel (l 22) x51 undef, sel (l 23) x52 undef, sel (l 24) x53 undef]) (some 4) (sel (l 25) x4 (.bool false))) ∧ Off (fun _ => False) W6 w') (by kernel_rfl) (by kernel_rfl) ?_ ⟨?_, ?_, ?_, ?_, ?_, ?_, ?_, ?_, ?_, ?_, ?_, ?_, ?_, ?_, ?_, ?_, ?_, ?_, ?_, ?_, ?_, ?_, ?_, ?_, ?_, ?_, trivial⟩ ?_
      · refine ⟨?_, (Off.refl _ W6).drew⟩
        simp only [fill_eq, List.take_succ_cons, List.take_zero, List.cons_append, List.nil_append, Act.put, List.setIfInBounds_toArray, List.set_cons_zero, List.set_cons_succ, sel_start]
      · as_aux_lemma =>
          rintro l a wr ⟨ha, hO⟩ hl hd K' hK
          have hx := X29.out; subst hx
          simp only [fill_eq, List.take_succ_cons, List.take_zero, List.cons_append, List.nil_append, Act.put, List.setIfInBounds_toArray, List.set_cons_zero, List.set_cons_succ] at ha
          subst ha
          rw [if_pos (by rfl)]
          go_simp
          refine (held_inv (FAL.out wr (HTW6.out wr hO)) hO).mono ?_
          rintro e w1 ⟨rfl, hO1, hOW⟩
          go_wp2_with fail
          refine hK.out _ _ ⟨?_, hO1⟩
          simp only [fill_eq, List.take_succ_cons, List.take_zero, List.cons_append, List.nil_append, Act.put, List.setIfInBounds_toArray, List.set_cons_zero, List.set_cons_succ, sel_new]
          rfl
      · as_aux_lemma =>
          rintro l a wr ⟨ha, hO⟩ hl hd K' hK
          have d0 := hd 0 (by decide)
          have hx := X29.out; subst hx
          have hx := X30.out; subst hx
          simp only [fill_eq, List.take_succ_cons, List.take_zero, List.cons_append, List.nil_append, Act.put, List.setIfInBounds_toArray, List.set_cons_zero, List.set_cons_succ, sel_of d0] at ha
          subst ha
          rw [if_pos (by rfl)]
          go_simp
          refine hK.out _ _ ⟨?_, hO⟩
          simp only [fill_eq, List.take_succ_cons, List.take_zero, List.cons_append, List.nil_append, Act.put, List.setIfInBounds_toArray, List.set_cons_zero, List.set_cons_succ, sel_new, sel_dep d0]
          rfl
      · as_aux_lemma =>
          rintro l a wr ⟨ha, hO⟩ hl hd K' hK
          have d1 := hd 1 (by decide)
          have hx := X30.out; subst hx
          have hx := X31.out; subst hx
          simp only [fill_eq, List.take_succ_cons, List.take_zero, List.cons_append, List.nil_append, Act.put, List.setIfInBounds_toArray, List.set_cons_zero, List.set_cons_succ, sel_of d1] at ha
          subst ha
          have hc := HK6.out wr hO
          have p0 := hc.1.1
          have p1 := hc.1.2.1
          have p2 := hc.1.2.2.1
          have p3 := hc.1.2.2.2.1
          have p4 := hc.1.2.2.2.2.1
          have p5 := hc.1.2.2.2.2.2.1
          have p6 := hc.1.2.2.2.2.2.2.1
          have p7 := hc.1.2.2.2.2.2.2.2.1
          have p8 := hc.1.2.2.2.2.2.2.2.2.1
          have p9 := hc.1.2.2.2.2.2.2.2.2.2.1
          have p10 := hc.1.2.2.2.2.2.2.2.2.2.2.1
          have p11 := hc.1.2.2.2.2.2.2.2.2.2.2.2.1
          have p12 := hc.1.2.2.2.2.2.2.2.2.2.2.2.2.1
          have p13 := hc.1.2.2.2.2.2.2.2.2.2.2.2.2.2
          clear hc
          rw [if_pos (by rfl)]
          go_simp
          refine hK.out _ _ ⟨?_, hO⟩
          simp only [fill_eq, List.take_succ_cons, List.take_zero, List.cons_append, List.nil_append, Act.put, List.setIfInBounds_toArray, List.set_cons_zero, List.set_cons_succ, sel_new, sel_dep d1]
          rfl
      · as_aux_lemma =>
          rintro l a wr ⟨ha, hO⟩ hl hd K' hK
          have d1 := hd 1 (by decide)
          have hx := X30.out; subst hx
          have hx := X32.out; subst hx
          simp only [fill_eq, List.take_succ_cons, List.take_zero, List.cons_append, List.nil_append, Act.put, List.setIfInBounds_toArray, List.set_cons_zero, List.set_cons_succ, sel_of d1] at ha
          subst ha
          have hc := HK6.out wr hO
          have p0 := hc.2.2.1.1
          have p1 := hc.2.2.1.2.1
          have p2 := hc.2.2.1.2.2.1
          have p3 := hc.2.2.1.2.2.2
          clear hc
          rw [if_pos (by rfl)]
          go_simp
          refine hK.out _ _ ⟨?_, hO⟩
          simp only [fill_eq, List.take_succ_cons, List.take_zero, List.cons_append, List.nil_append, Act.put, List.setIfInBounds_toArray, List.set_cons_zero, List.set_cons_succ, sel_new, sel_dep d1]
          rfl
      · as_aux_lemma =>
          rintro l a wr ⟨ha, hO⟩ hl hd K' hK
          have d1 := hd 1 (by decide)
          have hx := X30.out; subst hx
          have hx := X33.out; subst hx
          simp only [fill_eq, List.take_succ_cons, List.take_zero, List.cons_append, List.nil_append, Act.put, List.setIfInBounds_toArray, List.set_cons_zero, List.set_cons_succ, sel_of d1] at ha
          subst ha
          have hc := HK6.out wr hO
          have p0 := hc.2.1.1
          have p1 := hc.2.1.2.1
          have p2 := hc.2.1.2.2.1
          have p3 := hc.2.1.2.2.2
          clear hc
          rw [if_pos (by rfl)]
          go_simp
          refine hK.out _ _ ⟨?_, hO⟩
          simp only [fill_eq, List.take_succ_cons, List.take_zero, List.cons_append, List.nil_append, Act.put, List.setIfInBounds_toArray, List.set_cons_zero, List.set_cons_succ, sel_new, sel_dep d1]
          rfl
      · as_aux_lemma =>
          rintro l a wr ⟨ha, hO⟩ hl hd K' hK
          have d1 := hd 1 (by decide)
          have d2 := hd 2 (by decide)
          have d3 := hd 3 (by decide)
          have d4 := hd 4 (by decide)
          have hx := X30.out; subst hx
          have hx := X31.out; subst hx
          have hx := X32.out; subst hx
          have hx := X33.out; subst hx
          have hx := X34.out; subst hx
          simp only [fill_eq, List.take_succ_cons, List.take_zero, List.cons_append, List.nil_append, Act.put, List.setIfInBounds_toArray, List.set_cons_zero, List.set_cons_succ, sel_of d1, sel_of d2, sel_of d3, sel_of d4] at ha
          subst ha
          rw [if_pos (by rfl)]
          go_simp
          refine (held_inv (FQ.out wr (HTW6.out wr hO)) hO).mono ?_
          rintro e w1 ⟨rfl, hO1, hOW⟩
          go_wp2_with fail
          refine hK.out _ _ ⟨?_, hO1⟩
          simp only [fill_eq, List.take_succ_cons, List.take_zero, List.cons_append, List.nil_append, Act.put, List.setIfInBounds_toArray, List.set_cons_zero, List.set_cons_succ, sel_new, sel_dep d1, sel_dep d2, sel_dep d3, sel_dep d4]
          rfl
      · as_aux_lemma =>
          rintro l a wr ⟨ha, hO⟩ hl hd K' hK
          have d1 := hd 1 (by decide)
          have hx := X30.out; subst hx
          have hx := X35.out; subst hx
          simp only [fill_eq, List.take_succ_cons, List.take_zero, List.cons_append, List.nil_append, Act.put, List.setIfInBounds_toArray, List.set_cons_zero, List.set_cons_succ, sel_of d1] at ha
          subst ha
          have hc := HK6.out wr hO
          have p0 := hc.2.2.1.1
          have p1 := hc.2.2.1.2.1
          have p2 := hc.2.2.1.2.2.1
          have p3 := hc.2.2.1.2.2.2
          clear hc
          rw [if_pos (by rfl)]
          go_simp
          refine hK.out _ _ ⟨?_, hO⟩
          simp only [fill_eq, List.take_succ_cons, List.take_zero, List.cons_append, List.nil_append, Act.put, List.setIfInBounds_toArray, List.set_cons_zero, List.set_cons_succ, sel_new, sel_dep d1]
          rfl
      · as_aux_lemma =>
          rintro l a wr ⟨ha, hO⟩ hl hd K' hK
          have d1 := hd 1 (by decide)
          have d5 := hd 5 (by decide)
          have d6 := hd 6 (by decide)
          have hx := X30.out; subst hx
          have hx := X34.out; subst hx
          have hx := X35.out; subst hx
          have hx := X36.out; subst hx
          simp only [fill_eq, List.take_succ_cons, List.take_zero, List.cons_append, List.nil_append, Act.put, List.setIfInBounds_toArray, List.set_cons_zero, List.set_cons_succ, sel_of d1, sel_of d5, sel_of d6] at ha
          subst ha
          rw [if_pos (by rfl)]
          go_simp
          refine hK.out _ _ ⟨?_, hO⟩
          simp only [fill_eq, List.take_succ_cons, List.take_zero, List.cons_append, List.nil_append, Act.put, List.setIfInBounds_toArray, List.set_cons_zero, List.set_cons_succ, sel_new, sel_dep d1, sel_dep d5, sel_dep d6]
          rfl
      · as_aux_lemma =>
          rintro l a wr ⟨ha, hO⟩ hl hd K' hK
          have d1 := hd 1 (by decide)
          have d7 := hd 7 (by decide)
          have hx := X30.out; subst hx
          have hx := X36.out; subst hx
          have hx := X37.out; subst hx
          simp only [fill_eq, List.take_succ_cons, List.take_zero, List.cons_append, List.nil_append, Act.put, List.setIfInBounds_toArray, List.set_cons_zero, List.set_cons_succ, sel_of d1, sel_of d7] at ha
          subst ha
          rw [if_pos (by rfl)]
          go_simp
          refine hK.out _ _ ⟨?_, hO⟩
          simp only [fill_eq, List.take_succ_cons, List.take_zero, List.cons_append, List.nil_append, Act.put, List.setIfInBounds_toArray, List.set_cons_zero, List.set_cons_succ, sel_new, sel_dep d1, sel_dep d7]
          rfl
      · as_aux_lemma =>
          rintro l a wr ⟨ha, hO⟩ hl hd K' hK
          have d8 := hd 8 (by decide)
          have hx := X37.out; subst hx
          have hx := X38.out; subst hx
          simp only [fill_eq, List.take_succ_cons, List.take_zero, List.cons_append, List.nil_append, Act.put, List.setIfInBounds_toArray, List.set_cons_zero, List.set_cons_succ, sel_of d8] at ha
          subst ha
          rw [if_pos (by rfl)]
          go_simp
          refine hK.out _ _ ⟨?_, hO⟩
          simp only [fill_eq, List.take_succ_cons, List.take_zero, List.cons_append, List.nil_append, Act.put, List.setIfInBounds_toArray, List.set_cons_zero, List.set_cons_succ, sel_new, sel_dep d8]
          rfl
      · as_aux_lemma =>
          rintro l a wr ⟨ha, hO⟩ hl hd K' hK
          have d9 := hd 9 (by decide)
          have hx := X38.out; subst hx
          have hx := X39.out; subst hx
          simp only [fill_eq, List.take_succ_cons, List.take_zero, List.cons_append, List.nil_append, Act.put, List.setIfInBounds_toArray, List.set_cons_zero, List.set_cons_succ, sel_of d9] at ha
          subst ha
          have hc := HK6.out wr hO
          have p0 := hc.2.2.1.1
          have p1 := hc.2.2.1.2.1
          have p2 := hc.2.2.1.2.2.1
          have p3 := hc.2.2.1.2.2.2
          clear hc
          rw [if_pos (by rfl)]
          go_simp
          refine hK.out _ _ ⟨?_, hO⟩
          simp only [fill_eq, List.take_succ_cons, List.take_zero, List.cons_append, List.nil_append, Act.put, List.setIfInBounds_toArray, List.set_cons_zero, List.set_cons_succ, sel_new, sel_dep d9]
          rfl
      · as_aux_lemma =>
          rintro l a wr ⟨ha, hO⟩ hl hd K' hK
          have d9 := hd 9 (by decide)
          have hx := X38.out; subst hx
          have hx := X40.out; subst hx
          simp only [fill_eq, List.take_succ_cons, List.take_zero, List.cons_append, List.nil_append, Act.put, List.setIfInBounds_toArray, List.set_cons_zero, List.set_cons_succ, sel_of d9] at ha
          subst ha
          rw [if_pos (by rfl)]
          go_simp
          refine hK.out _ _ ⟨?_, hO⟩
          simp only [fill_eq, List.take_succ_cons, List.take_zero, List.cons_append, List.nil_append, Act.put, List.setIfInBounds_toArray, List.set_cons_zero, List.set_cons_succ, sel_new, sel_dep d9]
          rfl
      · as_aux_lemma =>
          rintro l a wr ⟨ha, hO⟩ hl hd K' hK
          have d9 := hd 9 (by decide)
          have d10 := hd 10 (by decide)
          have d11 := hd 11 (by decide)
          have hx := X38.out; subst hx
          have hx := X39.out; subst hx
          have hx := X40.out; subst hx
          have hx := X41.out; subst hx
          simp only [fill_eq, List.take_succ_cons, List.take_zero, List.cons_append, List.nil_append, Act.put, List.setIfInBounds_toArray, List.set_cons_zero, List.set_cons_succ, sel_of d9, sel_of d10, sel_of d11] at ha
          subst ha
          rw [if_pos (by rfl)]
          go_simp
          refine hK.out _ _ ⟨?_, hO⟩
          simp only [fill_eq, List.take_succ_cons, List.take_zero, List.cons_append, List.nil_append, Act.put, List.setIfInBounds_toArray, List.set_cons_zero, List.set_cons_succ, sel_new, sel_dep d9, sel_dep d10, sel_dep d11]
          rfl
      · as_aux_lemma =>
          rintro l a wr ⟨ha, hO⟩ hl hd K' hK
          have d9 := hd 9 (by decide)
          have d12 := hd 12 (by decide)
          have hx := X38.out; subst hx
          have hx := X41.out; subst hx
          have hx := X42.out; subst hx
          simp only [fill_eq, List.take_succ_cons, List.take_zero, List.cons_append, List.nil_append, Act.put, List.setIfInBounds_toArray, List.set_cons_zero, List.set_cons_succ, sel_of d9, sel_of d12] at ha
          subst ha
          rw [if_pos (by rfl)]
          go_simp
          refine hK.out _ _ ⟨?_, hO⟩
          simp only [fill_eq, List.take_succ_cons, List.take_zero, List.cons_append, List.nil_append, Act.put, List.setIfInBounds_toArray, List.set_cons_zero, List.set_cons_succ, sel_new, sel_dep d9, sel_dep d12]
          rfl
      · as_aux_lemma =>
          rintro l a wr ⟨ha, hO⟩ hl hd K' hK
          have d13 := hd 13 (by decide)
          have hx := X42.out; subst hx
          have hx := X43.out; subst hx
          simp only [fill_eq, List.take_succ_cons, List.take_zero, List.cons_append, List.nil_append, Act.put, List.setIfInBounds_toArray, List.set_cons_zero, List.set_cons_succ, sel_of d13] at ha
          subst ha
          rw [if_neg (by intro h; exact absurd (show (false : Bool) = true from h) (by decide))]
          refine hK.out _ _ ⟨?_, hO⟩
          simp only [fill_eq, List.take_succ_cons, List.take_zero, List.cons_append, List.nil_append, Act.put, List.setIfInBounds_toArray, List.set_cons_zero, List.set_cons_succ, sel_new, sel_dep d13]
          rfl
      · as_aux_lemma =>
          rintro l a wr ⟨ha, hO⟩ hl hd K' hK
          have d13 := hd 13 (by decide)
          have hx := X42.out; subst hx
          have hx := X44.out; subst hx
          simp only [fill_eq, List.take_succ_cons, List.take_zero, List.cons_append, List.nil_append, Act.put, List.setIfInBounds_toArray, List.set_cons_zero, List.set_cons_succ, sel_of d13] at ha
          subst ha
          rw [if_neg (by intro h; exact absurd (show (false : Bool) = true from h) (by decide))]
          refine hK.out _ _ ⟨?_, hO⟩
          simp only [fill_eq, List.take_succ_cons, List.take_zero, List.cons_append, List.nil_append, Act.put, List.setIfInBounds_toArray, List.set_cons_zero, List.set_cons_succ, sel_new, sel_dep d13]
          rfl
      · as_aux_lemma =>
          rintro l a wr ⟨ha, hO⟩ hl hd K' hK
          have d13 := hd 13 (by decide)
          have hx := X42.out; subst hx
          have hx := X45.out; subst hx
          simp only [fill_eq, List.take_succ_cons, List.take_zero, List.cons_append, List.nil_append, Act.put, List.setIfInBounds_toArray, List.set_cons_zero, List.set_cons_succ, sel_of d13] at ha
          subst ha
          rw [if_neg (by intro h; exact absurd (show (false : Bool) = true from h) (by decide))]
          refine hK.out _ _ ⟨?_, hO⟩
          simp only [fill_eq, List.take_succ_cons, List.take_zero, List.cons_append, List.nil_append, Act.put, List.setIfInBounds_toArray, List.set_cons_zero, List.set_cons_succ, sel_new, sel_dep d13]
          rfl
      · as_aux_lemma =>
          rintro l a wr ⟨ha, hO⟩ hl hd K' hK
          have d9 := hd 9 (by decide)
          have d13 := hd 13 (by decide)
          have hx := X38.out; subst hx
          have hx := X42.out; subst hx
          have hx := X46.out; subst hx
          simp only [fill_eq, List.take_succ_cons, List.take_zero, List.cons_append, List.nil_append, Act.put, List.setIfInBounds_toArray, List.set_cons_zero, List.set_cons_succ, sel_of d9, sel_of d13] at ha
          subst ha
          rw [if_pos (by rfl)]
          go_simp
          refine hK.out _ _ ⟨?_, hO⟩
          simp only [fill_eq, List.take_succ_cons, List.take_zero, List.cons_append, List.nil_append, Act.put, List.setIfInBounds_toArray, List.set_cons_zero, List.set_cons_succ, sel_new, sel_dep d9, sel_dep d13]
          rfl
      · as_aux_lemma =>
          rintro l a wr ⟨ha, hO⟩ hl hd K' hK
          have d9 := hd 9 (by decide)
          have d17 := hd 17 (by decide)
          have hx := X38.out; subst hx
          have hx := X46.out; subst hx
          have hx := X47.out; subst hx
          simp only [fill_eq, List.take_succ_cons, List.take_zero, List.cons_append, List.nil_append, Act.put, List.setIfInBounds_toArray, List.set_cons_zero, List.set_cons_succ, sel_of d9, sel_of d17] at ha
          subst ha
          rw [if_pos (by rfl)]
          go_simp
          refine hK.out _ _ ⟨?_, hO⟩
          simp only [fill_eq, List.take_succ_cons, List.take_zero, List.cons_append, List.nil_append, Act.put, List.setIfInBounds_toArray, List.set_cons_zero, List.set_cons_succ, sel_new, sel_dep d9, sel_dep d17]
          rfl
      · as_aux_lemma =>
          rintro l a wr ⟨ha, hO⟩ hl hd K' hK
          have d18 := hd 18 (by decide)
          have hx := X47.out; subst hx
          have hx := X48.out; subst hx
          simp only [fill_eq, List.take_succ_cons, List.take_zero, List.cons_append, List.nil_append, Act.put, List.setIfInBounds_toArray, List.set_cons_zero, List.set_cons_succ, sel_of d18] at ha
          subst ha
          have hc := HK6.out wr hO
          have p0 := hc.2.2.2.1.1
          have p1 := hc.2.2.2.1.2.1
          have p2 := hc.2.2.2.1.2.2.1
          have p3 := hc.2.2.2.1.2.2.2
          clear hc
          rw [if_pos (by rfl)]
          go_simp
          refine hK.out _ _ ⟨?_, hO⟩
          simp only [fill_eq, List.take_succ_cons, List.take_zero, List.cons_append, List.nil_append, Act.put, List.setIfInBounds_toArray, List.set_cons_zero, List.set_cons_succ, sel_new, sel_dep d18]
          rfl
      · as_aux_lemma =>
          rintro l a wr ⟨ha, hO⟩ hl hd K' hK
          have d18 := hd 18 (by decide)
          have hx := X47.out; subst hx
          have hx := X49.out; subst hx
          simp only [fill_eq, List.take_succ_cons, List.take_zero, List.cons_append, List.nil_append, Act.put, List.setIfInBounds_toArray, List.set_cons_zero, List.set_cons_succ, sel_of d18] at ha
          subst ha
          rw [if_pos (by rfl)]
          go_simp
          refine hK.out _ _ ⟨?_, hO⟩
          simp only [fill_eq, List.take_succ_cons, List.take_zero, List.cons_append, List.nil_append, Act.put, List.setIfInBounds_toArray, List.set_cons_zero, List.set_cons_succ, sel_new, sel_dep d18]
          rfl
      · as_aux_lemma =>
          rintro l a wr ⟨ha, hO⟩ hl hd K' hK
          have d18 := hd 18 (by decide)
          have d20 := hd 20 (by decide)
          have hx := X47.out; subst hx
          have hx := X49.out; subst hx
          have hx := X50.out; subst hx
          simp only [fill_eq, List.take_succ_cons, List.take_zero, List.cons_append, List.nil_append, Act.put, List.setIfInBounds_toArray, List.set_cons_zero, List.set_cons_succ, sel_of d18, sel_of d20] at ha
          subst ha
          have hc := HK6.out wr hO
          have p0 := hc.1.1
          have p1 := hc.1.2.1
          have p2 := hc.1.2.2.1
          have p3 := hc.1.2.2.2.1
          have p4 := hc.1.2.2.2.2.1
          have p5 := hc.1.2.2.2.2.2.1
          have p6 := hc.1.2.2.2.2.2.2.1
          have p7 := hc.1.2.2.2.2.2.2.2.1
          have p8 := hc.1.2.2.2.2.2.2.2.2.1
          have p9 := hc.1.2.2.2.2.2.2.2.2.2.1
          have p10 := hc.1.2.2.2.2.2.2.2.2.2.2.1
          have p11 := hc.1.2.2.2.2.2.2.2.2.2.2.2.1
          have p12 := hc.1.2.2.2.2.2.2.2.2.2.2.2.2.1
          have p13 := hc.1.2.2.2.2.2.2.2.2.2.2.2.2.2
          clear hc
          rw [if_pos (by rfl)]
          go_simp
          refine hK.out _ _ ⟨?_, hO⟩
          simp only [fill_eq, List.take_succ_cons, List.take_zero, List.cons_append, List.nil_append, Act.put, List.setIfInBounds_toArray, List.set_cons_zero, List.set_cons_succ, sel_new, sel_dep d18, sel_dep d20]
          rfl
      · as_aux_lemma =>
          rintro l a wr ⟨ha, hO⟩ hl hd K' hK
          have d18 := hd 18 (by decide)
          have d19 := hd 19 (by decide)
          have d21 := hd 21 (by decide)
          have hx := X47.out; subst hx
          have hx := X48.out; subst hx
          have hx := X50.out; subst hx
          have hx := X51.out; subst hx
          simp only [fill_eq, List.take_succ_cons, List.take_zero, List.cons_append, List.nil_append, Act.put, List.setIfInBounds_toArray, List.set_cons_zero, List.set_cons_succ, sel_of d18, sel_of d19, sel_of d21] at ha
          subst ha
          rw [if_pos (by rfl)]
          go_simp
          refine hK.out _ _ ⟨?_, hO⟩
          simp only [fill_eq, List.take_succ_cons, List.take_zero, List.cons_append, List.nil_append, Act.put, List.setIfInBounds_toArray, List.set_cons_zero, List.set_cons_succ, sel_new, sel_dep d18, sel_dep d19, sel_dep d21]
          rfl
      · as_aux_lemma =>
          rintro l a wr ⟨ha, hO⟩ hl hd K' hK
          have d9 := hd 9 (by decide)
          have d18 := hd 18 (by decide)
          have d22 := hd 22 (by decide)
          have hx := X38.out; subst hx
          have hx := X47.out; subst hx
          have hx := X51.out; subst hx
          have hx := X52.out; subst hx
          simp only [fill_eq, List.take_succ_cons, List.take_zero, List.cons_append, List.nil_append, Act.put, List.setIfInBounds_toArray, List.set_cons_zero, List.set_cons_succ, sel_of d9, sel_of d18, sel_of d22] at ha
          subst ha
          rw [if_pos (by rfl)]
          go_simp
          refine hK.out _ _ ⟨?_, hO⟩
          simp only [fill_eq, List.take_succ_cons, List.take_zero, List.cons_append, List.nil_append, Act.put, List.setIfInBounds_toArray, List.set_cons_zero, List.set_cons_succ, sel_new, sel_dep d9, sel_dep d18, sel_dep d22]
          rfl
      · as_aux_lemma =>
          rintro l a wr ⟨ha, hO⟩ hl hd K' hK
          have d9 := hd 9 (by decide)
          have d23 := hd 23 (by decide)
          have hx := X38.out; subst hx
          have hx := X52.out; subst hx
          have hx := X53.out; subst hx
          simp only [fill_eq, List.take_succ_cons, List.take_zero, List.cons_append, List.nil_append, Act.put, List.setIfInBounds_toArray, List.set_cons_zero, List.set_cons_succ, sel_of d9, sel_of d23] at ha
          subst ha
          rw [if_pos (by rfl)]
          go_simp
          refine hK.out _ _ ⟨?_, hO⟩
          simp only [fill_eq, List.take_succ_cons, List.take_zero, List.cons_append, List.nil_append, Act.put, List.setIfInBounds_toArray, List.set_cons_zero, List.set_cons_succ, sel_new, sel_dep d9, sel_dep d23]
          rfl
      · as_aux_lemma =>
          rintro l a wr ⟨ha, hO⟩ hl hd K' hK
          have d24 := hd 24 (by decide)
          have hx := X53.out; subst hx
          have hx := X4.out; subst hx
          simp only [fill_eq, List.take_succ_cons, List.take_zero, List.cons_append, List.nil_append, Act.put, List.setIfInBounds_toArray, List.set_cons_zero, List.set_cons_succ, sel_of d24] at ha
          subst ha
          rw [if_pos (by rfl)]
          go_simp
          refine hK.out _ _ ⟨?_, hO⟩
          simp only [fill_eq, List.take_succ_cons, List.take_zero, List.cons_append, List.nil_append, Act.put, List.setIfInBounds_toArray, List.set_cons_zero, List.set_cons_succ, sel_new, sel_dep d24]
          rfl
      · rintro l a wz ⟨ha, hO⟩ hd
        simp only [fill_eq, List.take_succ_cons, List.take_zero, List.cons_append, List.nil_append, Act.put, List.setIfInBounds_toArray, List.set_cons_zero, List.set_cons_succ, sel_of (hd 0 (by decide)), sel_of (hd 1 (by decide)), sel_of (hd 2 (by decide)), sel_of (hd 3 (by decide)), sel_of (hd 4 (by decide)), sel_of (hd 5 (by decide)), sel_of (hd 6 (by decide)), sel_of (hd 7 (by decide)), sel_of (hd 8 (by decide)), sel_of (hd 9 (by decide)), sel_of (hd 10 (by decide)), sel_of (hd 11 (by decide)), sel_of (hd 12 (by decide)), sel_of (hd 13 (by decide)), sel_of (hd 14 (by decide)), sel_of (hd 15 (by decide)), sel_of (hd 16 (by decide)), sel_of (hd 17 (by decide)), sel_of (hd 18 (by decide)), sel_of (hd 19 (by decide)), sel_of (hd 20 (by decide)), sel_of (hd 21 (by decide)), sel_of (hd 22 (by decide)), sel_of (hd 23 (by decide)), sel_of (hd 24 (by decide)), sel_of (hd 25 (by decide))] at ha
        subst ha
        have hx := X4.out; subst hx
        have HOf := Lib.hid ((HOw6.out).trans hO (fun _ _ c => c))
        clear hO hd
        go_wp2
        go_ret
        exact ⟨rfl, HOf.out⟩

theorem door_met (os : Os) (args : Array Value) : laidMetH Tryd.prog [("sharecore/field.fields", Rows.laid_sharecore_field_fields)] ((World.doorLaid Tryd.prog 400 os).forCall (fun _ _ => 0) ⟨#[], args, []⟩).memory :=
  laidMetH_of_parts3 (fuel := 8) (laidMet_of_run' 8 (by kernel_rfl) (by kernel_rfl)) (by kernel_rfl) (by kernel_rfl)

set_option maxRecDepth 100000 in
theorem lifted (os : Os) (started : os.Started) (H : Type) (enc : TypeId × Value → H) :
    ReturnsInHanded {} Tryd.checked os 8 .any (fun w args => (Rows.powerFermatSpec.pre enc Tryd.prog Tryd.f8 [] false w args ∧ laidMetH Tryd.prog [("sharecore/field.fields", Rows.laid_sharecore_field_fields)] w) ∧ sizedMet enc Tryd.prog Tryd.f8 (OpenSpec.ofChange Rows.powerFermatSpec) false w args)
      (Rows.powerFermatSpec.post enc Tryd.prog Tryd.f8 false true false false) := by
  refine returnsInHanded_of_change_and (C := Tryd.checked) (X := fun w _ => laidMetH Tryd.prog [("sharecore/field.fields", Rows.laid_sharecore_field_fields)] w) (fun _ _ _ hh h => h.of_heap hh) own started (by kernel_rfl) Tryd.func8
    (ChangeSpec.witness_shaped (enc := enc) (C := Tryd.checked) (os := os) (X := fun w _ => laidMetH Tryd.prog [("sharecore/field.fields", Rows.laid_sharecore_field_fields)] w) false (World.doorLaid Tryd.prog 400 os) #[.bool false, .agg #[.int .u64 0, .int .u64 0, .int .u64 0, .int .u64 0]] 8 rfl (World.shaped_of_RefB (by kernel_rfl) (by kernel_rfl)) (by kernel_rfl) (by kernel_rfl) (by kernel_rfl) (door_met os _)) ?_
  intro W base args ds gs before hval0 hW _ _ hL _
  have hval : ∀ (j : Nat) t v, Tryd.f8.params[j]? = some t → args[j]? = some v → Value.okWide Tryd.prog W .any base t v := hval0
  have hW' := hW
  obtain ⟨p, q, hA0, hV, rfl, hfz, hnd⟩ := hW
  have hA : DataW.TrodAll enc Tryd.prog W 0 (fun _ => true) true Tryd.f8.params.toList args.toList ds p := hA0
  rw [Tryd.params8] at hA hval
  obtain ⟨v0, vs0, d0, ds0, p0, q0, hargs, rfl, rfl, h0, r0⟩ := trodAll_cons hA
  obtain ⟨v1, vs1, d1, ds1, p1, q1, rfl, rfl, rfl, h1, r1⟩ := trodAll_cons r0
  obtain ⟨rfl, rfl, rfl⟩ := trodAll_nil r1
  obtain rfl : args = #[v0, v1] := by cases args; simp_all
  obtain ⟨rfl, rfl⟩ := trodVars_none hV
  obtain ⟨i0, rfl, rfl, rfl⟩ := open_bool Tryd.underlying4 (hval 0 4 v0 rfl rfl) h0
  have w0 := trivial
  have k1 := h1
  have lt1 : ∀ x ∈ p1, x.block < W.heap.size := by obtain ⟨m, hm⟩ := k1; exact DataW.trod_lt m _ _ _ hm
  obtain ⟨n1, w1, rfl⟩ := open_vec (hval 1 23 v1 rfl rfl) h1
  have hT := tab_of_laid hL
  clear hA0 hval0
  refine (walk i0 n1 W w0 w1 hT).mono fun e W' ⟨he, hoff⟩ => ?_
  have bel : Below W.heap.size W W' := hoff.below (Nat.le_refl _) (fun _ _ c => c)
  subst he
  exact ⟨_, rfl, _, _, _, [], _, [], hW', trodAll_mk1 (shut_bool Tryd.underlying4 _), (trodAll_cons_mk (shut_bool Tryd.underlying4 _) (trodAll_cons_mk (Below.trod laidOut (by kernel_rfl) (of_decide_eq_true (by kernel_rfl)) k1 bel lt1) trodAll_mk0)), rfl, bel.frame _, fun h => by cases h⟩

theorem over : Rows.powerFermatRow.holds Tryd.pinned (OpenSpec.ofChange Rows.powerFermatSpec) :=
  OpenClaim.holds_of_wide 8 Tryd.f8 rfl rfl rfl rfl rfl rfl rfl ⟨rfl, rfl, rfl, rfl, rfl⟩ rfl rfl rfl rfl rfl (by kernel_rfl) Tryd.func8 (by kernel_rfl)
    (of_decide_eq_true (by kernel_rfl)) (by unfold Func.isWrapper; first | (rw [if_pos (by decide +kernel)]; kernel_rfl) | (rw [if_neg (by decide +kernel)]; exact ⟨rfl, rfl⟩))
    (fun os started H enc _ => lifted os started H enc)

theorem proved : Rows.PowerFermatCardSaid :=
  Claim7.holds_tied_plain_at .later [] [.data] true (true, "83b913165a27ef716bd447b61373d9eb70f4ac054efc4ed5ca269b7b66cbbef5") false
    over (fun _ h => by cases h) (by kernel_rfl) (fun _ h => by cases h) powerFermat_row_tie rfl ⟨rfl, rfl⟩ (by kernel_rfl) rfl
    (fun f fn hf hfn => by
      obtain rfl : f = 8 := Option.some.inj ((show Tryd.prog.funcNamed "sharecore/sharecorelaw06.PowerFermat" = some 8 by kernel_rfl).symm.trans hf) |>.symm
      obtain rfl : fn = Tryd.f8 := (Option.some.inj (Tryd.func8.symm.trans hfn)).symm
      exact ⟨by kernel_rfl, fun j t ht => by
        rw [Tryd.params8] at ht
        have hm : t ∈ [4, 23] := by simpa using Array.mem_of_getElem? ht
        have hall : ([4, 23].all fun u => !Tryd.prog.wantsStandIn u) = true := by kernel_rfl
        exact (show Tryd.prog.wantsStandIn t = false by simpa using List.all_eq_true.1 hall t hm)⟩)
    (by kernel_rfl)
#print axioms proved
end Go.Proofs.YtnegdlmpmmehmaaDoor.powerFermat
