/-
  For every field and number, the examples of the chapter hold, and the product of the value and its inverse is 1, or the inverse is 0; the inverse's inverse is the element: the statement of P6.2. No condition.
-/
import Derived.Test.YtnegdlmpmmehmaaDoorRows
import Derived.Test.YtnegdlmpmmehmaaDoorTie
import Derived.Test.YtnegdlmpmmehmaaDoorCards
import Derived.LaidMore
import Derived.LaidHandle
import Derived.SevenTiedAt
import Derived.Stop.Joined
import Derived.JoinedOf
import Derived.Test.YtnegdlmpmmehmaaDoorLimbOpen
import Derived.Test.YtnegdlmpmmehmaaDoorFieldTab
import Derived.Test.YtnegdlmpmmehmaaDoorFieldHeld
import Derived.Test.YtnegdlmpmmehmaaDoorPowBase
import Derived.Test.YtnegdlmpmmehmaaDoorInvMem
import Derived.Test.YtnegdlmpmmehmaaDoorInvSel
import Derived.WalkKit
import Derived.ProofKit
import Derived.OpenShut
import Derived.ShutString
import Derived.ChangeOld
import Derived.Below
namespace Go.Proofs.YtnegdlmpmmehmaaDoor.powerInverts
open Go.ChangeShapes Go.WideShapes Go.ChangeAt Go.RowKit
set_option linter.unusedVariables false

theorem own : ownKnob Tryd.prog.godebug = none := by kernel_rfl
theorem laidOut : laidOutB Tryd.prog = true := by kernel_rfl

set_option maxRecDepth 100000 in
set_option maxHeartbeats 4000000 in
theorem walk (i0 : Bool) (n1 : Nat) (w : World) (w0 : True) (w1 : n1 < R256) (hT : TabAt w) :
    Calls Tryd.prog 4 #[.bool i0, V n1] w fun e w' => e = .returned (.bool true) ∧ Off (fun _ => False) w w' := by
  obtain ⟨id, p, i, r, s, hF, hid⟩ := fld_of i0
  have hp := hF.mp.lt
  have h1 := hF.mp.one
  have FG := Lib.hid (fun W hT => get6_any i0 hF hid W hT)
  obtain ⟨c, hx⟩ : ∃ c, c = n1 % p := ⟨_, rfl⟩
  have hxp : c < p := by rw [hx]; exact Nat.mod_lt _ (by omega)
  have hxR : c < R256 := by omega
  have FMo : Hid (∀ W, TabAt W → Calls Tryd.prog 10 #[V p, V n1] W fun e w' => e = .returned (V c) ∧ Off (fun _ => False) W w') := Lib.hid (fun W hT => by rw [hx]; exact mod_mod p n1 hp h1 w1 W)
  have FAL : Hid (∀ W, TabAt W → Calls Tryd.prog 11 #[] W fun e w' => e = .returned (.bool true) ∧ Off (fun _ => False) W w') := Lib.hid (fun W hT => alive6_any W hT)
  obtain ⟨hodd, hfer, hp3⟩ := fld_more hF
  obtain ⟨u, hu⟩ : ∃ u, u = fm p c := ⟨_, rfl⟩
  have huR : u < p := by rw [hu]; exact fm_lt (by omega) _
  obtain ⟨y, hy⟩ : ∃ y, y = c ^ (p - 2) % p := ⟨_, rfl⟩
  have hyp : y < p := by rw [hy]; exact Nat.mod_lt _ (by omega)
  obtain ⟨v, hv⟩ : ∃ v, v = fm p y := ⟨_, rfl⟩
  have hvp : v < p := by rw [hv]; exact fm_lt (by omega) _
  have hyc : c = 0 → y = c := fun h => by rw [hy, h, inv_zero hp3]
  have FX : Hid (∀ W, TabAt W → Calls Tryd.prog 13 #[V p, V c] W fun e w' => e = .returned (V u) ∧ Off (fun _ => False) W w') := Lib.hid (fun W hT => by rw [hu]; exact form6_any p c hp h1 hxR W)
  have FY : Hid (∀ W, TabAt W → Calls Tryd.prog 13 #[V p, V y] W fun e w' => e = .returned (V v) ∧ Off (fun _ => False) W w') := Lib.hid (fun W hT => by rw [hv]; exact form6_any p y hp h1 (by omega) W)
  have FI : Hid (∀ W, TabAt W → Calls Tryd.prog 16 #[.pointer none, FV id p i r s, V u] W fun e w' => e = .returned (V v) ∧ Off (fun _ => False) W w') := Lib.hid (fun W hT => by rw [hu, hv, hy]; exact inverse_nil hF c W)
  have FJ : Hid (∀ W, TabAt W → Calls Tryd.prog 16 #[.pointer none, FV id p i r s, V v] W fun e w' => e = .returned (V u) ∧ Off (fun _ => False) W w') := Lib.hid (fun W hT => by have h := inverse_nil hF y W; rw [hy, inv_inv hp3 hfer hxp, ← hu, ← hy, ← hv] at h; exact h)
  have FVl : Hid (∀ W, TabAt W → Calls Tryd.prog 15 #[V p, V v] W fun e w' => e = .returned (V y) ∧ Off (fun _ => False) W w') := Lib.hid (fun W hT => by have h := value_any p v hF.mp hodd hvp W; rw [hv, mm_one hF.mp, Nat.mod_eq_of_lt hyp, ← hv] at h; exact h)
  have FM : Hid (c ≠ 0 → ∀ W, TabAt W → Calls Tryd.prog 17 #[V p, V c, V y] W fun e w' => e = .returned (.agg #[.int .u64 1, .int .u64 0, .int .u64 0, .int .u64 0]) ∧ Off (fun _ => False) W w') := Lib.hid (fun hc W hT => by have h := mod_mul p c y hp h1 hxp (by omega) W; rw [hy, inv_mul h1 hfer (by rw [Nat.mod_eq_of_lt hxp]; exact hc), ← hy, lit_small 1 (by decide)] at h; exact h)
  have e4 : ∀ W, (Op.equalIn 10000 23 (.agg #[.int .u64 1, .int .u64 0, .int .u64 0, .int .u64 0]) (.agg #[.int .u64 1, .int .u64 0, .int .u64 0, .int .u64 0])).run Tryd.prog W = .ok true W := fun W => by rw [equalIn_four]; simp
  have EZ : Hid (∀ W, (Op.equalIn 10000 23 (V c) (.agg #[.int .u64 0, .int .u64 0, .int .u64 0, .int .u64 0])).run Tryd.prog W = .ok (eqN c 0) W) := Lib.hid (fun W => by have h := equalIn_num hxR (show 0 < R256 by decide) W; rw [lit_small 0 (by decide)] at h; exact h)
  clear hx hxp hxR hu huR hy hyp hv hvp hodd hfer hp3 hF hid hp h1 w0 w1
  have e1 := equalIn_elem_same
  have e2 := equalIn_same
  go_enter Tryd.func4, Tryd.ntmps4
  go_wp2_with fail
  refine (FG.out _ (hT.off ((Off.refl _ w).alloc _))).mono ?_
  rintro e u0 ⟨rfl, hO1⟩
  have hO0 : Off (fun _ => False) w u0 := ((Off.refl _ w).alloc _).trans hO1 (fun _ _ c => c)
  have hn1c : u0.heap[w.heap.size]? = some (.cells #[.int .u64 (wd n1 0 : Int), .int .u64 (wd n1 1 : Int), .int .u64 (wd n1 2 : Int), .int .u64 (wd n1 3 : Int)] 23) := hO1.heap (heap_new' rfl _) (fun c => c)
  obtain ⟨W1, eW1⟩ : ∃ W1, W1 = (((u0).alloc (.cells #[.int .i64 id, .int .u64 (wd p 0 : Int), .int .u64 (wd p 1 : Int), .int .u64 (wd p 2 : Int), .int .u64 (wd p 3 : Int), .int .u64 (i : Int), .int .u64 (wd r 0 : Int), .int .u64 (wd r 1 : Int), .int .u64 (wd r 2 : Int), .int .u64 (wd r 3 : Int), .int .u64 (wd s 0 : Int), .int .u64 (wd s 1 : Int), .int .u64 (wd s 2 : Int), .int .u64 (wd s 3 : Int)] 26)).alloc (.cells #[.int .u64 (wd p 0 : Int), .int .u64 (wd p 1 : Int), .int .u64 (wd p 2 : Int), .int .u64 (wd p 3 : Int)] 23)) := ⟨_, rfl⟩
  have oW1 : Off (fun _ => False) u0 W1 := by rw [eW1]; exact ((Off.refl _ u0).alloc _).alloc _
  have hFc : W1.heap[u0.heap.size]? = some (.cells #[.int .i64 id, .int .u64 (wd p 0 : Int), .int .u64 (wd p 1 : Int), .int .u64 (wd p 2 : Int), .int .u64 (wd p 3 : Int), .int .u64 (i : Int), .int .u64 (wd r 0 : Int), .int .u64 (wd r 1 : Int), .int .u64 (wd r 2 : Int), .int .u64 (wd r 3 : Int), .int .u64 (wd s 0 : Int), .int .u64 (wd s 1 : Int), .int .u64 (wd s 2 : Int), .int .u64 (wd s 3 : Int)] 26) := by rw [eW1]; exact heap_old' (heap_new' rfl _) _
  have hPc : W1.heap[u0.heap.size + 1]? = some (.cells #[.int .u64 (wd p 0 : Int), .int .u64 (wd p 1 : Int), .int .u64 (wd p 2 : Int), .int .u64 (wd p 3 : Int)] 23) := by rw [eW1]; exact heap_new' (by simp) _
  have hn1c1 := oW1.heap hn1c (fun c => c)
  obtain ⟨a0, a1, a2, a3⟩ := cells4 hn1c1
  obtain ⟨p0, p1, p2, p3⟩ := cells4 hPc
  have l0 := heap_lt hn1c
  have l1 := heap_lt hPc
  have HT1 := Lib.hid (hT.off (hO0.trans oW1 (fun _ _ c => c)))
  have HO1 := Lib.hid (hO0.trans oW1 (fun _ _ c => c))
  have HW1 := Lib.hid eW1
  have HFc := Lib.hid hFc
  have HPc := Lib.hid hPc
  clear hO1 hO0 hn1c hn1c1 hFc hPc eW1 oW1
  go_upto_region 2 with fail
  rw [← HW1.out]
  go_wp2_with fail
  refine (FMo.out _ HT1.out).mono ?_
  rintro e u1 ⟨rfl, hO2⟩
  clear a0 a1 a2 a3 p0 p1 p2 p3
  obtain ⟨W2, eW2⟩ : ∃ W2, W2 = ((u1).alloc (.cells #[.int .u64 (wd c 0 : Int), .int .u64 (wd c 1 : Int), .int .u64 (wd c 2 : Int), .int .u64 (wd c 3 : Int)] 23)) := ⟨_, rfl⟩
  have oW2 : Off (fun _ => False) u1 W2 := by rw [eW2]; exact (Off.refl _ u1).alloc _
  have hXk : W2.heap[u1.heap.size]? = some (.cells #[.int .u64 (wd c 0 : Int), .int .u64 (wd c 1 : Int), .int .u64 (wd c 2 : Int), .int .u64 (wd c 3 : Int)] 23) := by rw [eW2]; exact heap_new' rfl _
  have hOx := hO2.trans oW2 (fun _ _ c => c)
  have hFk := hOx.heap HFc.out (fun c => c)
  have hPk := hOx.heap HPc.out (fun c => c)
  have HK3 : Hid (∀ W, Off (fun _ => False) W2 W → (W.cell? ⟨u0.heap.size, 0, none⟩ = some (.int .i64 id) ∧ W.cell? ⟨u0.heap.size, 1, none⟩ = some (.int .u64 (wd p 0 : Int)) ∧ W.cell? ⟨u0.heap.size, 2, none⟩ = some (.int .u64 (wd p 1 : Int)) ∧ W.cell? ⟨u0.heap.size, 3, none⟩ = some (.int .u64 (wd p 2 : Int)) ∧ W.cell? ⟨u0.heap.size, 4, none⟩ = some (.int .u64 (wd p 3 : Int)) ∧ W.cell? ⟨u0.heap.size, 5, none⟩ = some (.int .u64 (i : Int)) ∧ W.cell? ⟨u0.heap.size, 6, none⟩ = some (.int .u64 (wd r 0 : Int)) ∧ W.cell? ⟨u0.heap.size, 7, none⟩ = some (.int .u64 (wd r 1 : Int)) ∧ W.cell? ⟨u0.heap.size, 8, none⟩ = some (.int .u64 (wd r 2 : Int)) ∧ W.cell? ⟨u0.heap.size, 9, none⟩ = some (.int .u64 (wd r 3 : Int)) ∧ W.cell? ⟨u0.heap.size, 10, none⟩ = some (.int .u64 (wd s 0 : Int)) ∧ W.cell? ⟨u0.heap.size, 11, none⟩ = some (.int .u64 (wd s 1 : Int)) ∧ W.cell? ⟨u0.heap.size, 12, none⟩ = some (.int .u64 (wd s 2 : Int)) ∧ W.cell? ⟨u0.heap.size, 13, none⟩ = some (.int .u64 (wd s 3 : Int))) ∧ (W.cell? ⟨u0.heap.size + 1, 0, none⟩ = some (.int .u64 (wd p 0 : Int)) ∧ W.cell? ⟨u0.heap.size + 1, 1, none⟩ = some (.int .u64 (wd p 1 : Int)) ∧ W.cell? ⟨u0.heap.size + 1, 2, none⟩ = some (.int .u64 (wd p 2 : Int)) ∧ W.cell? ⟨u0.heap.size + 1, 3, none⟩ = some (.int .u64 (wd p 3 : Int))) ∧ (W.cell? ⟨u1.heap.size, 0, none⟩ = some (.int .u64 (wd c 0 : Int)) ∧ W.cell? ⟨u1.heap.size, 1, none⟩ = some (.int .u64 (wd c 1 : Int)) ∧ W.cell? ⟨u1.heap.size, 2, none⟩ = some (.int .u64 (wd c 2 : Int)) ∧ W.cell? ⟨u1.heap.size, 3, none⟩ = some (.int .u64 (wd c 3 : Int))) ∧ Off (fun _ => False) W2 W) := Lib.hid (fun W h => ⟨fv_cells (h.heap hFk (fun c => c)), cells4 (h.heap hPk (fun c => c)), cells4 (h.heap hXk (fun c => c)), h⟩)
  have HTW := Lib.hid (fun W (h : Off (fun _ => False) W2 W) => (HT1.out.off hOx).off h)
  have HOw := Lib.hid (HO1.out.trans hOx (fun _ _ c => c))
  have HW2 := Lib.hid eW2
  have HFk := Lib.hid hFk
  have HPk := Lib.hid hPk
  have HXk := Lib.hid hXk
  clear hO2 oW2 hOx hFk hPk hXk eW2 HT1 HO1 HW1 HFc HPc
  go_upto_region 3 with fail
  rw [← HW2.out]
  refine wp_region_inv (fun a0 l a' w' => ∃ (u17 : Value) (u18 : Value) (u19 : Value) (u20 : Value) (u21 : Value) (u22 : Value) (u23 : Value) (u8 : Value) (b8 : Nat), a' = (Act.put (Act.put (Act.put (Act.put (Act.put (Act.put (Act.put (Act.put a0 (some 17) u17) (some 18) u18) (some 19) u19) (some 20) u20) (some 21) u21) (some 22) u22) (some 23) u23) (some 8) u8) ∧ Slot l 0 u17 (V p) ∧ Slot l 1 u18 (FV id p i r s) ∧ Slot l 2 u19 (V p) ∧ Slot l 3 u20 (V c) ∧ Slot l 4 u21 (V u) ∧ Slot l 5 u22 (V v) ∧ Slot l 6 u23 (V y) ∧ Blk l 7 8 u8 b8 W2 w' (.cells #[.int .u64 0, .int .u64 0, .int .u64 0, .int .u64 0] 23) (.cells #[.int .u64 (wd y 0 : Int), .int .u64 (wd y 1 : Int), .int .u64 (wd y 2 : Int), .int .u64 (wd y 3 : Int)] 23) ∧ Off (fun _ => False) W2 w') (by kernel_rfl) (by kernel_rfl) ?_ ⟨?_, ?_, ?_, ?_, ?_, ?_, ?_, ?_, ?_, trivial⟩ ?_
  · refine ⟨?z17, ?z18, ?z19, ?z20, ?z21, ?z22, ?z23, ?z8, 0, ?fr, Slot.start _ _ _, Slot.start _ _ _, Slot.start _ _ _, Slot.start _ _ _, Slot.start _ _ _, Slot.start _ _ _, Slot.start _ _ _, Blk.start _ _ _ _ _ _ _ _, (Off.refl _ W2).drew⟩
    case fr => first | (simp only [Act.put, List.setIfInBounds_toArray, List.set_cons_zero, List.set_cons_succ]; rfl) | simp only [Act.put, List.setIfInBounds_toArray, List.set_cons_zero, List.set_cons_succ]
  · intro l a wr hI hl hd K' hK
    obtain ⟨u17, u18, u19, u20, u21, u22, u23, u8, b8, ha, s0, s1, s2, s3, s4, s5, s6, B7, hO⟩ := hI
    simp only [Act.put, List.setIfInBounds_toArray, List.set_cons_zero, List.set_cons_succ] at ha
    subst ha
    have hc := HK3.out wr hO
    have p0 := hc.2.1.1
    have p1 := hc.2.1.2.1
    have p2 := hc.2.1.2.2.1
    have p3 := hc.2.1.2.2.2
    clear hc
    go_simp
    refine hK.out _ _ ⟨_, _, _, _, _, _, _, _, _, ?_, Slot.new _ _ _, s1.keep rfl, s2.keep rfl, s3.keep rfl, s4.keep rfl, s5.keep rfl, s6.keep rfl, B7.keep (Off.refl _ wr) rfl rfl, hO⟩
    simp only [Act.put, List.setIfInBounds_toArray, List.set_cons_zero, List.set_cons_succ]
  · intro l a wr hI hl hd K' hK
    obtain ⟨u17, u18, u19, u20, u21, u22, u23, u8, b8, ha, s0, s1, s2, s3, s4, s5, s6, B7, hO⟩ := hI
    simp only [Act.put, List.setIfInBounds_toArray, List.set_cons_zero, List.set_cons_succ] at ha
    subst ha
    have hc := HK3.out wr hO
    have p0 := hc.1.1
    have p1 := hc.1.2.1
    have p2 := hc.1.2.2.1
    have p3 := hc.1.2.2.2.1
    have p4 := hc.1.2.2.2.2.1
    have p5 := hc.1.2.2.2.2.2.1
    have p6 := hc.1.2.2.2.2.2.2.1
    have p7 := hc.1.2.2.2.2.2.2.2.1
    have p8 := hc.1.2.2.2.2.2.2.2.2.1
    have p9 := hc.1.2.2.2.2.2.2.2.2.2.1
    have p10 := hc.1.2.2.2.2.2.2.2.2.2.2.1
    have p11 := hc.1.2.2.2.2.2.2.2.2.2.2.2.1
    have p12 := hc.1.2.2.2.2.2.2.2.2.2.2.2.2.1
    have p13 := hc.1.2.2.2.2.2.2.2.2.2.2.2.2.2
    clear hc
    go_simp
    refine hK.out _ _ ⟨_, _, _, _, _, _, _, _, _, ?_, s0.keep rfl, Slot.new _ _ _, s2.keep rfl, s3.keep rfl, s4.keep rfl, s5.keep rfl, s6.keep rfl, B7.keep (Off.refl _ wr) rfl rfl, hO⟩
    simp only [Act.put, List.setIfInBounds_toArray, List.set_cons_zero, List.set_cons_succ]
  · intro l a wr hI hl hd K' hK
    obtain ⟨u17, u18, u19, u20, u21, u22, u23, u8, b8, ha, s0, s1, s2, s3, s4, s5, s6, B7, hO⟩ := hI
    simp only [Act.put, List.setIfInBounds_toArray, List.set_cons_zero, List.set_cons_succ] at ha
    subst ha
    have hc := HK3.out wr hO
    have p0 := hc.2.1.1
    have p1 := hc.2.1.2.1
    have p2 := hc.2.1.2.2.1
    have p3 := hc.2.1.2.2.2
    clear hc
    go_simp
    refine hK.out _ _ ⟨_, _, _, _, _, _, _, _, _, ?_, s0.keep rfl, s1.keep rfl, Slot.new _ _ _, s3.keep rfl, s4.keep rfl, s5.keep rfl, s6.keep rfl, B7.keep (Off.refl _ wr) rfl rfl, hO⟩
    simp only [Act.put, List.setIfInBounds_toArray, List.set_cons_zero, List.set_cons_succ]
  · intro l a wr hI hl hd K' hK
    obtain ⟨u17, u18, u19, u20, u21, u22, u23, u8, b8, ha, s0, s1, s2, s3, s4, s5, s6, B7, hO⟩ := hI
    simp only [Act.put, List.setIfInBounds_toArray, List.set_cons_zero, List.set_cons_succ] at ha
    subst ha
    have hc := HK3.out wr hO
    have p0 := hc.2.2.1.1
    have p1 := hc.2.2.1.2.1
    have p2 := hc.2.2.1.2.2.1
    have p3 := hc.2.2.1.2.2.2
    clear hc
    go_simp
    refine hK.out _ _ ⟨_, _, _, _, _, _, _, _, _, ?_, s0.keep rfl, s1.keep rfl, s2.keep rfl, Slot.new _ _ _, s4.keep rfl, s5.keep rfl, s6.keep rfl, B7.keep (Off.refl _ wr) rfl rfl, hO⟩
    simp only [Act.put, List.setIfInBounds_toArray, List.set_cons_zero, List.set_cons_succ]
  · intro l a wr hI hl hd K' hK
    obtain ⟨u17, u18, u19, u20, u21, u22, u23, u8, b8, ha, s0, s1, s2, s3, s4, s5, s6, B7, hO⟩ := hI
    simp only [Act.put, List.setIfInBounds_toArray, List.set_cons_zero, List.set_cons_succ] at ha
    have q2 := s2 (hd 2 (by decide))
    have q3 := s3 (hd 3 (by decide))
    subst ha q2 q3
    go_simp
    refine (held_inv (FX.out wr (HTW.out wr hO)) hO).mono ?_
    rintro e w1 ⟨rfl, hO1, hOW⟩
    go_wp2_with fail
    refine hK.out _ _ ⟨_, _, _, _, _, _, _, _, _, ?_, s0.keep rfl, s1.keep rfl, s2.keep rfl, s3.keep rfl, Slot.new _ _ _, s5.keep rfl, s6.keep rfl, B7.keep hOW rfl rfl, hO1⟩
    simp only [Act.put, List.setIfInBounds_toArray, List.set_cons_zero, List.set_cons_succ]
  · intro l a wr hI hl hd K' hK
    obtain ⟨u17, u18, u19, u20, u21, u22, u23, u8, b8, ha, s0, s1, s2, s3, s4, s5, s6, B7, hO⟩ := hI
    simp only [Act.put, List.setIfInBounds_toArray, List.set_cons_zero, List.set_cons_succ] at ha
    have q1 := s1 (hd 1 (by decide))
    have q4 := s4 (hd 4 (by decide))
    subst ha q1 q4
    go_simp
    refine (held_inv (FI.out wr (HTW.out wr hO)) hO).mono ?_
    rintro e w1 ⟨rfl, hO1, hOW⟩
    go_wp2_with fail
    refine hK.out _ _ ⟨_, _, _, _, _, _, _, _, _, ?_, s0.keep rfl, s1.keep rfl, s2.keep rfl, s3.keep rfl, s4.keep rfl, Slot.new _ _ _, s6.keep rfl, B7.keep hOW rfl rfl, hO1⟩
    simp only [Act.put, List.setIfInBounds_toArray, List.set_cons_zero, List.set_cons_succ]
  · intro l a wr hI hl hd K' hK
    obtain ⟨u17, u18, u19, u20, u21, u22, u23, u8, b8, ha, s0, s1, s2, s3, s4, s5, s6, B7, hO⟩ := hI
    simp only [Act.put, List.setIfInBounds_toArray, List.set_cons_zero, List.set_cons_succ] at ha
    have q0 := s0 (hd 0 (by decide))
    have q5 := s5 (hd 5 (by decide))
    subst ha q0 q5
    go_simp
    refine (held_inv (FVl.out wr (HTW.out wr hO)) hO).mono ?_
    rintro e w1 ⟨rfl, hO1, hOW⟩
    go_wp2_with fail
    refine hK.out _ _ ⟨_, _, _, _, _, _, _, _, _, ?_, s0.keep rfl, s1.keep rfl, s2.keep rfl, s3.keep rfl, s4.keep rfl, s5.keep rfl, Slot.new _ _ _, B7.keep hOW rfl rfl, hO1⟩
    simp only [Act.put, List.setIfInBounds_toArray, List.set_cons_zero, List.set_cons_succ]
  · intro l a wr hI hl hd K' hK
    obtain ⟨u17, u18, u19, u20, u21, u22, u23, u8, b8, ha, s0, s1, s2, s3, s4, s5, s6, B7, hO⟩ := hI
    simp only [Act.put, List.setIfInBounds_toArray, List.set_cons_zero, List.set_cons_succ] at ha
    subst ha
    go_simp
    refine hK.out _ _ ⟨_, _, _, _, _, _, _, _, _, ?_, s0.keep rfl, s1.keep rfl, s2.keep rfl, s3.keep rfl, s4.keep rfl, s5.keep rfl, s6.keep rfl, B7.make hl rfl hO, hO.alloc _⟩
    simp only [Act.put, List.setIfInBounds_toArray, List.set_cons_zero, List.set_cons_succ]
  · intro l a wr hI hl hd K' hK
    obtain ⟨u17, u18, u19, u20, u21, u22, u23, u8, b8, ha, s0, s1, s2, s3, s4, s5, s6, B7, hO⟩ := hI
    simp only [Act.put, List.setIfInBounds_toArray, List.set_cons_zero, List.set_cons_succ] at ha
    have h7 := hd 7 (by decide)
    have q7 := B7.ptr h7
    have q6 := s6 (hd 6 (by decide))
    subst ha q7 q6
    obtain ⟨⟨m0, m1, m2, m3⟩, fz, lt⟩ := zero_cells (B7.was h7 hl)
    go_simp
    refine hK.out _ _ ⟨_, _, _, _, _, _, _, _, _, ?_, s0.keep rfl, s1.keep rfl, s2.keep rfl, s3.keep rfl, s4.keep rfl, s5.keep rfl, s6.keep rfl, B7.put hl h7 rfl rfl, setCells_in hO (fun c => absurd c (Nat.not_lt.2 (B7.new h7))) [.int .u64 (wd y 0 : Int), .int .u64 (wd y 1 : Int), .int .u64 (wd y 2 : Int), .int .u64 (wd y 3 : Int)]⟩
    simp only [Act.put, List.setIfInBounds_toArray, List.set_cons_zero, List.set_cons_succ]
  · intro l a wc hI hd
    obtain ⟨u17, u18, u19, u20, u21, u22, u23, u8, b8, ha, s0, s1, s2, s3, s4, s5, s6, B7, hO⟩ := hI
    simp only [Act.put, List.setIfInBounds_toArray, List.set_cons_zero, List.set_cons_succ] at ha
    have q0 := s0 (hd 0 (by decide))
    have q1 := s1 (hd 1 (by decide))
    have q2 := s2 (hd 2 (by decide))
    have q3 := s3 (hd 3 (by decide))
    have q4 := s4 (hd 4 (by decide))
    have q5 := s5 (hd 5 (by decide))
    have q6 := s6 (hd 6 (by decide))
    have q7 := B7.ptr (hd 7 (by decide))
    have n8 : wc.heap[b8]? = some (.cells #[.int .u64 (wd y 0 : Int), .int .u64 (wd y 1 : Int), .int .u64 (wd y 2 : Int), .int .u64 (wd y 3 : Int)] 23) := B7.now (hd 7 (by decide)) (hd 8 (by decide))
    have v8 := B7.new (hd 7 (by decide))
    subst ha q0 q1 q2 q3 q4 q5 q6 q7
    clear hd s0 s1 s2 s3 s4 s5 s6 B7
    obtain ⟨W3, hW3⟩ : ∃ W3, W3 = wc := ⟨_, rfl⟩
    subst hW3
    have hFk := hO.heap HFk.out (fun c => c)
    have hPk := hO.heap HPk.out (fun c => c)
    have hXk := hO.heap HXk.out (fun c => c)
    obtain ⟨x0, x1, x2, x3⟩ := cells4 hXk
    have HTW3 := Lib.hid (fun W (h : Off (fun _ => False) W3 W) => HTW.out W (hO.trans h (fun _ _ c => c)))
    have HOw3 := Lib.hid (HOw.out.trans hO (fun _ _ c => c))
    have HXk3 := Lib.hid hXk
    have HY3 := Lib.hid n8
    have HK6 : Hid (∀ W, Off (fun _ => False) W3 W → (W.cell? ⟨u0.heap.size, 0, none⟩ = some (.int .i64 id) ∧ W.cell? ⟨u0.heap.size, 1, none⟩ = some (.int .u64 (wd p 0 : Int)) ∧ W.cell? ⟨u0.heap.size, 2, none⟩ = some (.int .u64 (wd p 1 : Int)) ∧ W.cell? ⟨u0.heap.size, 3, none⟩ = some (.int .u64 (wd p 2 : Int)) ∧ W.cell? ⟨u0.heap.size, 4, none⟩ = some (.int .u64 (wd p 3 : Int)) ∧ W.cell? ⟨u0.heap.size, 5, none⟩ = some (.int .u64 (i : Int)) ∧ W.cell? ⟨u0.heap.size, 6, none⟩ = some (.int .u64 (wd r 0 : Int)) ∧ W.cell? ⟨u0.heap.size, 7, none⟩ = some (.int .u64 (wd r 1 : Int)) ∧ W.cell? ⟨u0.heap.size, 8, none⟩ = some (.int .u64 (wd r 2 : Int)) ∧ W.cell? ⟨u0.heap.size, 9, none⟩ = some (.int .u64 (wd r 3 : Int)) ∧ W.cell? ⟨u0.heap.size, 10, none⟩ = some (.int .u64 (wd s 0 : Int)) ∧ W.cell? ⟨u0.heap.size, 11, none⟩ = some (.int .u64 (wd s 1 : Int)) ∧ W.cell? ⟨u0.heap.size, 12, none⟩ = some (.int .u64 (wd s 2 : Int)) ∧ W.cell? ⟨u0.heap.size, 13, none⟩ = some (.int .u64 (wd s 3 : Int))) ∧ (W.cell? ⟨u0.heap.size + 1, 0, none⟩ = some (.int .u64 (wd p 0 : Int)) ∧ W.cell? ⟨u0.heap.size + 1, 1, none⟩ = some (.int .u64 (wd p 1 : Int)) ∧ W.cell? ⟨u0.heap.size + 1, 2, none⟩ = some (.int .u64 (wd p 2 : Int)) ∧ W.cell? ⟨u0.heap.size + 1, 3, none⟩ = some (.int .u64 (wd p 3 : Int))) ∧ (W.cell? ⟨u1.heap.size, 0, none⟩ = some (.int .u64 (wd c 0 : Int)) ∧ W.cell? ⟨u1.heap.size, 1, none⟩ = some (.int .u64 (wd c 1 : Int)) ∧ W.cell? ⟨u1.heap.size, 2, none⟩ = some (.int .u64 (wd c 2 : Int)) ∧ W.cell? ⟨u1.heap.size, 3, none⟩ = some (.int .u64 (wd c 3 : Int))) ∧ (W.cell? ⟨b8, 0, none⟩ = some (.int .u64 (wd y 0 : Int)) ∧ W.cell? ⟨b8, 1, none⟩ = some (.int .u64 (wd y 1 : Int)) ∧ W.cell? ⟨b8, 2, none⟩ = some (.int .u64 (wd y 2 : Int)) ∧ W.cell? ⟨b8, 3, none⟩ = some (.int .u64 (wd y 3 : Int))) ∧ Off (fun _ => False) W3 W) := Lib.hid (fun W h => ⟨fv_cells (h.heap hFk (fun c => c)), cells4 (h.heap hPk (fun c => c)), cells4 (h.heap hXk (fun c => c)), cells4 (h.heap HY3.out (fun c => c)), h⟩)
    clear hFk hPk hXk hO n8 v8 HTW HOw HK3 HFk HPk HXk HW2
    by_cases hc0 : c = 0
    · have e3 := EZ.out
      rw [show eqN c 0 = true by rw [hc0]; decide] at e3
      have hyc' := hyc hc0
      clear hyc hc0
      subst hyc'
      go_wp2_with fail
      refine (FAL.out _ (HTW3.out _ (Off.refl _ _))).mono ?_
      rintro e u2 ⟨rfl, hO5⟩
      clear x0 x1 x2 x3
      obtain ⟨x0, x1, x2, x3⟩ := cells4 (hO5.heap HXk3.out (fun c => c))
      obtain ⟨y0, y1, y2, y3⟩ := cells4 (hO5.heap HY3.out (fun c => c))
      have HOf := Lib.hid (HOw3.out.trans hO5 (fun _ _ c => c))
      clear hO5
      go_wp2
      go_ret
      exact ⟨rfl, HOf.out⟩
    · have e3 := EZ.out
      rw [show eqN c 0 = false by unfold eqN; simpa using hc0] at e3
      have FMc := Lib.hid (FM.out hc0)
      clear hyc hc0 FM
      go_upto_region 6 with fail
      obtain ⟨x33, hx⟩ : ∃ x : Value, x = .bool true := ⟨_, rfl⟩
      have X33 := Lib.hid hx
      clear hx
      obtain ⟨x34, hx⟩ : ∃ x : Value, x = .bool true := ⟨_, rfl⟩
      have X34 := Lib.hid hx
      clear hx
      obtain ⟨x35, hx⟩ : ∃ x : Value, x = V p := ⟨_, rfl⟩
      have X35 := Lib.hid hx
      clear hx
      obtain ⟨x36, hx⟩ : ∃ x : Value, x = V c := ⟨_, rfl⟩
      have X36 := Lib.hid hx
      clear hx
      obtain ⟨x37, hx⟩ : ∃ x : Value, x = V y := ⟨_, rfl⟩
      have X37 := Lib.hid hx
      clear hx
      obtain ⟨x38, hx⟩ : ∃ x : Value, x = .agg #[.int .u64 1, .int .u64 0, .int .u64 0, .int .u64 0] := ⟨_, rfl⟩
      have X38 := Lib.hid hx
      clear hx
      obtain ⟨x39, hx⟩ : ∃ x : Value, x = .agg #[.int .u64 1, .int .u64 0, .int .u64 0, .int .u64 0] := ⟨_, rfl⟩
      have X39 := Lib.hid hx
      clear hx
      obtain ⟨x40, hx⟩ : ∃ x : Value, x = .bool true := ⟨_, rfl⟩
      have X40 := Lib.hid hx
      clear hx
      obtain ⟨x41, hx⟩ : ∃ x : Value, x = .bool true := ⟨_, rfl⟩
      have X41 := Lib.hid hx
      clear hx
      obtain ⟨x42, hx⟩ : ∃ x : Value, x = .bool true := ⟨_, rfl⟩
      have X42 := Lib.hid hx
      clear hx
      obtain ⟨x43, hx⟩ : ∃ x : Value, x = FV id p i r s := ⟨_, rfl⟩
      have X43 := Lib.hid hx
      clear hx
      obtain ⟨x44, hx⟩ : ∃ x : Value, x = V p := ⟨_, rfl⟩
      have X44 := Lib.hid hx
      clear hx
      obtain ⟨x45, hx⟩ : ∃ x : Value, x = V y := ⟨_, rfl⟩
      have X45 := Lib.hid hx
      clear hx
      obtain ⟨x46, hx⟩ : ∃ x : Value, x = V v := ⟨_, rfl⟩
      have X46 := Lib.hid hx
      clear hx
      obtain ⟨x47, hx⟩ : ∃ x : Value, x = V u := ⟨_, rfl⟩
      have X47 := Lib.hid hx
      clear hx
      obtain ⟨x48, hx⟩ : ∃ x : Value, x = V p := ⟨_, rfl⟩
      have X48 := Lib.hid hx
      clear hx
      obtain ⟨x49, hx⟩ : ∃ x : Value, x = V c := ⟨_, rfl⟩
      have X49 := Lib.hid hx
      clear hx
      obtain ⟨x50, hx⟩ : ∃ x : Value, x = V u := ⟨_, rfl⟩
      have X50 := Lib.hid hx
      clear hx
      obtain ⟨x51, hx⟩ : ∃ x : Value, x = .bool true := ⟨_, rfl⟩
      have X51 := Lib.hid hx
      clear hx
      obtain ⟨x52, hx⟩ : ∃ x : Value, x = .bool true := ⟨_, rfl⟩
      have X52 := Lib.hid hx
      clear hx
      obtain ⟨x4, hx⟩ : ∃ x : Value, x = .bool true := ⟨_, rfl⟩
      have X4 := Lib.hid hx
      clear hx
      refine wp_region_inv (fun a0 l a' w' => a' = (Act.put (fill a0 33 [sel (l 0) x33 undef, sel (l 1) x34 undef, sel (l 2) x35 undef, sel (l 3) x36 undef, sel (l 4) x37 undef, sel (l 5) x38 undef, sel (l 6) x39 undef, sel (l 7) x40 undef, sel (l 8) x41 undef, sel (l 9) x42 undef, sel (l 10) x43 undef, sel (l 11) x44 undef, sel (l 12) x45 undef, sel (l 13) x46 undef, sel (l 14) x47 undef, sel (l 15) x48 undef, sel (l 16) x49 undef, sel (l 17) x50 undef, sel (l 18) x51 undef, sel (l 19) x52 undef]) (some 4) (sel (l 20) x4 (.bool false))) ∧ Off (fun _ => False) W3 w') (by kernel_rfl) (by kernel_rfl) ?_ ⟨?_, ?_, ?_, ?_, ?_, ?_, ?_, ?_, ?_, ?_, ?_, ?_, ?_, ?_, ?_, ?_, ?_, ?_, ?_, ?_, ?_, trivial⟩ ?_
      · refine ⟨?_, (Off.refl _ W3).drew⟩
        simp only [fill_eq, List.take_succ_cons, List.take_zero, List.cons_append, List.nil_append, Act.put, List.setIfInBounds_toArray, List.set_cons_zero, List.set_cons_succ, sel_start]
      · as_aux_lemma =>
          rintro l a wr ⟨ha, hO⟩ hl hd K' hK
          have hx := X33.out; subst hx
          simp only [fill_eq, List.take_succ_cons, List.take_zero, List.cons_append, List.nil_append, Act.put, List.setIfInBounds_toArray, List.set_cons_zero, List.set_cons_succ] at ha
          subst ha
          rw [if_pos (by rfl)]
          go_simp
          refine (held_inv (FAL.out wr (HTW3.out wr hO)) hO).mono ?_
          rintro e w1 ⟨rfl, hO1, hOW⟩
          go_wp2_with fail
          refine hK.out _ _ ⟨?_, hO1⟩
          simp only [fill_eq, List.take_succ_cons, List.take_zero, List.cons_append, List.nil_append, Act.put, List.setIfInBounds_toArray, List.set_cons_zero, List.set_cons_succ, sel_new]
          rfl
      · as_aux_lemma =>
          rintro l a wr ⟨ha, hO⟩ hl hd K' hK
          have d0 := hd 0 (by decide)
          have hx := X33.out; subst hx
          have hx := X34.out; subst hx
          simp only [fill_eq, List.take_succ_cons, List.take_zero, List.cons_append, List.nil_append, Act.put, List.setIfInBounds_toArray, List.set_cons_zero, List.set_cons_succ, sel_of d0] at ha
          subst ha
          rw [if_pos (by rfl)]
          go_simp
          refine hK.out _ _ ⟨?_, hO⟩
          simp only [fill_eq, List.take_succ_cons, List.take_zero, List.cons_append, List.nil_append, Act.put, List.setIfInBounds_toArray, List.set_cons_zero, List.set_cons_succ, sel_new, sel_dep d0]
          rfl
      · as_aux_lemma =>
          rintro l a wr ⟨ha, hO⟩ hl hd K' hK
          have d1 := hd 1 (by decide)
          have hx := X34.out; subst hx
          have hx := X35.out; subst hx
          simp only [fill_eq, List.take_succ_cons, List.take_zero, List.cons_append, List.nil_append, Act.put, List.setIfInBounds_toArray, List.set_cons_zero, List.set_cons_succ, sel_of d1] at ha
          subst ha
          have hc := HK6.out wr hO
          have p0 := hc.2.1.1
          have p1 := hc.2.1.2.1
          have p2 := hc.2.1.2.2.1
          have p3 := hc.2.1.2.2.2
          clear hc
          rw [if_pos (by rfl)]
          go_simp
          refine hK.out _ _ ⟨?_, hO⟩
          simp only [fill_eq, List.take_succ_cons, List.take_zero, List.cons_append, List.nil_append, Act.put, List.setIfInBounds_toArray, List.set_cons_zero, List.set_cons_succ, sel_new, sel_dep d1]
          rfl
      · as_aux_lemma =>
          rintro l a wr ⟨ha, hO⟩ hl hd K' hK
          have d1 := hd 1 (by decide)
          have hx := X34.out; subst hx
          have hx := X36.out; subst hx
          simp only [fill_eq, List.take_succ_cons, List.take_zero, List.cons_append, List.nil_append, Act.put, List.setIfInBounds_toArray, List.set_cons_zero, List.set_cons_succ, sel_of d1] at ha
          subst ha
          have hc := HK6.out wr hO
          have p0 := hc.2.2.1.1
          have p1 := hc.2.2.1.2.1
          have p2 := hc.2.2.1.2.2.1
          have p3 := hc.2.2.1.2.2.2
          clear hc
          rw [if_pos (by rfl)]
          go_simp
          refine hK.out _ _ ⟨?_, hO⟩
          simp only [fill_eq, List.take_succ_cons, List.take_zero, List.cons_append, List.nil_append, Act.put, List.setIfInBounds_toArray, List.set_cons_zero, List.set_cons_succ, sel_new, sel_dep d1]
          rfl
      · as_aux_lemma =>
          rintro l a wr ⟨ha, hO⟩ hl hd K' hK
          have d1 := hd 1 (by decide)
          have hx := X34.out; subst hx
          have hx := X37.out; subst hx
          simp only [fill_eq, List.take_succ_cons, List.take_zero, List.cons_append, List.nil_append, Act.put, List.setIfInBounds_toArray, List.set_cons_zero, List.set_cons_succ, sel_of d1] at ha
          subst ha
          have hc := HK6.out wr hO
          have p0 := hc.2.2.2.1.1
          have p1 := hc.2.2.2.1.2.1
          have p2 := hc.2.2.2.1.2.2.1
          have p3 := hc.2.2.2.1.2.2.2
          clear hc
          rw [if_pos (by rfl)]
          go_simp
          refine hK.out _ _ ⟨?_, hO⟩
          simp only [fill_eq, List.take_succ_cons, List.take_zero, List.cons_append, List.nil_append, Act.put, List.setIfInBounds_toArray, List.set_cons_zero, List.set_cons_succ, sel_new, sel_dep d1]
          rfl
      · as_aux_lemma =>
          rintro l a wr ⟨ha, hO⟩ hl hd K' hK
          have d1 := hd 1 (by decide)
          have d2 := hd 2 (by decide)
          have d3 := hd 3 (by decide)
          have d4 := hd 4 (by decide)
          have hx := X34.out; subst hx
          have hx := X35.out; subst hx
          have hx := X36.out; subst hx
          have hx := X37.out; subst hx
          have hx := X38.out; subst hx
          simp only [fill_eq, List.take_succ_cons, List.take_zero, List.cons_append, List.nil_append, Act.put, List.setIfInBounds_toArray, List.set_cons_zero, List.set_cons_succ, sel_of d1, sel_of d2, sel_of d3, sel_of d4] at ha
          subst ha
          rw [if_pos (by rfl)]
          go_simp
          refine (held_inv (FMc.out wr (HTW3.out wr hO)) hO).mono ?_
          rintro e w1 ⟨rfl, hO1, hOW⟩
          go_wp2_with fail
          refine hK.out _ _ ⟨?_, hO1⟩
          simp only [fill_eq, List.take_succ_cons, List.take_zero, List.cons_append, List.nil_append, Act.put, List.setIfInBounds_toArray, List.set_cons_zero, List.set_cons_succ, sel_new, sel_dep d1, sel_dep d2, sel_dep d3, sel_dep d4]
          rfl
      · as_aux_lemma =>
          rintro l a wr ⟨ha, hO⟩ hl hd K' hK
          have d1 := hd 1 (by decide)
          have hx := X34.out; subst hx
          have hx := X39.out; subst hx
          simp only [fill_eq, List.take_succ_cons, List.take_zero, List.cons_append, List.nil_append, Act.put, List.setIfInBounds_toArray, List.set_cons_zero, List.set_cons_succ, sel_of d1] at ha
          subst ha
          rw [if_pos (by rfl)]
          go_simp
          refine hK.out _ _ ⟨?_, hO⟩
          simp only [fill_eq, List.take_succ_cons, List.take_zero, List.cons_append, List.nil_append, Act.put, List.setIfInBounds_toArray, List.set_cons_zero, List.set_cons_succ, sel_new, sel_dep d1]
          rfl
      · as_aux_lemma =>
          rintro l a wr ⟨ha, hO⟩ hl hd K' hK
          have d1 := hd 1 (by decide)
          have d5 := hd 5 (by decide)
          have d6 := hd 6 (by decide)
          have hx := X34.out; subst hx
          have hx := X38.out; subst hx
          have hx := X39.out; subst hx
          have hx := X40.out; subst hx
          simp only [fill_eq, List.take_succ_cons, List.take_zero, List.cons_append, List.nil_append, Act.put, List.setIfInBounds_toArray, List.set_cons_zero, List.set_cons_succ, sel_of d1, sel_of d5, sel_of d6] at ha
          subst ha
          rw [if_pos (by rfl)]
          go_simp
          refine hK.out _ _ ⟨?_, hO⟩
          simp only [fill_eq, List.take_succ_cons, List.take_zero, List.cons_append, List.nil_append, Act.put, List.setIfInBounds_toArray, List.set_cons_zero, List.set_cons_succ, sel_new, sel_dep d1, sel_dep d5, sel_dep d6]
          rfl
      · as_aux_lemma =>
          rintro l a wr ⟨ha, hO⟩ hl hd K' hK
          have d1 := hd 1 (by decide)
          have d7 := hd 7 (by decide)
          have hx := X34.out; subst hx
          have hx := X40.out; subst hx
          have hx := X41.out; subst hx
          simp only [fill_eq, List.take_succ_cons, List.take_zero, List.cons_append, List.nil_append, Act.put, List.setIfInBounds_toArray, List.set_cons_zero, List.set_cons_succ, sel_of d1, sel_of d7] at ha
          subst ha
          rw [if_pos (by rfl)]
          go_simp
          refine hK.out _ _ ⟨?_, hO⟩
          simp only [fill_eq, List.take_succ_cons, List.take_zero, List.cons_append, List.nil_append, Act.put, List.setIfInBounds_toArray, List.set_cons_zero, List.set_cons_succ, sel_new, sel_dep d1, sel_dep d7]
          rfl
      · as_aux_lemma =>
          rintro l a wr ⟨ha, hO⟩ hl hd K' hK
          have d8 := hd 8 (by decide)
          have hx := X41.out; subst hx
          have hx := X42.out; subst hx
          simp only [fill_eq, List.take_succ_cons, List.take_zero, List.cons_append, List.nil_append, Act.put, List.setIfInBounds_toArray, List.set_cons_zero, List.set_cons_succ, sel_of d8] at ha
          subst ha
          rw [if_pos (by rfl)]
          go_simp
          refine hK.out _ _ ⟨?_, hO⟩
          simp only [fill_eq, List.take_succ_cons, List.take_zero, List.cons_append, List.nil_append, Act.put, List.setIfInBounds_toArray, List.set_cons_zero, List.set_cons_succ, sel_new, sel_dep d8]
          rfl
      · as_aux_lemma =>
          rintro l a wr ⟨ha, hO⟩ hl hd K' hK
          have d9 := hd 9 (by decide)
          have hx := X42.out; subst hx
          have hx := X43.out; subst hx
          simp only [fill_eq, List.take_succ_cons, List.take_zero, List.cons_append, List.nil_append, Act.put, List.setIfInBounds_toArray, List.set_cons_zero, List.set_cons_succ, sel_of d9] at ha
          subst ha
          have hc := HK6.out wr hO
          have p0 := hc.1.1
          have p1 := hc.1.2.1
          have p2 := hc.1.2.2.1
          have p3 := hc.1.2.2.2.1
          have p4 := hc.1.2.2.2.2.1
          have p5 := hc.1.2.2.2.2.2.1
          have p6 := hc.1.2.2.2.2.2.2.1
          have p7 := hc.1.2.2.2.2.2.2.2.1
          have p8 := hc.1.2.2.2.2.2.2.2.2.1
          have p9 := hc.1.2.2.2.2.2.2.2.2.2.1
          have p10 := hc.1.2.2.2.2.2.2.2.2.2.2.1
          have p11 := hc.1.2.2.2.2.2.2.2.2.2.2.2.1
          have p12 := hc.1.2.2.2.2.2.2.2.2.2.2.2.2.1
          have p13 := hc.1.2.2.2.2.2.2.2.2.2.2.2.2.2
          clear hc
          rw [if_pos (by rfl)]
          go_simp
          refine hK.out _ _ ⟨?_, hO⟩
          simp only [fill_eq, List.take_succ_cons, List.take_zero, List.cons_append, List.nil_append, Act.put, List.setIfInBounds_toArray, List.set_cons_zero, List.set_cons_succ, sel_new, sel_dep d9]
          rfl
      · as_aux_lemma =>
          rintro l a wr ⟨ha, hO⟩ hl hd K' hK
          have d9 := hd 9 (by decide)
          have hx := X42.out; subst hx
          have hx := X44.out; subst hx
          simp only [fill_eq, List.take_succ_cons, List.take_zero, List.cons_append, List.nil_append, Act.put, List.setIfInBounds_toArray, List.set_cons_zero, List.set_cons_succ, sel_of d9] at ha
          subst ha
          have hc := HK6.out wr hO
          have p0 := hc.2.1.1
          have p1 := hc.2.1.2.1
          have p2 := hc.2.1.2.2.1
          have p3 := hc.2.1.2.2.2
          clear hc
          rw [if_pos (by rfl)]
          go_simp
          refine hK.out _ _ ⟨?_, hO⟩
          simp only [fill_eq, List.take_succ_cons, List.take_zero, List.cons_append, List.nil_append, Act.put, List.setIfInBounds_toArray, List.set_cons_zero, List.set_cons_succ, sel_new, sel_dep d9]
          rfl
      · as_aux_lemma =>
          rintro l a wr ⟨ha, hO⟩ hl hd K' hK
          have d9 := hd 9 (by decide)
          have hx := X42.out; subst hx
          have hx := X45.out; subst hx
          simp only [fill_eq, List.take_succ_cons, List.take_zero, List.cons_append, List.nil_append, Act.put, List.setIfInBounds_toArray, List.set_cons_zero, List.set_cons_succ, sel_of d9] at ha
          subst ha
          have hc := HK6.out wr hO
          have p0 := hc.2.2.2.1.1
          have p1 := hc.2.2.2.1.2.1
          have p2 := hc.2.2.2.1.2.2.1
          have p3 := hc.2.2.2.1.2.2.2
          clear hc
          rw [if_pos (by rfl)]
          go_simp
          refine hK.out _ _ ⟨?_, hO⟩
          simp only [fill_eq, List.take_succ_cons, List.take_zero, List.cons_append, List.nil_append, Act.put, List.setIfInBounds_toArray, List.set_cons_zero, List.set_cons_succ, sel_new, sel_dep d9]
          rfl
      · as_aux_lemma =>
          rintro l a wr ⟨ha, hO⟩ hl hd K' hK
          have d9 := hd 9 (by decide)
          have d11 := hd 11 (by decide)
          have d12 := hd 12 (by decide)
          have hx := X42.out; subst hx
          have hx := X44.out; subst hx
          have hx := X45.out; subst hx
          have hx := X46.out; subst hx
          simp only [fill_eq, List.take_succ_cons, List.take_zero, List.cons_append, List.nil_append, Act.put, List.setIfInBounds_toArray, List.set_cons_zero, List.set_cons_succ, sel_of d9, sel_of d11, sel_of d12] at ha
          subst ha
          rw [if_pos (by rfl)]
          go_simp
          refine (held_inv (FY.out wr (HTW3.out wr hO)) hO).mono ?_
          rintro e w1 ⟨rfl, hO1, hOW⟩
          go_wp2_with fail
          refine hK.out _ _ ⟨?_, hO1⟩
          simp only [fill_eq, List.take_succ_cons, List.take_zero, List.cons_append, List.nil_append, Act.put, List.setIfInBounds_toArray, List.set_cons_zero, List.set_cons_succ, sel_new, sel_dep d9, sel_dep d11, sel_dep d12]
          rfl
      · as_aux_lemma =>
          rintro l a wr ⟨ha, hO⟩ hl hd K' hK
          have d9 := hd 9 (by decide)
          have d10 := hd 10 (by decide)
          have d13 := hd 13 (by decide)
          have hx := X42.out; subst hx
          have hx := X43.out; subst hx
          have hx := X46.out; subst hx
          have hx := X47.out; subst hx
          simp only [fill_eq, List.take_succ_cons, List.take_zero, List.cons_append, List.nil_append, Act.put, List.setIfInBounds_toArray, List.set_cons_zero, List.set_cons_succ, sel_of d9, sel_of d10, sel_of d13] at ha
          subst ha
          rw [if_pos (by rfl)]
          go_simp
          refine (held_inv (FJ.out wr (HTW3.out wr hO)) hO).mono ?_
          rintro e w1 ⟨rfl, hO1, hOW⟩
          go_wp2_with fail
          refine hK.out _ _ ⟨?_, hO1⟩
          simp only [fill_eq, List.take_succ_cons, List.take_zero, List.cons_append, List.nil_append, Act.put, List.setIfInBounds_toArray, List.set_cons_zero, List.set_cons_succ, sel_new, sel_dep d9, sel_dep d10, sel_dep d13]
          rfl
      · as_aux_lemma =>
          rintro l a wr ⟨ha, hO⟩ hl hd K' hK
          have d9 := hd 9 (by decide)
          have hx := X42.out; subst hx
          have hx := X48.out; subst hx
          simp only [fill_eq, List.take_succ_cons, List.take_zero, List.cons_append, List.nil_append, Act.put, List.setIfInBounds_toArray, List.set_cons_zero, List.set_cons_succ, sel_of d9] at ha
          subst ha
          have hc := HK6.out wr hO
          have p0 := hc.2.1.1
          have p1 := hc.2.1.2.1
          have p2 := hc.2.1.2.2.1
          have p3 := hc.2.1.2.2.2
          clear hc
          rw [if_pos (by rfl)]
          go_simp
          refine hK.out _ _ ⟨?_, hO⟩
          simp only [fill_eq, List.take_succ_cons, List.take_zero, List.cons_append, List.nil_append, Act.put, List.setIfInBounds_toArray, List.set_cons_zero, List.set_cons_succ, sel_new, sel_dep d9]
          rfl
      · as_aux_lemma =>
          rintro l a wr ⟨ha, hO⟩ hl hd K' hK
          have d9 := hd 9 (by decide)
          have hx := X42.out; subst hx
          have hx := X49.out; subst hx
          simp only [fill_eq, List.take_succ_cons, List.take_zero, List.cons_append, List.nil_append, Act.put, List.setIfInBounds_toArray, List.set_cons_zero, List.set_cons_succ, sel_of d9] at ha
          subst ha
          have hc := HK6.out wr hO
          have p0 := hc.2.2.1.1
          have p1 := hc.2.2.1.2.1
          have p2 := hc.2.2.1.2.2.1
          have p3 := hc.2.2.1.2.2.2
          clear hc
          rw [if_pos (by rfl)]
          go_simp
          refine hK.out _ _ ⟨?_, hO⟩
          simp only [fill_eq, List.take_succ_cons, List.take_zero, List.cons_append, List.nil_append, Act.put, List.setIfInBounds_toArray, List.set_cons_zero, List.set_cons_succ, sel_new, sel_dep d9]
          rfl
      · as_aux_lemma =>
          rintro l a wr ⟨ha, hO⟩ hl hd K' hK
          have d9 := hd 9 (by decide)
          have d15 := hd 15 (by decide)
          have d16 := hd 16 (by decide)
          have hx := X42.out; subst hx
          have hx := X48.out; subst hx
          have hx := X49.out; subst hx
          have hx := X50.out; subst hx
          simp only [fill_eq, List.take_succ_cons, List.take_zero, List.cons_append, List.nil_append, Act.put, List.setIfInBounds_toArray, List.set_cons_zero, List.set_cons_succ, sel_of d9, sel_of d15, sel_of d16] at ha
          subst ha
          rw [if_pos (by rfl)]
          go_simp
          refine (held_inv (FX.out wr (HTW3.out wr hO)) hO).mono ?_
          rintro e w1 ⟨rfl, hO1, hOW⟩
          go_wp2_with fail
          refine hK.out _ _ ⟨?_, hO1⟩
          simp only [fill_eq, List.take_succ_cons, List.take_zero, List.cons_append, List.nil_append, Act.put, List.setIfInBounds_toArray, List.set_cons_zero, List.set_cons_succ, sel_new, sel_dep d9, sel_dep d15, sel_dep d16]
          rfl
      · as_aux_lemma =>
          rintro l a wr ⟨ha, hO⟩ hl hd K' hK
          have d9 := hd 9 (by decide)
          have d14 := hd 14 (by decide)
          have d17 := hd 17 (by decide)
          have hx := X42.out; subst hx
          have hx := X47.out; subst hx
          have hx := X50.out; subst hx
          have hx := X51.out; subst hx
          simp only [fill_eq, List.take_succ_cons, List.take_zero, List.cons_append, List.nil_append, Act.put, List.setIfInBounds_toArray, List.set_cons_zero, List.set_cons_succ, sel_of d9, sel_of d14, sel_of d17] at ha
          subst ha
          rw [if_pos (by rfl)]
          go_simp
          refine hK.out _ _ ⟨?_, hO⟩
          simp only [fill_eq, List.take_succ_cons, List.take_zero, List.cons_append, List.nil_append, Act.put, List.setIfInBounds_toArray, List.set_cons_zero, List.set_cons_succ, sel_new, sel_dep d9, sel_dep d14, sel_dep d17]
          rfl
      · as_aux_lemma =>
          rintro l a wr ⟨ha, hO⟩ hl hd K' hK
          have d9 := hd 9 (by decide)
          have d18 := hd 18 (by decide)
          have hx := X42.out; subst hx
          have hx := X51.out; subst hx
          have hx := X52.out; subst hx
          simp only [fill_eq, List.take_succ_cons, List.take_zero, List.cons_append, List.nil_append, Act.put, List.setIfInBounds_toArray, List.set_cons_zero, List.set_cons_succ, sel_of d9, sel_of d18] at ha
          subst ha
          rw [if_pos (by rfl)]
          go_simp
          refine hK.out _ _ ⟨?_, hO⟩
          simp only [fill_eq, List.take_succ_cons, List.take_zero, List.cons_append, List.nil_append, Act.put, List.setIfInBounds_toArray, List.set_cons_zero, List.set_cons_succ, sel_new, sel_dep d9, sel_dep d18]
          rfl
      · as_aux_lemma =>
          rintro l a wr ⟨ha, hO⟩ hl hd K' hK
          have d19 := hd 19 (by decide)
          have hx := X52.out; subst hx
          have hx := X4.out; subst hx
          simp only [fill_eq, List.take_succ_cons, List.take_zero, List.cons_append, List.nil_append, Act.put, List.setIfInBounds_toArray, List.set_cons_zero, List.set_cons_succ, sel_of d19] at ha
          subst ha
          rw [if_pos (by rfl)]
          go_simp
          refine hK.out _ _ ⟨?_, hO⟩
          simp only [fill_eq, List.take_succ_cons, List.take_zero, List.cons_append, List.nil_append, Act.put, List.setIfInBounds_toArray, List.set_cons_zero, List.set_cons_succ, sel_new, sel_dep d19]
          rfl
      · rintro l a wz ⟨ha, hO⟩ hd
        simp only [fill_eq, List.take_succ_cons, List.take_zero, List.cons_append, List.nil_append, Act.put, List.setIfInBounds_toArray, List.set_cons_zero, List.set_cons_succ, sel_of (hd 0 (by decide)), sel_of (hd 1 (by decide)), sel_of (hd 2 (by decide)), sel_of (hd 3 (by decide)), sel_of (hd 4 (by decide)), sel_of (hd 5 (by decide)), sel_of (hd 6 (by decide)), sel_of (hd 7 (by decide)), sel_of (hd 8 (by decide)), sel_of (hd 9 (by decide)), sel_of (hd 10 (by decide)), sel_of (hd 11 (by decide)), sel_of (hd 12 (by decide)), sel_of (hd 13 (by decide)), sel_of (hd 14 (by decide)), sel_of (hd 15 (by decide)), sel_of (hd 16 (by decide)), sel_of (hd 17 (by decide)), sel_of (hd 18 (by decide)), sel_of (hd 19 (by decide)), sel_of (hd 20 (by decide))] at ha
        subst ha
        have hx := X4.out; subst hx
        have HOf := Lib.hid ((HOw3.out).trans hO (fun _ _ c => c))
        clear hO hd
        go_wp2
        go_ret
        exact ⟨rfl, HOf.out⟩

theorem door_met (os : Os) (args : Array Value) : laidMetH Tryd.prog [("sharecore/field.fields", Rows.laid_sharecore_field_fields)] ((World.doorLaid Tryd.prog 400 os).forCall (fun _ _ => 0) ⟨#[], args, []⟩).memory :=
  laidMetH_of_parts3 (fuel := 8) (laidMet_of_run' 8 (by kernel_rfl) (by kernel_rfl)) (by kernel_rfl) (by kernel_rfl)

set_option maxRecDepth 100000 in
theorem lifted (os : Os) (started : os.Started) (H : Type) (enc : TypeId × Value → H) :
    ReturnsInHanded {} Tryd.checked os 4 .any (fun w args => (Rows.powerInvertsSpec.pre enc Tryd.prog Tryd.f4 [] false w args ∧ laidMetH Tryd.prog [("sharecore/field.fields", Rows.laid_sharecore_field_fields)] w) ∧ sizedMet enc Tryd.prog Tryd.f4 (OpenSpec.ofChange Rows.powerInvertsSpec) false w args)
      (Rows.powerInvertsSpec.post enc Tryd.prog Tryd.f4 false true false false) := by
  refine returnsInHanded_of_change_and (C := Tryd.checked) (X := fun w _ => laidMetH Tryd.prog [("sharecore/field.fields", Rows.laid_sharecore_field_fields)] w) (fun _ _ _ hh h => h.of_heap hh) own started (by kernel_rfl) Tryd.func4
    (ChangeSpec.witness_shaped (enc := enc) (C := Tryd.checked) (os := os) (X := fun w _ => laidMetH Tryd.prog [("sharecore/field.fields", Rows.laid_sharecore_field_fields)] w) false (World.doorLaid Tryd.prog 400 os) #[.bool false, .agg #[.int .u64 0, .int .u64 0, .int .u64 0, .int .u64 0]] 8 rfl (World.shaped_of_RefB (by kernel_rfl) (by kernel_rfl)) (by kernel_rfl) (by kernel_rfl) (by kernel_rfl) (door_met os _)) ?_
  intro W base args ds gs before hval0 hW _ _ hL _
  have hval : ∀ (j : Nat) t v, Tryd.f4.params[j]? = some t → args[j]? = some v → Value.okWide Tryd.prog W .any base t v := hval0
  have hW' := hW
  obtain ⟨p, q, hA0, hV, rfl, hfz, hnd⟩ := hW
  have hA : DataW.TrodAll enc Tryd.prog W 0 (fun _ => true) true Tryd.f4.params.toList args.toList ds p := hA0
  rw [Tryd.params4] at hA hval
  obtain ⟨v0, vs0, d0, ds0, p0, q0, hargs, rfl, rfl, h0, r0⟩ := trodAll_cons hA
  obtain ⟨v1, vs1, d1, ds1, p1, q1, rfl, rfl, rfl, h1, r1⟩ := trodAll_cons r0
  obtain ⟨rfl, rfl, rfl⟩ := trodAll_nil r1
  obtain rfl : args = #[v0, v1] := by cases args; simp_all
  obtain ⟨rfl, rfl⟩ := trodVars_none hV
  obtain ⟨i0, rfl, rfl, rfl⟩ := open_bool Tryd.underlying4 (hval 0 4 v0 rfl rfl) h0
  have w0 := trivial
  have k1 := h1
  have lt1 : ∀ x ∈ p1, x.block < W.heap.size := by obtain ⟨m, hm⟩ := k1; exact DataW.trod_lt m _ _ _ hm
  obtain ⟨n1, w1, rfl⟩ := open_vec (hval 1 23 v1 rfl rfl) h1
  have hT := tab_of_laid hL
  clear hA0 hval0
  refine (walk i0 n1 W w0 w1 hT).mono fun e W' ⟨he, hoff⟩ => ?_
  have bel : Below W.heap.size W W' := hoff.below (Nat.le_refl _) (fun _ _ c => c)
  subst he
  exact ⟨_, rfl, _, _, _, [], _, [], hW', trodAll_mk1 (shut_bool Tryd.underlying4 _), (trodAll_cons_mk (shut_bool Tryd.underlying4 _) (trodAll_cons_mk (Below.trod laidOut (by kernel_rfl) (of_decide_eq_true (by kernel_rfl)) k1 bel lt1) trodAll_mk0)), rfl, bel.frame _, fun h => by cases h⟩

theorem over : Rows.powerInvertsRow.holds Tryd.pinned (OpenSpec.ofChange Rows.powerInvertsSpec) :=
  OpenClaim.holds_of_wide 4 Tryd.f4 rfl rfl rfl rfl rfl rfl rfl ⟨rfl, rfl, rfl, rfl, rfl⟩ rfl rfl rfl rfl rfl (by kernel_rfl) Tryd.func4 (by kernel_rfl)
    (of_decide_eq_true (by kernel_rfl)) (by unfold Func.isWrapper; first | (rw [if_pos (by decide +kernel)]; kernel_rfl) | (rw [if_neg (by decide +kernel)]; exact ⟨rfl, rfl⟩))
    (fun os started H enc _ => lifted os started H enc)

theorem proved : Rows.PowerInvertsCardSaid :=
  Claim7.holds_tied_plain_at .later [] [.data] true (true, "83b913165a27ef716bd447b61373d9eb70f4ac054efc4ed5ca269b7b66cbbef5") false
    over (fun _ h => by cases h) (by kernel_rfl) (fun _ h => by cases h) powerInverts_row_tie rfl ⟨rfl, rfl⟩ (by kernel_rfl) rfl
    (fun f fn hf hfn => by
      obtain rfl : f = 4 := Option.some.inj ((show Tryd.prog.funcNamed "sharecore/sharecorelaw06.PowerInverts" = some 4 by kernel_rfl).symm.trans hf) |>.symm
      obtain rfl : fn = Tryd.f4 := (Option.some.inj (Tryd.func4.symm.trans hfn)).symm
      exact ⟨by kernel_rfl, fun j t ht => by
        rw [Tryd.params4] at ht
        have hm : t ∈ [4, 23] := by simpa using Array.mem_of_getElem? ht
        have hall : ([4, 23].all fun u => !Tryd.prog.wantsStandIn u) = true := by kernel_rfl
        exact (show Tryd.prog.wantsStandIn t = false by simpa using List.all_eq_true.1 hall t hm)⟩)
    (by kernel_rfl)
#print axioms proved
end Go.Proofs.YtnegdlmpmmehmaaDoor.powerInverts
