/-
  For every field and number, the examples of the chapter hold, and the product of two powers is the power with the sum of the exponents: the statement of P6.1 and P6.5. No condition.
-/
import Derived.Test.YtnegdlmpmmehmaaDoorRows
import Derived.Test.YtnegdlmpmmehmaaDoorTie
import Derived.Test.YtnegdlmpmmehmaaDoorCards
import Derived.LaidMore
import Derived.LaidHandle
import Derived.SevenTiedAt
import Derived.Stop.Joined
import Derived.JoinedOf
import Derived.Test.YtnegdlmpmmehmaaDoorLimbOpen
import Derived.Test.YtnegdlmpmmehmaaDoorFieldTab
import Derived.Test.YtnegdlmpmmehmaaDoorFieldHeld
import Derived.Test.YtnegdlmpmmehmaaDoorPowBase
import Derived.Test.YtnegdlmpmmehmaaDoorPowOpen
import Derived.Test.YtnegdlmpmmehmaaDoorInvMem
import Derived.Test.YtnegdlmpmmehmaaDoorInvSel
import Derived.WalkKit
import Derived.ProofKit
import Derived.OpenShut
import Derived.ShutString
import Derived.ChangeOld
import Derived.Below
namespace Go.Proofs.YtnegdlmpmmehmaaDoor.powerAdds
open Go.ChangeShapes Go.WideShapes Go.ChangeAt Go.RowKit
set_option linter.unusedVariables false

theorem own : ownKnob Tryd.prog.godebug = none := by kernel_rfl
theorem laidOut : laidOutB Tryd.prog = true := by kernel_rfl

set_option maxRecDepth 100000 in
set_option maxHeartbeats 4000000 in
theorem walk (i0 : Bool) (n1 : Nat) (n2 o2 : Nat) (w : World) (w0 : True) (w1 : n1 < R256) (w2 : n2 < 4294967296 ∧ o2 < 4294967296) (hT : TabAt w) :
    Calls Tryd.prog 7 #[.bool i0, V n1, .agg #[.int .u32 (n2 : Int), .int .u32 (o2 : Int)]] w fun e w' => e = .returned (.bool true) ∧ Off (fun _ => False) w w' := by
  obtain ⟨id, p, i, r, s, hF, hid⟩ := fld_of i0
  have hp := hF.mp.lt
  have h1 := hF.mp.one
  have FG := Lib.hid (fun W hT => get6_any i0 hF hid W hT)
  obtain ⟨c, hx⟩ : ∃ c, c = n1 % p := ⟨_, rfl⟩
  have hxp : c < p := by rw [hx]; exact Nat.mod_lt _ (by omega)
  have hxR : c < R256 := by omega
  have FMo : Hid (∀ W, TabAt W → Calls Tryd.prog 10 #[V p, V n1] W fun e w' => e = .returned (V c) ∧ Off (fun _ => False) W w') := Lib.hid (fun W hT => by rw [hx]; exact mod_mod p n1 hp h1 w1 W)
  have FAL : Hid (∀ W, TabAt W → Calls Tryd.prog 11 #[] W fun e w' => e = .returned (.bool true) ∧ Off (fun _ => False) W w') := Lib.hid (fun W hT => alive6_any W hT)
  obtain ⟨hodd, hfer, hp3⟩ := fld_more hF
  obtain ⟨u, hu⟩ : ∃ u, u = fm p c := ⟨_, rfl⟩
  obtain ⟨y, hy⟩ : ∃ y, y = c ^ n2 % p := ⟨_, rfl⟩
  obtain ⟨z, hz⟩ : ∃ z, z = c ^ o2 % p := ⟨_, rfl⟩
  have hyp : y < p := by rw [hy]; exact Nat.mod_lt _ (by omega)
  have hzp : z < p := by rw [hz]; exact Nat.mod_lt _ (by omega)
  obtain ⟨vy, hvy⟩ : ∃ vy, vy = fm p y := ⟨_, rfl⟩
  obtain ⟨vz, hvz⟩ : ∃ vz, vz = fm p z := ⟨_, rfl⟩
  have hvyp : vy < p := by rw [hvy]; exact fm_lt (by omega) _
  have hvzp : vz < p := by rw [hvz]; exact fm_lt (by omega) _
  obtain ⟨m, hm⟩ : ∃ m, m = y * z % p := ⟨_, rfl⟩
  have hmp : m < p := by rw [hm]; exact Nat.mod_lt _ (by omega)
  have hms : c ^ (n2 + o2) % p = m := by rw [hm, hy, hz, ← Nat.mul_mod, ← Nat.pow_add]
  obtain ⟨vm, hvm⟩ : ∃ vm, vm = fm p m := ⟨_, rfl⟩
  obtain ⟨ds, hds⟩ : ∃ ds, ds = n2 + o2 := ⟨_, rfl⟩
  rw [← hds] at hms
  have hwn : IntKind.u64.wrap (n2 : Int) = (n2 : Int) := by rw [IntKind.wrap_u64]; omega
  have hwo : IntKind.u64.wrap (o2 : Int) = (o2 : Int) := by rw [IntKind.wrap_u64]; omega
  have hws : IntKind.u64.wrap ((n2 : Int) + (o2 : Int)) = (ds : Int) := by rw [IntKind.wrap_u64]; omega
  have FX : Hid (∀ W, TabAt W → Calls Tryd.prog 13 #[V p, V c] W fun e w' => e = .returned (V u) ∧ Off (fun _ => False) W w') := Lib.hid (fun W hT => by rw [hu]; exact form6_any p c hp h1 hxR W)
  have FM : Hid (∀ W, TabAt W → Calls Tryd.prog 13 #[V p, V m] W fun e w' => e = .returned (V vm) ∧ Off (fun _ => False) W w') := Lib.hid (fun W hT => by rw [hvm]; exact form6_any p m hp h1 (by omega) W)
  have FPy : Hid (∀ W, TabAt W → Calls Tryd.prog 12 #[.pointer none, FV id p i r s, V u, .agg #[.int .u64 (n2 : Int), .int .u64 0, .int .u64 0, .int .u64 0]] W fun e w' => e = .returned (V vy) ∧ Off (fun _ => False) W w') := Lib.hid (fun W hT => by rw [← lit_small n2 (by omega), hu, hvy, hy]; exact pow_nil hF c n2 (Nat.lt_trans (show n2 < 4294967296 by omega) (by decide)) W)
  have FPz : Hid (∀ W, TabAt W → Calls Tryd.prog 12 #[.pointer none, FV id p i r s, V u, .agg #[.int .u64 (o2 : Int), .int .u64 0, .int .u64 0, .int .u64 0]] W fun e w' => e = .returned (V vz) ∧ Off (fun _ => False) W w') := Lib.hid (fun W hT => by rw [← lit_small o2 (by omega), hu, hvz, hz]; exact pow_nil hF c o2 (Nat.lt_trans (show o2 < 4294967296 by omega) (by decide)) W)
  have FPs : Hid (∀ W, TabAt W → Calls Tryd.prog 12 #[.pointer none, FV id p i r s, V u, .agg #[.int .u64 (ds : Int), .int .u64 0, .int .u64 0, .int .u64 0]] W fun e w' => e = .returned (V vm) ∧ Off (fun _ => False) W w') := Lib.hid (fun W hT => by rw [← lit_small ds (by omega), hu, hvm, ← hms]; exact pow_nil hF c ds (Nat.lt_trans (show ds < 8589934592 by omega) (by decide)) W)
  have FVy : Hid (∀ W, TabAt W → Calls Tryd.prog 15 #[V p, V vy] W fun e w' => e = .returned (V y) ∧ Off (fun _ => False) W w') := Lib.hid (fun W hT => by have h := value_any p vy hF.mp hodd hvyp W; rw [hvy, mm_one hF.mp, Nat.mod_eq_of_lt hyp, ← hvy] at h; exact h)
  have FVz : Hid (∀ W, TabAt W → Calls Tryd.prog 15 #[V p, V vz] W fun e w' => e = .returned (V z) ∧ Off (fun _ => False) W w') := Lib.hid (fun W hT => by have h := value_any p vz hF.mp hodd hvzp W; rw [hvz, mm_one hF.mp, Nat.mod_eq_of_lt hzp, ← hvz] at h; exact h)
  have FMu : Hid (∀ W, TabAt W → Calls Tryd.prog 17 #[V p, V y, V z] W fun e w' => e = .returned (V m) ∧ Off (fun _ => False) W w') := Lib.hid (fun W hT => by have h := mod_mul p y z hp h1 hyp (by omega) W; rw [← hm] at h; exact h)
  clear hx hxp hxR hu hodd hfer hp3 hy hz hyp hzp hvy hvz hvyp hvzp hm hmp hms hvm hds hF hid hp h1 w0 w1 w2
  have e1 := equalIn_elem_same
  have e2 := equalIn_same
  go_enter Tryd.func7, Tryd.ntmps7
  go_wp2_with fail
  refine (FG.out _ (hT.off (((Off.refl _ w).alloc _).alloc _))).mono ?_
  rintro e u0 ⟨rfl, hO1⟩
  have hO0 : Off (fun _ => False) w u0 := (((Off.refl _ w).alloc _).alloc _).trans hO1 (fun _ _ c => c)
  have hn1c : u0.heap[w.heap.size]? = some (.cells #[.int .u64 (wd n1 0 : Int), .int .u64 (wd n1 1 : Int), .int .u64 (wd n1 2 : Int), .int .u64 (wd n1 3 : Int)] 23) := hO1.heap (heap_old' (heap_new' rfl _) _) (fun c => c)
  have hd2c : u0.heap[w.heap.size + 1]? = some (.cells #[.int .u32 (n2 : Int), .int .u32 (o2 : Int)] 49) := hO1.heap (heap_new' (by simp) _) (fun c => c)
  obtain ⟨W1, eW1⟩ : ∃ W1, W1 = (((u0).alloc (.cells #[.int .i64 id, .int .u64 (wd p 0 : Int), .int .u64 (wd p 1 : Int), .int .u64 (wd p 2 : Int), .int .u64 (wd p 3 : Int), .int .u64 (i : Int), .int .u64 (wd r 0 : Int), .int .u64 (wd r 1 : Int), .int .u64 (wd r 2 : Int), .int .u64 (wd r 3 : Int), .int .u64 (wd s 0 : Int), .int .u64 (wd s 1 : Int), .int .u64 (wd s 2 : Int), .int .u64 (wd s 3 : Int)] 26)).alloc (.cells #[.int .u64 (wd p 0 : Int), .int .u64 (wd p 1 : Int), .int .u64 (wd p 2 : Int), .int .u64 (wd p 3 : Int)] 23)) := ⟨_, rfl⟩
  have oW1 : Off (fun _ => False) u0 W1 := by rw [eW1]; exact ((Off.refl _ u0).alloc _).alloc _
  have hFc : W1.heap[u0.heap.size]? = some (.cells #[.int .i64 id, .int .u64 (wd p 0 : Int), .int .u64 (wd p 1 : Int), .int .u64 (wd p 2 : Int), .int .u64 (wd p 3 : Int), .int .u64 (i : Int), .int .u64 (wd r 0 : Int), .int .u64 (wd r 1 : Int), .int .u64 (wd r 2 : Int), .int .u64 (wd r 3 : Int), .int .u64 (wd s 0 : Int), .int .u64 (wd s 1 : Int), .int .u64 (wd s 2 : Int), .int .u64 (wd s 3 : Int)] 26) := by rw [eW1]; exact heap_old' (heap_new' rfl _) _
  have hPc : W1.heap[u0.heap.size + 1]? = some (.cells #[.int .u64 (wd p 0 : Int), .int .u64 (wd p 1 : Int), .int .u64 (wd p 2 : Int), .int .u64 (wd p 3 : Int)] 23) := by rw [eW1]; exact heap_new' (by simp) _
  have hn1c1 := oW1.heap hn1c (fun c => c)
  have hd2c1 := oW1.heap hd2c (fun c => c)
  obtain ⟨a0, a1, a2, a3⟩ := cells4 hn1c1
  obtain ⟨p0, p1, p2, p3⟩ := cells4 hPc
  have l0 := heap_lt hd2c
  have l1 := heap_lt hPc
  have HT1 := Lib.hid (hT.off (hO0.trans oW1 (fun _ _ c => c)))
  have HO1 := Lib.hid (hO0.trans oW1 (fun _ _ c => c))
  have HW1 := Lib.hid eW1
  have HFc := Lib.hid hFc
  have HPc := Lib.hid hPc
  have HDc := Lib.hid hd2c1
  clear hO1 hO0 hn1c hn1c1 hd2c hd2c1 hFc hPc eW1 oW1
  go_upto_region 2 with fail
  rw [← HW1.out]
  go_wp2_with fail
  refine (FMo.out _ HT1.out).mono ?_
  rintro e u1 ⟨rfl, hO2⟩
  clear a0 a1 a2 a3 p0 p1 p2 p3
  obtain ⟨W2, eW2⟩ : ∃ W2, W2 = ((u1).alloc (.cells #[.int .u64 (wd c 0 : Int), .int .u64 (wd c 1 : Int), .int .u64 (wd c 2 : Int), .int .u64 (wd c 3 : Int)] 23)) := ⟨_, rfl⟩
  have oW2 : Off (fun _ => False) u1 W2 := by rw [eW2]; exact (Off.refl _ u1).alloc _
  have hXk : W2.heap[u1.heap.size]? = some (.cells #[.int .u64 (wd c 0 : Int), .int .u64 (wd c 1 : Int), .int .u64 (wd c 2 : Int), .int .u64 (wd c 3 : Int)] 23) := by rw [eW2]; exact heap_new' rfl _
  have hOx := hO2.trans oW2 (fun _ _ c => c)
  have hPk := hOx.heap HPc.out (fun c => c)
  obtain ⟨p0, p1, p2, p3⟩ := cells4 hPk
  obtain ⟨x0, x1, x2, x3⟩ := cells4 hXk
  have HT2 := Lib.hid (HT1.out.off hOx)
  have HO2 := Lib.hid (HO1.out.trans hOx (fun _ _ c => c))
  have HF2 := Lib.hid (hOx.heap HFc.out (fun c => c))
  have HP2 := Lib.hid hPk
  have HD2 := Lib.hid (hOx.heap HDc.out (fun c => c))
  have l2 := heap_lt hXk
  have HW2 := Lib.hid eW2
  clear hO2 oW2 hOx hPk hXk eW2 HT1 HO1 HW1 HFc HPc HDc
  go_upto_region 3 with fail
  rw [← HW2.out]
  go_wp2_with fail
  refine (FX.out _ HT2.out).mono ?_
  rintro e u3 ⟨rfl, hO3⟩
  clear p0 p1 p2 p3 x0 x1 x2 x3
  obtain ⟨W4, eW4⟩ : ∃ W4, W4 = ((u3).alloc (.cells #[.int .u64 (wd u 0 : Int), .int .u64 (wd u 1 : Int), .int .u64 (wd u 2 : Int), .int .u64 (wd u 3 : Int)] 24)) := ⟨_, rfl⟩
  have oW4 : Off (fun _ => False) u3 W4 := by rw [eW4]; exact (Off.refl _ u3).alloc _
  have hUk : W4.heap[u3.heap.size]? = some (.cells #[.int .u64 (wd u 0 : Int), .int .u64 (wd u 1 : Int), .int .u64 (wd u 2 : Int), .int .u64 (wd u 3 : Int)] 24) := by rw [eW4]; exact heap_new' rfl _
  have hOx := hO3.trans oW4 (fun _ _ c => c)
  have HTW := Lib.hid (fun W (h : Off (fun _ => False) W4 W) => (HT2.out.off hOx).off h)
  have HOw := Lib.hid (HO2.out.trans hOx (fun _ _ c => c))
  have HF4 := Lib.hid (hOx.heap HF2.out (fun c => c))
  have HP4 := Lib.hid (hOx.heap HP2.out (fun c => c))
  have HD4 := Lib.hid (hOx.heap HD2.out (fun c => c))
  have HU4 := Lib.hid hUk
  have HK4 : Hid (∀ W, Off (fun _ => False) W4 W → (W.cell? ⟨u0.heap.size, 0, none⟩ = some (.int .i64 id) ∧ W.cell? ⟨u0.heap.size, 1, none⟩ = some (.int .u64 (wd p 0 : Int)) ∧ W.cell? ⟨u0.heap.size, 2, none⟩ = some (.int .u64 (wd p 1 : Int)) ∧ W.cell? ⟨u0.heap.size, 3, none⟩ = some (.int .u64 (wd p 2 : Int)) ∧ W.cell? ⟨u0.heap.size, 4, none⟩ = some (.int .u64 (wd p 3 : Int)) ∧ W.cell? ⟨u0.heap.size, 5, none⟩ = some (.int .u64 (i : Int)) ∧ W.cell? ⟨u0.heap.size, 6, none⟩ = some (.int .u64 (wd r 0 : Int)) ∧ W.cell? ⟨u0.heap.size, 7, none⟩ = some (.int .u64 (wd r 1 : Int)) ∧ W.cell? ⟨u0.heap.size, 8, none⟩ = some (.int .u64 (wd r 2 : Int)) ∧ W.cell? ⟨u0.heap.size, 9, none⟩ = some (.int .u64 (wd r 3 : Int)) ∧ W.cell? ⟨u0.heap.size, 10, none⟩ = some (.int .u64 (wd s 0 : Int)) ∧ W.cell? ⟨u0.heap.size, 11, none⟩ = some (.int .u64 (wd s 1 : Int)) ∧ W.cell? ⟨u0.heap.size, 12, none⟩ = some (.int .u64 (wd s 2 : Int)) ∧ W.cell? ⟨u0.heap.size, 13, none⟩ = some (.int .u64 (wd s 3 : Int))) ∧ (W.cell? ⟨u0.heap.size + 1, 0, none⟩ = some (.int .u64 (wd p 0 : Int)) ∧ W.cell? ⟨u0.heap.size + 1, 1, none⟩ = some (.int .u64 (wd p 1 : Int)) ∧ W.cell? ⟨u0.heap.size + 1, 2, none⟩ = some (.int .u64 (wd p 2 : Int)) ∧ W.cell? ⟨u0.heap.size + 1, 3, none⟩ = some (.int .u64 (wd p 3 : Int))) ∧ (W.cell? ⟨u3.heap.size, 0, none⟩ = some (.int .u64 (wd u 0 : Int)) ∧ W.cell? ⟨u3.heap.size, 1, none⟩ = some (.int .u64 (wd u 1 : Int)) ∧ W.cell? ⟨u3.heap.size, 2, none⟩ = some (.int .u64 (wd u 2 : Int)) ∧ W.cell? ⟨u3.heap.size, 3, none⟩ = some (.int .u64 (wd u 3 : Int))) ∧ (W.cell? ⟨w.heap.size + 1, 0, none⟩ = some (.int .u32 (n2 : Int)) ∧ W.cell? ⟨w.heap.size + 1, 1, none⟩ = some (.int .u32 (o2 : Int))) ∧ Off (fun _ => False) W4 W) := Lib.hid (fun W h => ⟨fv_cells (h.heap HF4.out (fun c => c)), cells4 (h.heap HP4.out (fun c => c)), cells4 (h.heap HU4.out (fun c => c)), ⟨cell_of_heap (h.heap HD4.out (fun c => c)) 0, cell_of_heap (h.heap HD4.out (fun c => c)) 1⟩, h⟩)
  have HW4 := Lib.hid eW4
  clear hO3 oW4 hOx hUk eW4 HT2 HO2 HW2 HF2 HP2 HD2
  go_upto_region 4 with fail
  rw [← HW4.out]
  refine wp_region_inv (fun a0 l a' w' => ∃ (u24 : Value) (u25 : Value) (u26 : Value) (u27 : Value) (u28 : Value) (u29 : Value) (u30 : Value) (u31 : Value) (u32 : Value) (u11 : Value) (b11 : Nat), a' = (Act.put (Act.put (Act.put (Act.put (Act.put (Act.put (Act.put (Act.put (Act.put (Act.put a0 (some 24) u24) (some 25) u25) (some 26) u26) (some 27) u27) (some 28) u28) (some 29) u29) (some 30) u30) (some 31) u31) (some 32) u32) (some 11) u11) ∧ Slot l 0 u24 (V p) ∧ Slot l 1 u25 (FV id p i r s) ∧ Slot l 2 u26 (V u) ∧ Slot l 3 u27 (.pointer (some ⟨w.heap.size + 1, 0, none⟩)) ∧ Slot l 4 u28 (.int .u32 (n2 : Int)) ∧ Slot l 5 u29 (.int .u64 (n2 : Int)) ∧ Slot l 6 u30 (.agg #[.int .u64 (n2 : Int), .int .u64 0, .int .u64 0, .int .u64 0]) ∧ Slot l 7 u31 (V vy) ∧ Slot l 8 u32 (V y) ∧ Blk l 9 10 u11 b11 W4 w' (.cells #[.int .u64 0, .int .u64 0, .int .u64 0, .int .u64 0] 23) (.cells #[.int .u64 (wd y 0 : Int), .int .u64 (wd y 1 : Int), .int .u64 (wd y 2 : Int), .int .u64 (wd y 3 : Int)] 23) ∧ Off (fun _ => False) W4 w') (by kernel_rfl) (by kernel_rfl) ?_ ⟨?_, ?_, ?_, ?_, ?_, ?_, ?_, ?_, ?_, ?_, ?_, trivial⟩ ?_
  · refine ⟨?z24, ?z25, ?z26, ?z27, ?z28, ?z29, ?z30, ?z31, ?z32, ?z11, 0, ?fr, Slot.start _ _ _, Slot.start _ _ _, Slot.start _ _ _, Slot.start _ _ _, Slot.start _ _ _, Slot.start _ _ _, Slot.start _ _ _, Slot.start _ _ _, Slot.start _ _ _, Blk.start _ _ _ _ _ _ _ _, (Off.refl _ W4).drew⟩
    case fr => first | (simp only [Act.put, List.setIfInBounds_toArray, List.set_cons_zero, List.set_cons_succ]; rfl) | simp only [Act.put, List.setIfInBounds_toArray, List.set_cons_zero, List.set_cons_succ]
  · intro l a wr hI hl hd K' hK
    obtain ⟨u24, u25, u26, u27, u28, u29, u30, u31, u32, u11, b11, ha, s0, s1, s2, s3, s4, s5, s6, s7, s8, B9, hO⟩ := hI
    simp only [Act.put, List.setIfInBounds_toArray, List.set_cons_zero, List.set_cons_succ] at ha
    subst ha
    have hc := HK4.out wr hO
    have p0 := hc.2.1.1
    have p1 := hc.2.1.2.1
    have p2 := hc.2.1.2.2.1
    have p3 := hc.2.1.2.2.2
    clear hc
    go_simp
    refine hK.out _ _ ⟨_, _, _, _, _, _, _, _, _, _, _, ?_, Slot.new _ _ _, s1.keep rfl, s2.keep rfl, s3.keep rfl, s4.keep rfl, s5.keep rfl, s6.keep rfl, s7.keep rfl, s8.keep rfl, B9.keep (Off.refl _ wr) rfl rfl, hO⟩
    simp only [Act.put, List.setIfInBounds_toArray, List.set_cons_zero, List.set_cons_succ]
  · intro l a wr hI hl hd K' hK
    obtain ⟨u24, u25, u26, u27, u28, u29, u30, u31, u32, u11, b11, ha, s0, s1, s2, s3, s4, s5, s6, s7, s8, B9, hO⟩ := hI
    simp only [Act.put, List.setIfInBounds_toArray, List.set_cons_zero, List.set_cons_succ] at ha
    subst ha
    have hc := HK4.out wr hO
    have p0 := hc.1.1
    have p1 := hc.1.2.1
    have p2 := hc.1.2.2.1
    have p3 := hc.1.2.2.2.1
    have p4 := hc.1.2.2.2.2.1
    have p5 := hc.1.2.2.2.2.2.1
    have p6 := hc.1.2.2.2.2.2.2.1
    have p7 := hc.1.2.2.2.2.2.2.2.1
    have p8 := hc.1.2.2.2.2.2.2.2.2.1
    have p9 := hc.1.2.2.2.2.2.2.2.2.2.1
    have p10 := hc.1.2.2.2.2.2.2.2.2.2.2.1
    have p11 := hc.1.2.2.2.2.2.2.2.2.2.2.2.1
    have p12 := hc.1.2.2.2.2.2.2.2.2.2.2.2.2.1
    have p13 := hc.1.2.2.2.2.2.2.2.2.2.2.2.2.2
    clear hc
    go_simp
    refine hK.out _ _ ⟨_, _, _, _, _, _, _, _, _, _, _, ?_, s0.keep rfl, Slot.new _ _ _, s2.keep rfl, s3.keep rfl, s4.keep rfl, s5.keep rfl, s6.keep rfl, s7.keep rfl, s8.keep rfl, B9.keep (Off.refl _ wr) rfl rfl, hO⟩
    simp only [Act.put, List.setIfInBounds_toArray, List.set_cons_zero, List.set_cons_succ]
  · intro l a wr hI hl hd K' hK
    obtain ⟨u24, u25, u26, u27, u28, u29, u30, u31, u32, u11, b11, ha, s0, s1, s2, s3, s4, s5, s6, s7, s8, B9, hO⟩ := hI
    simp only [Act.put, List.setIfInBounds_toArray, List.set_cons_zero, List.set_cons_succ] at ha
    subst ha
    have hc := HK4.out wr hO
    have p0 := hc.2.2.1.1
    have p1 := hc.2.2.1.2.1
    have p2 := hc.2.2.1.2.2.1
    have p3 := hc.2.2.1.2.2.2
    clear hc
    go_simp
    refine hK.out _ _ ⟨_, _, _, _, _, _, _, _, _, _, _, ?_, s0.keep rfl, s1.keep rfl, Slot.new _ _ _, s3.keep rfl, s4.keep rfl, s5.keep rfl, s6.keep rfl, s7.keep rfl, s8.keep rfl, B9.keep (Off.refl _ wr) rfl rfl, hO⟩
    simp only [Act.put, List.setIfInBounds_toArray, List.set_cons_zero, List.set_cons_succ]
  · intro l a wr hI hl hd K' hK
    obtain ⟨u24, u25, u26, u27, u28, u29, u30, u31, u32, u11, b11, ha, s0, s1, s2, s3, s4, s5, s6, s7, s8, B9, hO⟩ := hI
    simp only [Act.put, List.setIfInBounds_toArray, List.set_cons_zero, List.set_cons_succ] at ha
    subst ha
    go_simp
    refine hK.out _ _ ⟨_, _, _, _, _, _, _, _, _, _, _, ?_, s0.keep rfl, s1.keep rfl, s2.keep rfl, Slot.new _ _ _, s4.keep rfl, s5.keep rfl, s6.keep rfl, s7.keep rfl, s8.keep rfl, B9.keep (Off.refl _ wr) rfl rfl, hO⟩
    simp only [Act.put, List.setIfInBounds_toArray, List.set_cons_zero, List.set_cons_succ]
  · intro l a wr hI hl hd K' hK
    obtain ⟨u24, u25, u26, u27, u28, u29, u30, u31, u32, u11, b11, ha, s0, s1, s2, s3, s4, s5, s6, s7, s8, B9, hO⟩ := hI
    simp only [Act.put, List.setIfInBounds_toArray, List.set_cons_zero, List.set_cons_succ] at ha
    have q3 := s3 (hd 3 (by decide))
    subst ha q3
    have hc := HK4.out wr hO
    have p0 := hc.2.2.2.1.1
    have p1 := hc.2.2.2.1.2
    clear hc
    go_simp
    refine hK.out _ _ ⟨_, _, _, _, _, _, _, _, _, _, _, ?_, s0.keep rfl, s1.keep rfl, s2.keep rfl, s3.keep rfl, Slot.new _ _ _, s5.keep rfl, s6.keep rfl, s7.keep rfl, s8.keep rfl, B9.keep (Off.refl _ wr) rfl rfl, hO⟩
    simp only [Act.put, List.setIfInBounds_toArray, List.set_cons_zero, List.set_cons_succ]
  · intro l a wr hI hl hd K' hK
    obtain ⟨u24, u25, u26, u27, u28, u29, u30, u31, u32, u11, b11, ha, s0, s1, s2, s3, s4, s5, s6, s7, s8, B9, hO⟩ := hI
    simp only [Act.put, List.setIfInBounds_toArray, List.set_cons_zero, List.set_cons_succ] at ha
    have q4 := s4 (hd 4 (by decide))
    subst ha q4
    go_simp
    refine hK.out _ _ ⟨_, _, _, _, _, _, _, _, _, _, _, ?_, s0.keep rfl, s1.keep rfl, s2.keep rfl, s3.keep rfl, s4.keep rfl, Slot.new _ _ _, s6.keep rfl, s7.keep rfl, s8.keep rfl, B9.keep (Off.refl _ wr) rfl rfl, hO⟩
    simp only [Act.put, List.setIfInBounds_toArray, List.set_cons_zero, List.set_cons_succ]
  · intro l a wr hI hl hd K' hK
    obtain ⟨u24, u25, u26, u27, u28, u29, u30, u31, u32, u11, b11, ha, s0, s1, s2, s3, s4, s5, s6, s7, s8, B9, hO⟩ := hI
    simp only [Act.put, List.setIfInBounds_toArray, List.set_cons_zero, List.set_cons_succ] at ha
    have q5 := s5 (hd 5 (by decide))
    subst ha q5
    go_simp
    refine hK.out _ _ ⟨_, _, _, _, _, _, _, _, _, _, _, ?_, s0.keep rfl, s1.keep rfl, s2.keep rfl, s3.keep rfl, s4.keep rfl, s5.keep rfl, Slot.new _ _ _, s7.keep rfl, s8.keep rfl, B9.keep (Off.refl _ wr) rfl rfl, hO⟩
    simp only [Act.put, List.setIfInBounds_toArray, List.set_cons_zero, List.set_cons_succ]
  · intro l a wr hI hl hd K' hK
    obtain ⟨u24, u25, u26, u27, u28, u29, u30, u31, u32, u11, b11, ha, s0, s1, s2, s3, s4, s5, s6, s7, s8, B9, hO⟩ := hI
    simp only [Act.put, List.setIfInBounds_toArray, List.set_cons_zero, List.set_cons_succ] at ha
    have q1 := s1 (hd 1 (by decide))
    have q2 := s2 (hd 2 (by decide))
    have q6 := s6 (hd 6 (by decide))
    subst ha q1 q2 q6
    go_simp
    refine (held_inv (FPy.out wr (HTW.out wr hO)) hO).mono ?_
    rintro e w1 ⟨rfl, hO1, hOW⟩
    go_wp2_with fail
    refine hK.out _ _ ⟨_, _, _, _, _, _, _, _, _, _, _, ?_, s0.keep rfl, s1.keep rfl, s2.keep rfl, s3.keep rfl, s4.keep rfl, s5.keep rfl, s6.keep rfl, Slot.new _ _ _, s8.keep rfl, B9.keep hOW rfl rfl, hO1⟩
    simp only [Act.put, List.setIfInBounds_toArray, List.set_cons_zero, List.set_cons_succ]
  · intro l a wr hI hl hd K' hK
    obtain ⟨u24, u25, u26, u27, u28, u29, u30, u31, u32, u11, b11, ha, s0, s1, s2, s3, s4, s5, s6, s7, s8, B9, hO⟩ := hI
    simp only [Act.put, List.setIfInBounds_toArray, List.set_cons_zero, List.set_cons_succ] at ha
    have q0 := s0 (hd 0 (by decide))
    have q7 := s7 (hd 7 (by decide))
    subst ha q0 q7
    go_simp
    refine (held_inv (FVy.out wr (HTW.out wr hO)) hO).mono ?_
    rintro e w1 ⟨rfl, hO1, hOW⟩
    go_wp2_with fail
    refine hK.out _ _ ⟨_, _, _, _, _, _, _, _, _, _, _, ?_, s0.keep rfl, s1.keep rfl, s2.keep rfl, s3.keep rfl, s4.keep rfl, s5.keep rfl, s6.keep rfl, s7.keep rfl, Slot.new _ _ _, B9.keep hOW rfl rfl, hO1⟩
    simp only [Act.put, List.setIfInBounds_toArray, List.set_cons_zero, List.set_cons_succ]
  · intro l a wr hI hl hd K' hK
    obtain ⟨u24, u25, u26, u27, u28, u29, u30, u31, u32, u11, b11, ha, s0, s1, s2, s3, s4, s5, s6, s7, s8, B9, hO⟩ := hI
    simp only [Act.put, List.setIfInBounds_toArray, List.set_cons_zero, List.set_cons_succ] at ha
    subst ha
    go_simp
    refine hK.out _ _ ⟨_, _, _, _, _, _, _, _, _, _, _, ?_, s0.keep rfl, s1.keep rfl, s2.keep rfl, s3.keep rfl, s4.keep rfl, s5.keep rfl, s6.keep rfl, s7.keep rfl, s8.keep rfl, B9.make hl rfl hO, hO.alloc _⟩
    simp only [Act.put, List.setIfInBounds_toArray, List.set_cons_zero, List.set_cons_succ]
  · intro l a wr hI hl hd K' hK
    obtain ⟨u24, u25, u26, u27, u28, u29, u30, u31, u32, u11, b11, ha, s0, s1, s2, s3, s4, s5, s6, s7, s8, B9, hO⟩ := hI
    simp only [Act.put, List.setIfInBounds_toArray, List.set_cons_zero, List.set_cons_succ] at ha
    have h9 := hd 9 (by decide)
    have q9 := B9.ptr h9
    have q8 := s8 (hd 8 (by decide))
    subst ha q9 q8
    obtain ⟨⟨m0, m1, m2, m3⟩, fz, lt⟩ := zero_cells (B9.was h9 hl)
    go_simp
    refine hK.out _ _ ⟨_, _, _, _, _, _, _, _, _, _, _, ?_, s0.keep rfl, s1.keep rfl, s2.keep rfl, s3.keep rfl, s4.keep rfl, s5.keep rfl, s6.keep rfl, s7.keep rfl, s8.keep rfl, B9.put hl h9 rfl rfl, setCells_in hO (fun c => absurd c (Nat.not_lt.2 (B9.new h9))) [.int .u64 (wd y 0 : Int), .int .u64 (wd y 1 : Int), .int .u64 (wd y 2 : Int), .int .u64 (wd y 3 : Int)]⟩
    simp only [Act.put, List.setIfInBounds_toArray, List.set_cons_zero, List.set_cons_succ]
  · intro l a wc hI hd
    obtain ⟨u24, u25, u26, u27, u28, u29, u30, u31, u32, u11, b11, ha, s0, s1, s2, s3, s4, s5, s6, s7, s8, B9, hO⟩ := hI
    simp only [Act.put, List.setIfInBounds_toArray, List.set_cons_zero, List.set_cons_succ] at ha
    have q0 := s0 (hd 0 (by decide))
    have q1 := s1 (hd 1 (by decide))
    have q2 := s2 (hd 2 (by decide))
    have q3 := s3 (hd 3 (by decide))
    have q4 := s4 (hd 4 (by decide))
    have q5 := s5 (hd 5 (by decide))
    have q6 := s6 (hd 6 (by decide))
    have q7 := s7 (hd 7 (by decide))
    have q8 := s8 (hd 8 (by decide))
    have q9 := B9.ptr (hd 9 (by decide))
    have n11 : wc.heap[b11]? = some (.cells #[.int .u64 (wd y 0 : Int), .int .u64 (wd y 1 : Int), .int .u64 (wd y 2 : Int), .int .u64 (wd y 3 : Int)] 23) := B9.now (hd 9 (by decide)) (hd 10 (by decide))
    have v11 := B9.new (hd 9 (by decide))
    subst ha q0 q1 q2 q3 q4 q5 q6 q7 q8 q9
    clear hd s0 s1 s2 s3 s4 s5 s6 s7 s8 B9
    obtain ⟨W5, hW5⟩ : ∃ W5, W5 = wc := ⟨_, rfl⟩
    subst hW5
    have HF5 := Lib.hid (hO.heap HF4.out (fun c => c))
    have HP5 := Lib.hid (hO.heap HP4.out (fun c => c))
    have HD5 := Lib.hid (hO.heap HD4.out (fun c => c))
    have HU5 := Lib.hid (hO.heap HU4.out (fun c => c))
    have HY5 := Lib.hid n11
    have HTW5 := Lib.hid (fun W (h : Off (fun _ => False) W5 W) => HTW.out W (hO.trans h (fun _ _ c => c)))
    have HOw5 := Lib.hid (HOw.out.trans hO (fun _ _ c => c))
    have HK5 : Hid (∀ W, Off (fun _ => False) W5 W → (W.cell? ⟨u0.heap.size, 0, none⟩ = some (.int .i64 id) ∧ W.cell? ⟨u0.heap.size, 1, none⟩ = some (.int .u64 (wd p 0 : Int)) ∧ W.cell? ⟨u0.heap.size, 2, none⟩ = some (.int .u64 (wd p 1 : Int)) ∧ W.cell? ⟨u0.heap.size, 3, none⟩ = some (.int .u64 (wd p 2 : Int)) ∧ W.cell? ⟨u0.heap.size, 4, none⟩ = some (.int .u64 (wd p 3 : Int)) ∧ W.cell? ⟨u0.heap.size, 5, none⟩ = some (.int .u64 (i : Int)) ∧ W.cell? ⟨u0.heap.size, 6, none⟩ = some (.int .u64 (wd r 0 : Int)) ∧ W.cell? ⟨u0.heap.size, 7, none⟩ = some (.int .u64 (wd r 1 : Int)) ∧ W.cell? ⟨u0.heap.size, 8, none⟩ = some (.int .u64 (wd r 2 : Int)) ∧ W.cell? ⟨u0.heap.size, 9, none⟩ = some (.int .u64 (wd r 3 : Int)) ∧ W.cell? ⟨u0.heap.size, 10, none⟩ = some (.int .u64 (wd s 0 : Int)) ∧ W.cell? ⟨u0.heap.size, 11, none⟩ = some (.int .u64 (wd s 1 : Int)) ∧ W.cell? ⟨u0.heap.size, 12, none⟩ = some (.int .u64 (wd s 2 : Int)) ∧ W.cell? ⟨u0.heap.size, 13, none⟩ = some (.int .u64 (wd s 3 : Int))) ∧ (W.cell? ⟨u0.heap.size + 1, 0, none⟩ = some (.int .u64 (wd p 0 : Int)) ∧ W.cell? ⟨u0.heap.size + 1, 1, none⟩ = some (.int .u64 (wd p 1 : Int)) ∧ W.cell? ⟨u0.heap.size + 1, 2, none⟩ = some (.int .u64 (wd p 2 : Int)) ∧ W.cell? ⟨u0.heap.size + 1, 3, none⟩ = some (.int .u64 (wd p 3 : Int))) ∧ (W.cell? ⟨u3.heap.size, 0, none⟩ = some (.int .u64 (wd u 0 : Int)) ∧ W.cell? ⟨u3.heap.size, 1, none⟩ = some (.int .u64 (wd u 1 : Int)) ∧ W.cell? ⟨u3.heap.size, 2, none⟩ = some (.int .u64 (wd u 2 : Int)) ∧ W.cell? ⟨u3.heap.size, 3, none⟩ = some (.int .u64 (wd u 3 : Int))) ∧ (W.cell? ⟨w.heap.size + 1, 0, none⟩ = some (.int .u32 (n2 : Int)) ∧ W.cell? ⟨w.heap.size + 1, 1, none⟩ = some (.int .u32 (o2 : Int))) ∧ Off (fun _ => False) W5 W) := Lib.hid (fun W h => ⟨fv_cells (h.heap HF5.out (fun c => c)), cells4 (h.heap HP5.out (fun c => c)), cells4 (h.heap HU5.out (fun c => c)), ⟨cell_of_heap (h.heap HD5.out (fun c => c)) 0, cell_of_heap (h.heap HD5.out (fun c => c)) 1⟩, h⟩)
    clear hO n11 v11 HTW HOw HK4 HF4 HP4 HD4 HU4 HW4
    go_upto_region 5 with fail
    refine wp_region_inv (fun a0 l a' w' => ∃ (u33 : Value) (u34 : Value) (u35 : Value) (u36 : Value) (u37 : Value) (u38 : Value) (u39 : Value) (u40 : Value) (u41 : Value) (u12 : Value) (b12 : Nat), a' = (Act.put (Act.put (Act.put (Act.put (Act.put (Act.put (Act.put (Act.put (Act.put (Act.put a0 (some 33) u33) (some 34) u34) (some 35) u35) (some 36) u36) (some 37) u37) (some 38) u38) (some 39) u39) (some 40) u40) (some 41) u41) (some 12) u12) ∧ Slot l 0 u33 (V p) ∧ Slot l 1 u34 (FV id p i r s) ∧ Slot l 2 u35 (V u) ∧ Slot l 3 u36 (.pointer (some ⟨w.heap.size + 1, 1, none⟩)) ∧ Slot l 4 u37 (.int .u32 (o2 : Int)) ∧ Slot l 5 u38 (.int .u64 (o2 : Int)) ∧ Slot l 6 u39 (.agg #[.int .u64 (o2 : Int), .int .u64 0, .int .u64 0, .int .u64 0]) ∧ Slot l 7 u40 (V vz) ∧ Slot l 8 u41 (V z) ∧ Blk l 9 10 u12 b12 W5 w' (.cells #[.int .u64 0, .int .u64 0, .int .u64 0, .int .u64 0] 23) (.cells #[.int .u64 (wd z 0 : Int), .int .u64 (wd z 1 : Int), .int .u64 (wd z 2 : Int), .int .u64 (wd z 3 : Int)] 23) ∧ Off (fun _ => False) W5 w') (by kernel_rfl) (by kernel_rfl) ?_ ⟨?_, ?_, ?_, ?_, ?_, ?_, ?_, ?_, ?_, ?_, ?_, trivial⟩ ?_
    · refine ⟨?z33, ?z34, ?z35, ?z36, ?z37, ?z38, ?z39, ?z40, ?z41, ?z12, 0, ?fr, Slot.start _ _ _, Slot.start _ _ _, Slot.start _ _ _, Slot.start _ _ _, Slot.start _ _ _, Slot.start _ _ _, Slot.start _ _ _, Slot.start _ _ _, Slot.start _ _ _, Blk.start _ _ _ _ _ _ _ _, (Off.refl _ W5).drew⟩
      case fr => first | (simp only [Act.put, List.setIfInBounds_toArray, List.set_cons_zero, List.set_cons_succ]; rfl) | simp only [Act.put, List.setIfInBounds_toArray, List.set_cons_zero, List.set_cons_succ]
    · intro l a wr hI hl hd K' hK
      obtain ⟨u33, u34, u35, u36, u37, u38, u39, u40, u41, u12, b12, ha, s0, s1, s2, s3, s4, s5, s6, s7, s8, B9, hO⟩ := hI
      simp only [Act.put, List.setIfInBounds_toArray, List.set_cons_zero, List.set_cons_succ] at ha
      subst ha
      have hc := HK5.out wr hO
      have p0 := hc.2.1.1
      have p1 := hc.2.1.2.1
      have p2 := hc.2.1.2.2.1
      have p3 := hc.2.1.2.2.2
      clear hc
      go_simp
      refine hK.out _ _ ⟨_, _, _, _, _, _, _, _, _, _, _, ?_, Slot.new _ _ _, s1.keep rfl, s2.keep rfl, s3.keep rfl, s4.keep rfl, s5.keep rfl, s6.keep rfl, s7.keep rfl, s8.keep rfl, B9.keep (Off.refl _ wr) rfl rfl, hO⟩
      simp only [Act.put, List.setIfInBounds_toArray, List.set_cons_zero, List.set_cons_succ]
    · intro l a wr hI hl hd K' hK
      obtain ⟨u33, u34, u35, u36, u37, u38, u39, u40, u41, u12, b12, ha, s0, s1, s2, s3, s4, s5, s6, s7, s8, B9, hO⟩ := hI
      simp only [Act.put, List.setIfInBounds_toArray, List.set_cons_zero, List.set_cons_succ] at ha
      subst ha
      have hc := HK5.out wr hO
      have p0 := hc.1.1
      have p1 := hc.1.2.1
      have p2 := hc.1.2.2.1
      have p3 := hc.1.2.2.2.1
      have p4 := hc.1.2.2.2.2.1
      have p5 := hc.1.2.2.2.2.2.1
      have p6 := hc.1.2.2.2.2.2.2.1
      have p7 := hc.1.2.2.2.2.2.2.2.1
      have p8 := hc.1.2.2.2.2.2.2.2.2.1
      have p9 := hc.1.2.2.2.2.2.2.2.2.2.1
      have p10 := hc.1.2.2.2.2.2.2.2.2.2.2.1
      have p11 := hc.1.2.2.2.2.2.2.2.2.2.2.2.1
      have p12 := hc.1.2.2.2.2.2.2.2.2.2.2.2.2.1
      have p13 := hc.1.2.2.2.2.2.2.2.2.2.2.2.2.2
      clear hc
      go_simp
      refine hK.out _ _ ⟨_, _, _, _, _, _, _, _, _, _, _, ?_, s0.keep rfl, Slot.new _ _ _, s2.keep rfl, s3.keep rfl, s4.keep rfl, s5.keep rfl, s6.keep rfl, s7.keep rfl, s8.keep rfl, B9.keep (Off.refl _ wr) rfl rfl, hO⟩
      simp only [Act.put, List.setIfInBounds_toArray, List.set_cons_zero, List.set_cons_succ]
    · intro l a wr hI hl hd K' hK
      obtain ⟨u33, u34, u35, u36, u37, u38, u39, u40, u41, u12, b12, ha, s0, s1, s2, s3, s4, s5, s6, s7, s8, B9, hO⟩ := hI
      simp only [Act.put, List.setIfInBounds_toArray, List.set_cons_zero, List.set_cons_succ] at ha
      subst ha
      have hc := HK5.out wr hO
      have p0 := hc.2.2.1.1
      have p1 := hc.2.2.1.2.1
      have p2 := hc.2.2.1.2.2.1
      have p3 := hc.2.2.1.2.2.2
      clear hc
      go_simp
      refine hK.out _ _ ⟨_, _, _, _, _, _, _, _, _, _, _, ?_, s0.keep rfl, s1.keep rfl, Slot.new _ _ _, s3.keep rfl, s4.keep rfl, s5.keep rfl, s6.keep rfl, s7.keep rfl, s8.keep rfl, B9.keep (Off.refl _ wr) rfl rfl, hO⟩
      simp only [Act.put, List.setIfInBounds_toArray, List.set_cons_zero, List.set_cons_succ]
    · intro l a wr hI hl hd K' hK
      obtain ⟨u33, u34, u35, u36, u37, u38, u39, u40, u41, u12, b12, ha, s0, s1, s2, s3, s4, s5, s6, s7, s8, B9, hO⟩ := hI
      simp only [Act.put, List.setIfInBounds_toArray, List.set_cons_zero, List.set_cons_succ] at ha
      subst ha
      go_simp
      refine hK.out _ _ ⟨_, _, _, _, _, _, _, _, _, _, _, ?_, s0.keep rfl, s1.keep rfl, s2.keep rfl, Slot.new _ _ _, s4.keep rfl, s5.keep rfl, s6.keep rfl, s7.keep rfl, s8.keep rfl, B9.keep (Off.refl _ wr) rfl rfl, hO⟩
      simp only [Act.put, List.setIfInBounds_toArray, List.set_cons_zero, List.set_cons_succ]
    · intro l a wr hI hl hd K' hK
      obtain ⟨u33, u34, u35, u36, u37, u38, u39, u40, u41, u12, b12, ha, s0, s1, s2, s3, s4, s5, s6, s7, s8, B9, hO⟩ := hI
      simp only [Act.put, List.setIfInBounds_toArray, List.set_cons_zero, List.set_cons_succ] at ha
      have q3 := s3 (hd 3 (by decide))
      subst ha q3
      have hc := HK5.out wr hO
      have p0 := hc.2.2.2.1.1
      have p1 := hc.2.2.2.1.2
      clear hc
      go_simp
      refine hK.out _ _ ⟨_, _, _, _, _, _, _, _, _, _, _, ?_, s0.keep rfl, s1.keep rfl, s2.keep rfl, s3.keep rfl, Slot.new _ _ _, s5.keep rfl, s6.keep rfl, s7.keep rfl, s8.keep rfl, B9.keep (Off.refl _ wr) rfl rfl, hO⟩
      simp only [Act.put, List.setIfInBounds_toArray, List.set_cons_zero, List.set_cons_succ]
    · intro l a wr hI hl hd K' hK
      obtain ⟨u33, u34, u35, u36, u37, u38, u39, u40, u41, u12, b12, ha, s0, s1, s2, s3, s4, s5, s6, s7, s8, B9, hO⟩ := hI
      simp only [Act.put, List.setIfInBounds_toArray, List.set_cons_zero, List.set_cons_succ] at ha
      have q4 := s4 (hd 4 (by decide))
      subst ha q4
      go_simp
      refine hK.out _ _ ⟨_, _, _, _, _, _, _, _, _, _, _, ?_, s0.keep rfl, s1.keep rfl, s2.keep rfl, s3.keep rfl, s4.keep rfl, Slot.new _ _ _, s6.keep rfl, s7.keep rfl, s8.keep rfl, B9.keep (Off.refl _ wr) rfl rfl, hO⟩
      simp only [Act.put, List.setIfInBounds_toArray, List.set_cons_zero, List.set_cons_succ]
    · intro l a wr hI hl hd K' hK
      obtain ⟨u33, u34, u35, u36, u37, u38, u39, u40, u41, u12, b12, ha, s0, s1, s2, s3, s4, s5, s6, s7, s8, B9, hO⟩ := hI
      simp only [Act.put, List.setIfInBounds_toArray, List.set_cons_zero, List.set_cons_succ] at ha
      have q5 := s5 (hd 5 (by decide))
      subst ha q5
      go_simp
      refine hK.out _ _ ⟨_, _, _, _, _, _, _, _, _, _, _, ?_, s0.keep rfl, s1.keep rfl, s2.keep rfl, s3.keep rfl, s4.keep rfl, s5.keep rfl, Slot.new _ _ _, s7.keep rfl, s8.keep rfl, B9.keep (Off.refl _ wr) rfl rfl, hO⟩
      simp only [Act.put, List.setIfInBounds_toArray, List.set_cons_zero, List.set_cons_succ]
    · intro l a wr hI hl hd K' hK
      obtain ⟨u33, u34, u35, u36, u37, u38, u39, u40, u41, u12, b12, ha, s0, s1, s2, s3, s4, s5, s6, s7, s8, B9, hO⟩ := hI
      simp only [Act.put, List.setIfInBounds_toArray, List.set_cons_zero, List.set_cons_succ] at ha
      have q1 := s1 (hd 1 (by decide))
      have q2 := s2 (hd 2 (by decide))
      have q6 := s6 (hd 6 (by decide))
      subst ha q1 q2 q6
      go_simp
      refine (held_inv (FPz.out wr (HTW5.out wr hO)) hO).mono ?_
      rintro e w1 ⟨rfl, hO1, hOW⟩
      go_wp2_with fail
      refine hK.out _ _ ⟨_, _, _, _, _, _, _, _, _, _, _, ?_, s0.keep rfl, s1.keep rfl, s2.keep rfl, s3.keep rfl, s4.keep rfl, s5.keep rfl, s6.keep rfl, Slot.new _ _ _, s8.keep rfl, B9.keep hOW rfl rfl, hO1⟩
      simp only [Act.put, List.setIfInBounds_toArray, List.set_cons_zero, List.set_cons_succ]
    · intro l a wr hI hl hd K' hK
      obtain ⟨u33, u34, u35, u36, u37, u38, u39, u40, u41, u12, b12, ha, s0, s1, s2, s3, s4, s5, s6, s7, s8, B9, hO⟩ := hI
      simp only [Act.put, List.setIfInBounds_toArray, List.set_cons_zero, List.set_cons_succ] at ha
      have q0 := s0 (hd 0 (by decide))
      have q7 := s7 (hd 7 (by decide))
      subst ha q0 q7
      go_simp
      refine (held_inv (FVz.out wr (HTW5.out wr hO)) hO).mono ?_
      rintro e w1 ⟨rfl, hO1, hOW⟩
      go_wp2_with fail
      refine hK.out _ _ ⟨_, _, _, _, _, _, _, _, _, _, _, ?_, s0.keep rfl, s1.keep rfl, s2.keep rfl, s3.keep rfl, s4.keep rfl, s5.keep rfl, s6.keep rfl, s7.keep rfl, Slot.new _ _ _, B9.keep hOW rfl rfl, hO1⟩
      simp only [Act.put, List.setIfInBounds_toArray, List.set_cons_zero, List.set_cons_succ]
    · intro l a wr hI hl hd K' hK
      obtain ⟨u33, u34, u35, u36, u37, u38, u39, u40, u41, u12, b12, ha, s0, s1, s2, s3, s4, s5, s6, s7, s8, B9, hO⟩ := hI
      simp only [Act.put, List.setIfInBounds_toArray, List.set_cons_zero, List.set_cons_succ] at ha
      subst ha
      go_simp
      refine hK.out _ _ ⟨_, _, _, _, _, _, _, _, _, _, _, ?_, s0.keep rfl, s1.keep rfl, s2.keep rfl, s3.keep rfl, s4.keep rfl, s5.keep rfl, s6.keep rfl, s7.keep rfl, s8.keep rfl, B9.make hl rfl hO, hO.alloc _⟩
      simp only [Act.put, List.setIfInBounds_toArray, List.set_cons_zero, List.set_cons_succ]
    · intro l a wr hI hl hd K' hK
      obtain ⟨u33, u34, u35, u36, u37, u38, u39, u40, u41, u12, b12, ha, s0, s1, s2, s3, s4, s5, s6, s7, s8, B9, hO⟩ := hI
      simp only [Act.put, List.setIfInBounds_toArray, List.set_cons_zero, List.set_cons_succ] at ha
      have h9 := hd 9 (by decide)
      have q9 := B9.ptr h9
      have q8 := s8 (hd 8 (by decide))
      subst ha q9 q8
      obtain ⟨⟨m0, m1, m2, m3⟩, fz, lt⟩ := zero_cells (B9.was h9 hl)
      go_simp
      refine hK.out _ _ ⟨_, _, _, _, _, _, _, _, _, _, _, ?_, s0.keep rfl, s1.keep rfl, s2.keep rfl, s3.keep rfl, s4.keep rfl, s5.keep rfl, s6.keep rfl, s7.keep rfl, s8.keep rfl, B9.put hl h9 rfl rfl, setCells_in hO (fun c => absurd c (Nat.not_lt.2 (B9.new h9))) [.int .u64 (wd z 0 : Int), .int .u64 (wd z 1 : Int), .int .u64 (wd z 2 : Int), .int .u64 (wd z 3 : Int)]⟩
      simp only [Act.put, List.setIfInBounds_toArray, List.set_cons_zero, List.set_cons_succ]
    · intro l a wc hI hd
      obtain ⟨u33, u34, u35, u36, u37, u38, u39, u40, u41, u12, b12, ha, s0, s1, s2, s3, s4, s5, s6, s7, s8, B9, hO⟩ := hI
      simp only [Act.put, List.setIfInBounds_toArray, List.set_cons_zero, List.set_cons_succ] at ha
      have q0 := s0 (hd 0 (by decide))
      have q1 := s1 (hd 1 (by decide))
      have q2 := s2 (hd 2 (by decide))
      have q3 := s3 (hd 3 (by decide))
      have q4 := s4 (hd 4 (by decide))
      have q5 := s5 (hd 5 (by decide))
      have q6 := s6 (hd 6 (by decide))
      have q7 := s7 (hd 7 (by decide))
      have q8 := s8 (hd 8 (by decide))
      have q9 := B9.ptr (hd 9 (by decide))
      have n12 : wc.heap[b12]? = some (.cells #[.int .u64 (wd z 0 : Int), .int .u64 (wd z 1 : Int), .int .u64 (wd z 2 : Int), .int .u64 (wd z 3 : Int)] 23) := B9.now (hd 9 (by decide)) (hd 10 (by decide))
      have v12 := B9.new (hd 9 (by decide))
      subst ha q0 q1 q2 q3 q4 q5 q6 q7 q8 q9
      clear hd s0 s1 s2 s3 s4 s5 s6 s7 s8 B9
      obtain ⟨W6, hW6⟩ : ∃ W6, W6 = wc := ⟨_, rfl⟩
      subst hW6
      have HF6 := Lib.hid (hO.heap HF5.out (fun c => c))
      have HP6 := Lib.hid (hO.heap HP5.out (fun c => c))
      have HD6 := Lib.hid (hO.heap HD5.out (fun c => c))
      have HU6 := Lib.hid (hO.heap HU5.out (fun c => c))
      have HY6 := Lib.hid (hO.heap HY5.out (fun c => c))
      have HZ6 := Lib.hid n12
      have HTW6 := Lib.hid (fun W (h : Off (fun _ => False) W6 W) => HTW5.out W (hO.trans h (fun _ _ c => c)))
      have HOw6 := Lib.hid (HOw5.out.trans hO (fun _ _ c => c))
      have HK6 : Hid (∀ W, Off (fun _ => False) W6 W → (W.cell? ⟨u0.heap.size, 0, none⟩ = some (.int .i64 id) ∧ W.cell? ⟨u0.heap.size, 1, none⟩ = some (.int .u64 (wd p 0 : Int)) ∧ W.cell? ⟨u0.heap.size, 2, none⟩ = some (.int .u64 (wd p 1 : Int)) ∧ W.cell? ⟨u0.heap.size, 3, none⟩ = some (.int .u64 (wd p 2 : Int)) ∧ W.cell? ⟨u0.heap.size, 4, none⟩ = some (.int .u64 (wd p 3 : Int)) ∧ W.cell? ⟨u0.heap.size, 5, none⟩ = some (.int .u64 (i : Int)) ∧ W.cell? ⟨u0.heap.size, 6, none⟩ = some (.int .u64 (wd r 0 : Int)) ∧ W.cell? ⟨u0.heap.size, 7, none⟩ = some (.int .u64 (wd r 1 : Int)) ∧ W.cell? ⟨u0.heap.size, 8, none⟩ = some (.int .u64 (wd r 2 : Int)) ∧ W.cell? ⟨u0.heap.size, 9, none⟩ = some (.int .u64 (wd r 3 : Int)) ∧ W.cell? ⟨u0.heap.size, 10, none⟩ = some (.int .u64 (wd s 0 : Int)) ∧ W.cell? ⟨u0.heap.size, 11, none⟩ = some (.int .u64 (wd s 1 : Int)) ∧ W.cell? ⟨u0.heap.size, 12, none⟩ = some (.int .u64 (wd s 2 : Int)) ∧ W.cell? ⟨u0.heap.size, 13, none⟩ = some (.int .u64 (wd s 3 : Int))) ∧ (W.cell? ⟨u0.heap.size + 1, 0, none⟩ = some (.int .u64 (wd p 0 : Int)) ∧ W.cell? ⟨u0.heap.size + 1, 1, none⟩ = some (.int .u64 (wd p 1 : Int)) ∧ W.cell? ⟨u0.heap.size + 1, 2, none⟩ = some (.int .u64 (wd p 2 : Int)) ∧ W.cell? ⟨u0.heap.size + 1, 3, none⟩ = some (.int .u64 (wd p 3 : Int))) ∧ (W.cell? ⟨u3.heap.size, 0, none⟩ = some (.int .u64 (wd u 0 : Int)) ∧ W.cell? ⟨u3.heap.size, 1, none⟩ = some (.int .u64 (wd u 1 : Int)) ∧ W.cell? ⟨u3.heap.size, 2, none⟩ = some (.int .u64 (wd u 2 : Int)) ∧ W.cell? ⟨u3.heap.size, 3, none⟩ = some (.int .u64 (wd u 3 : Int))) ∧ (W.cell? ⟨w.heap.size + 1, 0, none⟩ = some (.int .u32 (n2 : Int)) ∧ W.cell? ⟨w.heap.size + 1, 1, none⟩ = some (.int .u32 (o2 : Int))) ∧ (W.cell? ⟨b11, 0, none⟩ = some (.int .u64 (wd y 0 : Int)) ∧ W.cell? ⟨b11, 1, none⟩ = some (.int .u64 (wd y 1 : Int)) ∧ W.cell? ⟨b11, 2, none⟩ = some (.int .u64 (wd y 2 : Int)) ∧ W.cell? ⟨b11, 3, none⟩ = some (.int .u64 (wd y 3 : Int))) ∧ (W.cell? ⟨b12, 0, none⟩ = some (.int .u64 (wd z 0 : Int)) ∧ W.cell? ⟨b12, 1, none⟩ = some (.int .u64 (wd z 1 : Int)) ∧ W.cell? ⟨b12, 2, none⟩ = some (.int .u64 (wd z 2 : Int)) ∧ W.cell? ⟨b12, 3, none⟩ = some (.int .u64 (wd z 3 : Int))) ∧ Off (fun _ => False) W6 W) := Lib.hid (fun W h => ⟨fv_cells (h.heap HF6.out (fun c => c)), cells4 (h.heap HP6.out (fun c => c)), cells4 (h.heap HU6.out (fun c => c)), ⟨cell_of_heap (h.heap HD6.out (fun c => c)) 0, cell_of_heap (h.heap HD6.out (fun c => c)) 1⟩, cells4 (h.heap HY6.out (fun c => c)), cells4 (h.heap HZ6.out (fun c => c)), h⟩)
      clear hO n12 v12 HTW5 HOw5 HK5 HF5 HP5 HD5 HU5 HY5
      go_upto_region 6 with fail
      obtain ⟨x42, hx⟩ : ∃ x : Value, x = .bool true := ⟨_, rfl⟩
      have X42 := Lib.hid hx
      clear hx
      obtain ⟨x43, hx⟩ : ∃ x : Value, x = .bool true := ⟨_, rfl⟩
      have X43 := Lib.hid hx
      clear hx
      obtain ⟨x44, hx⟩ : ∃ x : Value, x = FV id p i r s := ⟨_, rfl⟩
      have X44 := Lib.hid hx
      clear hx
      obtain ⟨x45, hx⟩ : ∃ x : Value, x = V u := ⟨_, rfl⟩
      have X45 := Lib.hid hx
      clear hx
      obtain ⟨x46, hx⟩ : ∃ x : Value, x = .pointer (some ⟨w.heap.size + 1, 0, none⟩) := ⟨_, rfl⟩
      have X46 := Lib.hid hx
      clear hx
      obtain ⟨x47, hx⟩ : ∃ x : Value, x = .int .u32 (n2 : Int) := ⟨_, rfl⟩
      have X47 := Lib.hid hx
      clear hx
      obtain ⟨x48, hx⟩ : ∃ x : Value, x = .int .u64 (n2 : Int) := ⟨_, rfl⟩
      have X48 := Lib.hid hx
      clear hx
      obtain ⟨x49, hx⟩ : ∃ x : Value, x = .pointer (some ⟨w.heap.size + 1, 1, none⟩) := ⟨_, rfl⟩
      have X49 := Lib.hid hx
      clear hx
      obtain ⟨x50, hx⟩ : ∃ x : Value, x = .int .u32 (o2 : Int) := ⟨_, rfl⟩
      have X50 := Lib.hid hx
      clear hx
      obtain ⟨x51, hx⟩ : ∃ x : Value, x = .int .u64 (o2 : Int) := ⟨_, rfl⟩
      have X51 := Lib.hid hx
      clear hx
      obtain ⟨x52, hx⟩ : ∃ x : Value, x = .int .u64 (ds : Int) := ⟨_, rfl⟩
      have X52 := Lib.hid hx
      clear hx
      obtain ⟨x53, hx⟩ : ∃ x : Value, x = .agg #[.int .u64 (ds : Int), .int .u64 0, .int .u64 0, .int .u64 0] := ⟨_, rfl⟩
      have X53 := Lib.hid hx
      clear hx
      obtain ⟨x54, hx⟩ : ∃ x : Value, x = V vm := ⟨_, rfl⟩
      have X54 := Lib.hid hx
      clear hx
      obtain ⟨x55, hx⟩ : ∃ x : Value, x = V p := ⟨_, rfl⟩
      have X55 := Lib.hid hx
      clear hx
      obtain ⟨x56, hx⟩ : ∃ x : Value, x = V p := ⟨_, rfl⟩
      have X56 := Lib.hid hx
      clear hx
      obtain ⟨x57, hx⟩ : ∃ x : Value, x = V y := ⟨_, rfl⟩
      have X57 := Lib.hid hx
      clear hx
      obtain ⟨x58, hx⟩ : ∃ x : Value, x = V z := ⟨_, rfl⟩
      have X58 := Lib.hid hx
      clear hx
      obtain ⟨x59, hx⟩ : ∃ x : Value, x = V m := ⟨_, rfl⟩
      have X59 := Lib.hid hx
      clear hx
      obtain ⟨x60, hx⟩ : ∃ x : Value, x = V vm := ⟨_, rfl⟩
      have X60 := Lib.hid hx
      clear hx
      obtain ⟨x61, hx⟩ : ∃ x : Value, x = .bool true := ⟨_, rfl⟩
      have X61 := Lib.hid hx
      clear hx
      obtain ⟨x62, hx⟩ : ∃ x : Value, x = .bool true := ⟨_, rfl⟩
      have X62 := Lib.hid hx
      clear hx
      obtain ⟨x6, hx⟩ : ∃ x : Value, x = .bool true := ⟨_, rfl⟩
      have X6 := Lib.hid hx
      clear hx
      refine wp_region_inv (fun a0 l a' w' => a' = (Act.put (fill a0 42 [sel (l 0) x42 undef, sel (l 1) x43 undef, sel (l 2) x44 undef, sel (l 3) x45 undef, sel (l 4) x46 undef, sel (l 5) x47 undef, sel (l 6) x48 undef, sel (l 7) x49 undef, sel (l 8) x50 undef, sel (l 9) x51 undef, sel (l 10) x52 undef, sel (l 11) x53 undef, sel (l 12) x54 undef, sel (l 13) x55 undef, sel (l 14) x56 undef, sel (l 15) x57 undef, sel (l 16) x58 undef, sel (l 17) x59 undef, sel (l 18) x60 undef, sel (l 19) x61 undef, sel (l 20) x62 undef]) (some 6) (sel (l 21) x6 (.bool false))) ∧ Off (fun _ => False) W6 w') (by kernel_rfl) (by kernel_rfl) ?_ ⟨?_, ?_, ?_, ?_, ?_, ?_, ?_, ?_, ?_, ?_, ?_, ?_, ?_, ?_, ?_, ?_, ?_, ?_, ?_, ?_, ?_, ?_, trivial⟩ ?_
      · refine ⟨?_, (Off.refl _ W6).drew⟩
        simp only [fill_eq, List.take_succ_cons, List.take_zero, List.cons_append, List.nil_append, Act.put, List.setIfInBounds_toArray, List.set_cons_zero, List.set_cons_succ, sel_start]
      · as_aux_lemma =>
          rintro l a wr ⟨ha, hO⟩ hl hd K' hK
          have hx := X42.out; subst hx
          simp only [fill_eq, List.take_succ_cons, List.take_zero, List.cons_append, List.nil_append, Act.put, List.setIfInBounds_toArray, List.set_cons_zero, List.set_cons_succ] at ha
          subst ha
          rw [if_pos (by rfl)]
          go_simp
          refine (held_inv (FAL.out wr (HTW6.out wr hO)) hO).mono ?_
          rintro e w1 ⟨rfl, hO1, hOW⟩
          go_wp2_with fail
          refine hK.out _ _ ⟨?_, hO1⟩
          simp only [fill_eq, List.take_succ_cons, List.take_zero, List.cons_append, List.nil_append, Act.put, List.setIfInBounds_toArray, List.set_cons_zero, List.set_cons_succ, sel_new]
          rfl
      · as_aux_lemma =>
          rintro l a wr ⟨ha, hO⟩ hl hd K' hK
          have d0 := hd 0 (by decide)
          have hx := X42.out; subst hx
          have hx := X43.out; subst hx
          simp only [fill_eq, List.take_succ_cons, List.take_zero, List.cons_append, List.nil_append, Act.put, List.setIfInBounds_toArray, List.set_cons_zero, List.set_cons_succ, sel_of d0] at ha
          subst ha
          rw [if_pos (by rfl)]
          go_simp
          refine hK.out _ _ ⟨?_, hO⟩
          simp only [fill_eq, List.take_succ_cons, List.take_zero, List.cons_append, List.nil_append, Act.put, List.setIfInBounds_toArray, List.set_cons_zero, List.set_cons_succ, sel_new, sel_dep d0]
          rfl
      · as_aux_lemma =>
          rintro l a wr ⟨ha, hO⟩ hl hd K' hK
          have d1 := hd 1 (by decide)
          have hx := X43.out; subst hx
          have hx := X44.out; subst hx
          simp only [fill_eq, List.take_succ_cons, List.take_zero, List.cons_append, List.nil_append, Act.put, List.setIfInBounds_toArray, List.set_cons_zero, List.set_cons_succ, sel_of d1] at ha
          subst ha
          have hc := HK6.out wr hO
          have p0 := hc.1.1
          have p1 := hc.1.2.1
          have p2 := hc.1.2.2.1
          have p3 := hc.1.2.2.2.1
          have p4 := hc.1.2.2.2.2.1
          have p5 := hc.1.2.2.2.2.2.1
          have p6 := hc.1.2.2.2.2.2.2.1
          have p7 := hc.1.2.2.2.2.2.2.2.1
          have p8 := hc.1.2.2.2.2.2.2.2.2.1
          have p9 := hc.1.2.2.2.2.2.2.2.2.2.1
          have p10 := hc.1.2.2.2.2.2.2.2.2.2.2.1
          have p11 := hc.1.2.2.2.2.2.2.2.2.2.2.2.1
          have p12 := hc.1.2.2.2.2.2.2.2.2.2.2.2.2.1
          have p13 := hc.1.2.2.2.2.2.2.2.2.2.2.2.2.2
          clear hc
          rw [if_pos (by rfl)]
          go_simp
          refine hK.out _ _ ⟨?_, hO⟩
          simp only [fill_eq, List.take_succ_cons, List.take_zero, List.cons_append, List.nil_append, Act.put, List.setIfInBounds_toArray, List.set_cons_zero, List.set_cons_succ, sel_new, sel_dep d1]
          rfl
      · as_aux_lemma =>
          rintro l a wr ⟨ha, hO⟩ hl hd K' hK
          have d1 := hd 1 (by decide)
          have hx := X43.out; subst hx
          have hx := X45.out; subst hx
          simp only [fill_eq, List.take_succ_cons, List.take_zero, List.cons_append, List.nil_append, Act.put, List.setIfInBounds_toArray, List.set_cons_zero, List.set_cons_succ, sel_of d1] at ha
          subst ha
          have hc := HK6.out wr hO
          have p0 := hc.2.2.1.1
          have p1 := hc.2.2.1.2.1
          have p2 := hc.2.2.1.2.2.1
          have p3 := hc.2.2.1.2.2.2
          clear hc
          rw [if_pos (by rfl)]
          go_simp
          refine hK.out _ _ ⟨?_, hO⟩
          simp only [fill_eq, List.take_succ_cons, List.take_zero, List.cons_append, List.nil_append, Act.put, List.setIfInBounds_toArray, List.set_cons_zero, List.set_cons_succ, sel_new, sel_dep d1]
          rfl
      · as_aux_lemma =>
          rintro l a wr ⟨ha, hO⟩ hl hd K' hK
          have d1 := hd 1 (by decide)
          have hx := X43.out; subst hx
          have hx := X46.out; subst hx
          simp only [fill_eq, List.take_succ_cons, List.take_zero, List.cons_append, List.nil_append, Act.put, List.setIfInBounds_toArray, List.set_cons_zero, List.set_cons_succ, sel_of d1] at ha
          subst ha
          rw [if_pos (by rfl)]
          go_simp
          refine hK.out _ _ ⟨?_, hO⟩
          simp only [fill_eq, List.take_succ_cons, List.take_zero, List.cons_append, List.nil_append, Act.put, List.setIfInBounds_toArray, List.set_cons_zero, List.set_cons_succ, sel_new, sel_dep d1]
          rfl
      · as_aux_lemma =>
          rintro l a wr ⟨ha, hO⟩ hl hd K' hK
          have d1 := hd 1 (by decide)
          have d4 := hd 4 (by decide)
          have hx := X43.out; subst hx
          have hx := X46.out; subst hx
          have hx := X47.out; subst hx
          simp only [fill_eq, List.take_succ_cons, List.take_zero, List.cons_append, List.nil_append, Act.put, List.setIfInBounds_toArray, List.set_cons_zero, List.set_cons_succ, sel_of d1, sel_of d4] at ha
          subst ha
          have hc := HK6.out wr hO
          have p0 := hc.2.2.2.1.1
          have p1 := hc.2.2.2.1.2
          clear hc
          rw [if_pos (by rfl)]
          go_simp
          refine hK.out _ _ ⟨?_, hO⟩
          simp only [fill_eq, List.take_succ_cons, List.take_zero, List.cons_append, List.nil_append, Act.put, List.setIfInBounds_toArray, List.set_cons_zero, List.set_cons_succ, sel_new, sel_dep d1, sel_dep d4]
          rfl
      · as_aux_lemma =>
          rintro l a wr ⟨ha, hO⟩ hl hd K' hK
          have d1 := hd 1 (by decide)
          have d5 := hd 5 (by decide)
          have hx := X43.out; subst hx
          have hx := X47.out; subst hx
          have hx := X48.out; subst hx
          simp only [fill_eq, List.take_succ_cons, List.take_zero, List.cons_append, List.nil_append, Act.put, List.setIfInBounds_toArray, List.set_cons_zero, List.set_cons_succ, sel_of d1, sel_of d5] at ha
          subst ha
          rw [if_pos (by rfl)]
          go_simp
          refine hK.out _ _ ⟨?_, hO⟩
          simp only [fill_eq, List.take_succ_cons, List.take_zero, List.cons_append, List.nil_append, Act.put, List.setIfInBounds_toArray, List.set_cons_zero, List.set_cons_succ, sel_new, sel_dep d1, sel_dep d5]
          rfl
      · as_aux_lemma =>
          rintro l a wr ⟨ha, hO⟩ hl hd K' hK
          have d1 := hd 1 (by decide)
          have hx := X43.out; subst hx
          have hx := X49.out; subst hx
          simp only [fill_eq, List.take_succ_cons, List.take_zero, List.cons_append, List.nil_append, Act.put, List.setIfInBounds_toArray, List.set_cons_zero, List.set_cons_succ, sel_of d1] at ha
          subst ha
          rw [if_pos (by rfl)]
          go_simp
          refine hK.out _ _ ⟨?_, hO⟩
          simp only [fill_eq, List.take_succ_cons, List.take_zero, List.cons_append, List.nil_append, Act.put, List.setIfInBounds_toArray, List.set_cons_zero, List.set_cons_succ, sel_new, sel_dep d1]
          rfl
      · as_aux_lemma =>
          rintro l a wr ⟨ha, hO⟩ hl hd K' hK
          have d1 := hd 1 (by decide)
          have d7 := hd 7 (by decide)
          have hx := X43.out; subst hx
          have hx := X49.out; subst hx
          have hx := X50.out; subst hx
          simp only [fill_eq, List.take_succ_cons, List.take_zero, List.cons_append, List.nil_append, Act.put, List.setIfInBounds_toArray, List.set_cons_zero, List.set_cons_succ, sel_of d1, sel_of d7] at ha
          subst ha
          have hc := HK6.out wr hO
          have p0 := hc.2.2.2.1.1
          have p1 := hc.2.2.2.1.2
          clear hc
          rw [if_pos (by rfl)]
          go_simp
          refine hK.out _ _ ⟨?_, hO⟩
          simp only [fill_eq, List.take_succ_cons, List.take_zero, List.cons_append, List.nil_append, Act.put, List.setIfInBounds_toArray, List.set_cons_zero, List.set_cons_succ, sel_new, sel_dep d1, sel_dep d7]
          rfl
      · as_aux_lemma =>
          rintro l a wr ⟨ha, hO⟩ hl hd K' hK
          have d1 := hd 1 (by decide)
          have d8 := hd 8 (by decide)
          have hx := X43.out; subst hx
          have hx := X50.out; subst hx
          have hx := X51.out; subst hx
          simp only [fill_eq, List.take_succ_cons, List.take_zero, List.cons_append, List.nil_append, Act.put, List.setIfInBounds_toArray, List.set_cons_zero, List.set_cons_succ, sel_of d1, sel_of d8] at ha
          subst ha
          rw [if_pos (by rfl)]
          go_simp
          refine hK.out _ _ ⟨?_, hO⟩
          simp only [fill_eq, List.take_succ_cons, List.take_zero, List.cons_append, List.nil_append, Act.put, List.setIfInBounds_toArray, List.set_cons_zero, List.set_cons_succ, sel_new, sel_dep d1, sel_dep d8]
          rfl
      · as_aux_lemma =>
          rintro l a wr ⟨ha, hO⟩ hl hd K' hK
          have d1 := hd 1 (by decide)
          have d6 := hd 6 (by decide)
          have d9 := hd 9 (by decide)
          have hx := X43.out; subst hx
          have hx := X48.out; subst hx
          have hx := X51.out; subst hx
          have hx := X52.out; subst hx
          simp only [fill_eq, List.take_succ_cons, List.take_zero, List.cons_append, List.nil_append, Act.put, List.setIfInBounds_toArray, List.set_cons_zero, List.set_cons_succ, sel_of d1, sel_of d6, sel_of d9] at ha
          subst ha
          rw [if_pos (by rfl)]
          go_simp
          refine hK.out _ _ ⟨?_, hO⟩
          simp only [fill_eq, List.take_succ_cons, List.take_zero, List.cons_append, List.nil_append, Act.put, List.setIfInBounds_toArray, List.set_cons_zero, List.set_cons_succ, sel_new, sel_dep d1, sel_dep d6, sel_dep d9]
          rfl
      · as_aux_lemma =>
          rintro l a wr ⟨ha, hO⟩ hl hd K' hK
          have d1 := hd 1 (by decide)
          have d10 := hd 10 (by decide)
          have hx := X43.out; subst hx
          have hx := X52.out; subst hx
          have hx := X53.out; subst hx
          simp only [fill_eq, List.take_succ_cons, List.take_zero, List.cons_append, List.nil_append, Act.put, List.setIfInBounds_toArray, List.set_cons_zero, List.set_cons_succ, sel_of d1, sel_of d10] at ha
          subst ha
          rw [if_pos (by rfl)]
          go_simp
          refine hK.out _ _ ⟨?_, hO⟩
          simp only [fill_eq, List.take_succ_cons, List.take_zero, List.cons_append, List.nil_append, Act.put, List.setIfInBounds_toArray, List.set_cons_zero, List.set_cons_succ, sel_new, sel_dep d1, sel_dep d10]
          rfl
      · as_aux_lemma =>
          rintro l a wr ⟨ha, hO⟩ hl hd K' hK
          have d1 := hd 1 (by decide)
          have d2 := hd 2 (by decide)
          have d3 := hd 3 (by decide)
          have d11 := hd 11 (by decide)
          have hx := X43.out; subst hx
          have hx := X44.out; subst hx
          have hx := X45.out; subst hx
          have hx := X53.out; subst hx
          have hx := X54.out; subst hx
          simp only [fill_eq, List.take_succ_cons, List.take_zero, List.cons_append, List.nil_append, Act.put, List.setIfInBounds_toArray, List.set_cons_zero, List.set_cons_succ, sel_of d1, sel_of d2, sel_of d3, sel_of d11] at ha
          subst ha
          rw [if_pos (by rfl)]
          go_simp
          refine (held_inv (FPs.out wr (HTW6.out wr hO)) hO).mono ?_
          rintro e w1 ⟨rfl, hO1, hOW⟩
          go_wp2_with fail
          refine hK.out _ _ ⟨?_, hO1⟩
          simp only [fill_eq, List.take_succ_cons, List.take_zero, List.cons_append, List.nil_append, Act.put, List.setIfInBounds_toArray, List.set_cons_zero, List.set_cons_succ, sel_new, sel_dep d1, sel_dep d2, sel_dep d3, sel_dep d11]
          rfl
      · as_aux_lemma =>
          rintro l a wr ⟨ha, hO⟩ hl hd K' hK
          have d1 := hd 1 (by decide)
          have hx := X43.out; subst hx
          have hx := X55.out; subst hx
          simp only [fill_eq, List.take_succ_cons, List.take_zero, List.cons_append, List.nil_append, Act.put, List.setIfInBounds_toArray, List.set_cons_zero, List.set_cons_succ, sel_of d1] at ha
          subst ha
          have hc := HK6.out wr hO
          have p0 := hc.2.1.1
          have p1 := hc.2.1.2.1
          have p2 := hc.2.1.2.2.1
          have p3 := hc.2.1.2.2.2
          clear hc
          rw [if_pos (by rfl)]
          go_simp
          refine hK.out _ _ ⟨?_, hO⟩
          simp only [fill_eq, List.take_succ_cons, List.take_zero, List.cons_append, List.nil_append, Act.put, List.setIfInBounds_toArray, List.set_cons_zero, List.set_cons_succ, sel_new, sel_dep d1]
          rfl
      · as_aux_lemma =>
          rintro l a wr ⟨ha, hO⟩ hl hd K' hK
          have d1 := hd 1 (by decide)
          have hx := X43.out; subst hx
          have hx := X56.out; subst hx
          simp only [fill_eq, List.take_succ_cons, List.take_zero, List.cons_append, List.nil_append, Act.put, List.setIfInBounds_toArray, List.set_cons_zero, List.set_cons_succ, sel_of d1] at ha
          subst ha
          have hc := HK6.out wr hO
          have p0 := hc.2.1.1
          have p1 := hc.2.1.2.1
          have p2 := hc.2.1.2.2.1
          have p3 := hc.2.1.2.2.2
          clear hc
          rw [if_pos (by rfl)]
          go_simp
          refine hK.out _ _ ⟨?_, hO⟩
          simp only [fill_eq, List.take_succ_cons, List.take_zero, List.cons_append, List.nil_append, Act.put, List.setIfInBounds_toArray, List.set_cons_zero, List.set_cons_succ, sel_new, sel_dep d1]
          rfl
      · as_aux_lemma =>
          rintro l a wr ⟨ha, hO⟩ hl hd K' hK
          have d1 := hd 1 (by decide)
          have hx := X43.out; subst hx
          have hx := X57.out; subst hx
          simp only [fill_eq, List.take_succ_cons, List.take_zero, List.cons_append, List.nil_append, Act.put, List.setIfInBounds_toArray, List.set_cons_zero, List.set_cons_succ, sel_of d1] at ha
          subst ha
          have hc := HK6.out wr hO
          have p0 := hc.2.2.2.2.1.1
          have p1 := hc.2.2.2.2.1.2.1
          have p2 := hc.2.2.2.2.1.2.2.1
          have p3 := hc.2.2.2.2.1.2.2.2
          clear hc
          rw [if_pos (by rfl)]
          go_simp
          refine hK.out _ _ ⟨?_, hO⟩
          simp only [fill_eq, List.take_succ_cons, List.take_zero, List.cons_append, List.nil_append, Act.put, List.setIfInBounds_toArray, List.set_cons_zero, List.set_cons_succ, sel_new, sel_dep d1]
          rfl
      · as_aux_lemma =>
          rintro l a wr ⟨ha, hO⟩ hl hd K' hK
          have d1 := hd 1 (by decide)
          have hx := X43.out; subst hx
          have hx := X58.out; subst hx
          simp only [fill_eq, List.take_succ_cons, List.take_zero, List.cons_append, List.nil_append, Act.put, List.setIfInBounds_toArray, List.set_cons_zero, List.set_cons_succ, sel_of d1] at ha
          subst ha
          have hc := HK6.out wr hO
          have p0 := hc.2.2.2.2.2.1.1
          have p1 := hc.2.2.2.2.2.1.2.1
          have p2 := hc.2.2.2.2.2.1.2.2.1
          have p3 := hc.2.2.2.2.2.1.2.2.2
          clear hc
          rw [if_pos (by rfl)]
          go_simp
          refine hK.out _ _ ⟨?_, hO⟩
          simp only [fill_eq, List.take_succ_cons, List.take_zero, List.cons_append, List.nil_append, Act.put, List.setIfInBounds_toArray, List.set_cons_zero, List.set_cons_succ, sel_new, sel_dep d1]
          rfl
      · as_aux_lemma =>
          rintro l a wr ⟨ha, hO⟩ hl hd K' hK
          have d1 := hd 1 (by decide)
          have d14 := hd 14 (by decide)
          have d15 := hd 15 (by decide)
          have d16 := hd 16 (by decide)
          have hx := X43.out; subst hx
          have hx := X56.out; subst hx
          have hx := X57.out; subst hx
          have hx := X58.out; subst hx
          have hx := X59.out; subst hx
          simp only [fill_eq, List.take_succ_cons, List.take_zero, List.cons_append, List.nil_append, Act.put, List.setIfInBounds_toArray, List.set_cons_zero, List.set_cons_succ, sel_of d1, sel_of d14, sel_of d15, sel_of d16] at ha
          subst ha
          rw [if_pos (by rfl)]
          go_simp
          refine (held_inv (FMu.out wr (HTW6.out wr hO)) hO).mono ?_
          rintro e w1 ⟨rfl, hO1, hOW⟩
          go_wp2_with fail
          refine hK.out _ _ ⟨?_, hO1⟩
          simp only [fill_eq, List.take_succ_cons, List.take_zero, List.cons_append, List.nil_append, Act.put, List.setIfInBounds_toArray, List.set_cons_zero, List.set_cons_succ, sel_new, sel_dep d1, sel_dep d14, sel_dep d15, sel_dep d16]
          rfl
      · as_aux_lemma =>
          rintro l a wr ⟨ha, hO⟩ hl hd K' hK
          have d1 := hd 1 (by decide)
          have d13 := hd 13 (by decide)
          have d17 := hd 17 (by decide)
          have hx := X43.out; subst hx
          have hx := X55.out; subst hx
          have hx := X59.out; subst hx
          have hx := X60.out; subst hx
          simp only [fill_eq, List.take_succ_cons, List.take_zero, List.cons_append, List.nil_append, Act.put, List.setIfInBounds_toArray, List.set_cons_zero, List.set_cons_succ, sel_of d1, sel_of d13, sel_of d17] at ha
          subst ha
          rw [if_pos (by rfl)]
          go_simp
          refine (held_inv (FM.out wr (HTW6.out wr hO)) hO).mono ?_
          rintro e w1 ⟨rfl, hO1, hOW⟩
          go_wp2_with fail
          refine hK.out _ _ ⟨?_, hO1⟩
          simp only [fill_eq, List.take_succ_cons, List.take_zero, List.cons_append, List.nil_append, Act.put, List.setIfInBounds_toArray, List.set_cons_zero, List.set_cons_succ, sel_new, sel_dep d1, sel_dep d13, sel_dep d17]
          rfl
      · as_aux_lemma =>
          rintro l a wr ⟨ha, hO⟩ hl hd K' hK
          have d1 := hd 1 (by decide)
          have d12 := hd 12 (by decide)
          have d18 := hd 18 (by decide)
          have hx := X43.out; subst hx
          have hx := X54.out; subst hx
          have hx := X60.out; subst hx
          have hx := X61.out; subst hx
          simp only [fill_eq, List.take_succ_cons, List.take_zero, List.cons_append, List.nil_append, Act.put, List.setIfInBounds_toArray, List.set_cons_zero, List.set_cons_succ, sel_of d1, sel_of d12, sel_of d18] at ha
          subst ha
          rw [if_pos (by rfl)]
          go_simp
          refine hK.out _ _ ⟨?_, hO⟩
          simp only [fill_eq, List.take_succ_cons, List.take_zero, List.cons_append, List.nil_append, Act.put, List.setIfInBounds_toArray, List.set_cons_zero, List.set_cons_succ, sel_new, sel_dep d1, sel_dep d12, sel_dep d18]
          rfl
      · as_aux_lemma =>
          rintro l a wr ⟨ha, hO⟩ hl hd K' hK
          have d1 := hd 1 (by decide)
          have d19 := hd 19 (by decide)
          have hx := X43.out; subst hx
          have hx := X61.out; subst hx
          have hx := X62.out; subst hx
          simp only [fill_eq, List.take_succ_cons, List.take_zero, List.cons_append, List.nil_append, Act.put, List.setIfInBounds_toArray, List.set_cons_zero, List.set_cons_succ, sel_of d1, sel_of d19] at ha
          subst ha
          rw [if_pos (by rfl)]
          go_simp
          refine hK.out _ _ ⟨?_, hO⟩
          simp only [fill_eq, List.take_succ_cons, List.take_zero, List.cons_append, List.nil_append, Act.put, List.setIfInBounds_toArray, List.set_cons_zero, List.set_cons_succ, sel_new, sel_dep d1, sel_dep d19]
          rfl
      · as_aux_lemma =>
          rintro l a wr ⟨ha, hO⟩ hl hd K' hK
          have d20 := hd 20 (by decide)
          have hx := X62.out; subst hx
          have hx := X6.out; subst hx
          simp only [fill_eq, List.take_succ_cons, List.take_zero, List.cons_append, List.nil_append, Act.put, List.setIfInBounds_toArray, List.set_cons_zero, List.set_cons_succ, sel_of d20] at ha
          subst ha
          rw [if_pos (by rfl)]
          go_simp
          refine hK.out _ _ ⟨?_, hO⟩
          simp only [fill_eq, List.take_succ_cons, List.take_zero, List.cons_append, List.nil_append, Act.put, List.setIfInBounds_toArray, List.set_cons_zero, List.set_cons_succ, sel_new, sel_dep d20]
          rfl
      · rintro l a wz ⟨ha, hO⟩ hd
        simp only [fill_eq, List.take_succ_cons, List.take_zero, List.cons_append, List.nil_append, Act.put, List.setIfInBounds_toArray, List.set_cons_zero, List.set_cons_succ, sel_of (hd 0 (by decide)), sel_of (hd 1 (by decide)), sel_of (hd 2 (by decide)), sel_of (hd 3 (by decide)), sel_of (hd 4 (by decide)), sel_of (hd 5 (by decide)), sel_of (hd 6 (by decide)), sel_of (hd 7 (by decide)), sel_of (hd 8 (by decide)), sel_of (hd 9 (by decide)), sel_of (hd 10 (by decide)), sel_of (hd 11 (by decide)), sel_of (hd 12 (by decide)), sel_of (hd 13 (by decide)), sel_of (hd 14 (by decide)), sel_of (hd 15 (by decide)), sel_of (hd 16 (by decide)), sel_of (hd 17 (by decide)), sel_of (hd 18 (by decide)), sel_of (hd 19 (by decide)), sel_of (hd 20 (by decide)), sel_of (hd 21 (by decide))] at ha
        subst ha
        have hx := X6.out; subst hx
        have HOf := Lib.hid ((HOw6.out).trans hO (fun _ _ c => c))
        clear hO hd
        go_wp2
        go_ret
        exact ⟨rfl, HOf.out⟩

theorem door_met (os : Os) (args : Array Value) : laidMetH Tryd.prog [("sharecore/field.fields", Rows.laid_sharecore_field_fields)] ((World.doorLaid Tryd.prog 400 os).forCall (fun _ _ => 0) ⟨#[], args, []⟩).memory :=
  laidMetH_of_parts3 (fuel := 8) (laidMet_of_run' 8 (by kernel_rfl) (by kernel_rfl)) (by kernel_rfl) (by kernel_rfl)

set_option maxRecDepth 100000 in
theorem lifted (os : Os) (started : os.Started) (H : Type) (enc : TypeId × Value → H) :
    ReturnsInHanded {} Tryd.checked os 7 .any (fun w args => (Rows.powerAddsSpec.pre enc Tryd.prog Tryd.f7 [] false w args ∧ laidMetH Tryd.prog [("sharecore/field.fields", Rows.laid_sharecore_field_fields)] w) ∧ sizedMet enc Tryd.prog Tryd.f7 (OpenSpec.ofChange Rows.powerAddsSpec) false w args)
      (Rows.powerAddsSpec.post enc Tryd.prog Tryd.f7 false true false false) := by
  refine returnsInHanded_of_change_and (C := Tryd.checked) (X := fun w _ => laidMetH Tryd.prog [("sharecore/field.fields", Rows.laid_sharecore_field_fields)] w) (fun _ _ _ hh h => h.of_heap hh) own started (by kernel_rfl) Tryd.func7
    (ChangeSpec.witness_shaped (enc := enc) (C := Tryd.checked) (os := os) (X := fun w _ => laidMetH Tryd.prog [("sharecore/field.fields", Rows.laid_sharecore_field_fields)] w) false (World.doorLaid Tryd.prog 400 os) #[.bool false, .agg #[.int .u64 0, .int .u64 0, .int .u64 0, .int .u64 0], .agg #[.int .u32 0, .int .u32 0]] 8 rfl (World.shaped_of_RefB (by kernel_rfl) (by kernel_rfl)) (by kernel_rfl) (by kernel_rfl) (by kernel_rfl) (door_met os _)) ?_
  intro W base args ds gs before hval0 hW _ _ hL _
  have hval : ∀ (j : Nat) t v, Tryd.f7.params[j]? = some t → args[j]? = some v → Value.okWide Tryd.prog W .any base t v := hval0
  have hW' := hW
  obtain ⟨p, q, hA0, hV, rfl, hfz, hnd⟩ := hW
  have hA : DataW.TrodAll enc Tryd.prog W 0 (fun _ => true) true Tryd.f7.params.toList args.toList ds p := hA0
  rw [Tryd.params7] at hA hval
  obtain ⟨v0, vs0, d0, ds0, p0, q0, hargs, rfl, rfl, h0, r0⟩ := trodAll_cons hA
  obtain ⟨v1, vs1, d1, ds1, p1, q1, rfl, rfl, rfl, h1, r1⟩ := trodAll_cons r0
  obtain ⟨v2, vs2, d2, ds2, p2, q2, rfl, rfl, rfl, h2, r2⟩ := trodAll_cons r1
  obtain ⟨rfl, rfl, rfl⟩ := trodAll_nil r2
  obtain rfl : args = #[v0, v1, v2] := by cases args; simp_all
  obtain ⟨rfl, rfl⟩ := trodVars_none hV
  obtain ⟨i0, rfl, rfl, rfl⟩ := open_bool Tryd.underlying4 (hval 0 4 v0 rfl rfl) h0
  have w0 := trivial
  have k1 := h1
  have lt1 : ∀ x ∈ p1, x.block < W.heap.size := by obtain ⟨m, hm⟩ := k1; exact DataW.trod_lt m _ _ _ hm
  obtain ⟨n1, w1, rfl⟩ := open_vec (hval 1 23 v1 rfl rfl) h1
  have k2 := h2
  have lt2 : ∀ x ∈ p2, x.block < W.heap.size := by obtain ⟨m, hm⟩ := k2; exact DataW.trod_lt m _ _ _ hm
  obtain ⟨n2, o2, w2, rfl⟩ := open_two32 (hval 2 49 v2 rfl rfl) h2
  have hT := tab_of_laid hL
  clear hA0 hval0
  refine (walk i0 n1 n2 o2 W w0 w1 w2 hT).mono fun e W' ⟨he, hoff⟩ => ?_
  have bel : Below W.heap.size W W' := hoff.below (Nat.le_refl _) (fun _ _ c => c)
  subst he
  exact ⟨_, rfl, _, _, _, [], _, [], hW', trodAll_mk1 (shut_bool Tryd.underlying4 _), (trodAll_cons_mk (shut_bool Tryd.underlying4 _) (trodAll_cons_mk (Below.trod laidOut (by kernel_rfl) (of_decide_eq_true (by kernel_rfl)) k1 bel lt1) (trodAll_cons_mk (Below.trod laidOut (by kernel_rfl) (of_decide_eq_true (by kernel_rfl)) k2 bel lt2) trodAll_mk0))), rfl, bel.frame _, fun h => by cases h⟩

theorem over : Rows.powerAddsRow.holds Tryd.pinned (OpenSpec.ofChange Rows.powerAddsSpec) :=
  OpenClaim.holds_of_wide 7 Tryd.f7 rfl rfl rfl rfl rfl rfl rfl ⟨rfl, rfl, rfl, rfl, rfl⟩ rfl rfl rfl rfl rfl (by kernel_rfl) Tryd.func7 (by kernel_rfl)
    (of_decide_eq_true (by kernel_rfl)) (by unfold Func.isWrapper; first | (rw [if_pos (by decide +kernel)]; kernel_rfl) | (rw [if_neg (by decide +kernel)]; exact ⟨rfl, rfl⟩))
    (fun os started H enc _ => lifted os started H enc)

theorem proved : Rows.PowerAddsCardSaid :=
  Claim7.holds_tied_plain_at .later [] [.data] true (true, "83b913165a27ef716bd447b61373d9eb70f4ac054efc4ed5ca269b7b66cbbef5") false
    over (fun _ h => by cases h) (by kernel_rfl) (fun _ h => by cases h) powerAdds_row_tie rfl ⟨rfl, rfl⟩ (by kernel_rfl) rfl
    (fun f fn hf hfn => by
      obtain rfl : f = 7 := Option.some.inj ((show Tryd.prog.funcNamed "sharecore/sharecorelaw06.PowerAdds" = some 7 by kernel_rfl).symm.trans hf) |>.symm
      obtain rfl : fn = Tryd.f7 := (Option.some.inj (Tryd.func7.symm.trans hfn)).symm
      exact ⟨by kernel_rfl, fun j t ht => by
        rw [Tryd.params7] at ht
        have hm : t ∈ [4, 23, 49] := by simpa using Array.mem_of_getElem? ht
        have hall : ([4, 23, 49].all fun u => !Tryd.prog.wantsStandIn u) = true := by kernel_rfl
        exact (show Tryd.prog.wantsStandIn t = false by simpa using List.all_eq_true.1 hall t hm)⟩)
    (by kernel_rfl)
#print axioms proved
end Go.Proofs.YtnegdlmpmmehmaaDoor.powerAdds
