/-
  For every field, number and exponent, the examples of the chapter hold, and Pow returns the same element as the reference: the statement of P6.1. No condition.
-/
import Derived.Test.YtnegdlmpmmehmaaDoorRows
import Derived.Test.YtnegdlmpmmehmaaDoorTie
import Derived.Test.YtnegdlmpmmehmaaDoorCards
import Derived.LaidMore
import Derived.LaidHandle
import Derived.SevenTiedAt
import Derived.Stop.Joined
import Derived.JoinedOf
import Derived.Test.YtnegdlmpmmehmaaDoorLimbOpen
import Derived.Test.YtnegdlmpmmehmaaDoorFieldTab
import Derived.Test.YtnegdlmpmmehmaaDoorFieldHeld
import Derived.Test.YtnegdlmpmmehmaaDoorPowBase
import Derived.Test.YtnegdlmpmmehmaaDoorInvMem
import Derived.Test.YtnegdlmpmmehmaaDoorInvSel
import Derived.WalkKit
import Derived.ProofKit
import Derived.OpenShut
import Derived.ShutString
import Derived.ChangeOld
import Derived.Below
namespace Go.Proofs.YtnegdlmpmmehmaaDoor.powerRaises
open Go.ChangeShapes Go.WideShapes Go.ChangeAt Go.RowKit
set_option linter.unusedVariables false

theorem own : ownKnob Tryd.prog.godebug = none := by kernel_rfl
theorem laidOut : laidOutB Tryd.prog = true := by kernel_rfl

set_option maxRecDepth 100000 in
set_option maxHeartbeats 4000000 in
theorem walk (i0 : Bool) (n1 : Nat) (n2 : Nat) (w : World) (w0 : True) (w1 : n1 < R256) (w2 : n2 < R256) (hT : TabAt w) :
    Calls Tryd.prog 3 #[.bool i0, V n1, V n2] w fun e w' => e = .returned (.bool true) ∧ Off (fun _ => False) w w' := by
  obtain ⟨id, p, i, r, s, hF, hid⟩ := fld_of i0
  have hp := hF.mp.lt
  have h1 := hF.mp.one
  have FG := Lib.hid (fun W hT => get6_any i0 hF hid W hT)
  obtain ⟨c, hx⟩ : ∃ c, c = n1 % p := ⟨_, rfl⟩
  have hxp : c < p := by rw [hx]; exact Nat.mod_lt _ (by omega)
  have hxR : c < R256 := by omega
  have FMo : Hid (∀ W, TabAt W → Calls Tryd.prog 10 #[V p, V n1] W fun e w' => e = .returned (V c) ∧ Off (fun _ => False) W w') := Lib.hid (fun W hT => by rw [hx]; exact mod_mod p n1 hp h1 w1 W)
  have FAL : Hid (∀ W, TabAt W → Calls Tryd.prog 11 #[] W fun e w' => e = .returned (.bool true) ∧ Off (fun _ => False) W w') := Lib.hid (fun W hT => alive6_any W hT)
  obtain ⟨u, hu⟩ : ∃ u, u = fm p c := ⟨_, rfl⟩
  obtain ⟨y, hy⟩ : ∃ y, y = c ^ n2 % p := ⟨_, rfl⟩
  have hyR : y < R256 := by rw [hy]; exact Nat.lt_trans (Nat.mod_lt _ (by omega)) hp
  obtain ⟨z, hz⟩ : ∃ z, z = fm p y := ⟨_, rfl⟩
  have FX : Hid (∀ W, TabAt W → Calls Tryd.prog 13 #[V p, V c] W fun e w' => e = .returned (V u) ∧ Off (fun _ => False) W w') := Lib.hid (fun W hT => by rw [hu]; exact form6_any p c hp h1 hxR W)
  have FY : Hid (∀ W, TabAt W → Calls Tryd.prog 13 #[V p, V y] W fun e w' => e = .returned (V z) ∧ Off (fun _ => False) W w') := Lib.hid (fun W hT => by rw [hz]; exact form6_any p y hp h1 hyR W)
  have FP : Hid (∀ W, TabAt W → Calls Tryd.prog 12 #[.pointer none, FV id p i r s, V u, V n2] W fun e w' => e = .returned (V z) ∧ Off (fun _ => False) W w') := Lib.hid (fun W hT => by rw [hu, hz, hy]; exact pow_nil hF c n2 w2 W)
  have FR : Hid (∀ W, TabAt W → Calls Tryd.prog 14 #[V p, V c, V n2] W fun e w' => e = .returned (V y) ∧ Off (fun _ => False) W w') := Lib.hid (fun W hT => by rw [hy]; exact mod_pow p c n2 hp h1 hxp w2 W)
  clear hx hxp hxR hy hyR hz hu hF hid hp h1 w0 w1 w2
  have e1 := equalIn_elem_same
  have e2 := equalIn_same
  go_enter Tryd.func3, Tryd.ntmps3
  go_wp2_with fail
  refine (FG.out _ (hT.off (((Off.refl _ w).alloc _).alloc _))).mono ?_
  rintro e u0 ⟨rfl, hO1⟩
  have hO0 : Off (fun _ => False) w u0 := (((Off.refl _ w).alloc _).alloc _).trans hO1 (fun _ _ c => c)
  have hn1c : u0.heap[w.heap.size]? = some (.cells #[.int .u64 (wd n1 0 : Int), .int .u64 (wd n1 1 : Int), .int .u64 (wd n1 2 : Int), .int .u64 (wd n1 3 : Int)] 23) := hO1.heap (heap_old' (heap_new' rfl _) _) (fun c => c)
  have hn2c : u0.heap[w.heap.size + 1]? = some (.cells #[.int .u64 (wd n2 0 : Int), .int .u64 (wd n2 1 : Int), .int .u64 (wd n2 2 : Int), .int .u64 (wd n2 3 : Int)] 23) := hO1.heap (heap_new' (by simp) _) (fun c => c)
  obtain ⟨W1, eW1⟩ : ∃ W1, W1 = (((u0).alloc (.cells #[.int .i64 id, .int .u64 (wd p 0 : Int), .int .u64 (wd p 1 : Int), .int .u64 (wd p 2 : Int), .int .u64 (wd p 3 : Int), .int .u64 (i : Int), .int .u64 (wd r 0 : Int), .int .u64 (wd r 1 : Int), .int .u64 (wd r 2 : Int), .int .u64 (wd r 3 : Int), .int .u64 (wd s 0 : Int), .int .u64 (wd s 1 : Int), .int .u64 (wd s 2 : Int), .int .u64 (wd s 3 : Int)] 26)).alloc (.cells #[.int .u64 (wd p 0 : Int), .int .u64 (wd p 1 : Int), .int .u64 (wd p 2 : Int), .int .u64 (wd p 3 : Int)] 23)) := ⟨_, rfl⟩
  have oW1 : Off (fun _ => False) u0 W1 := by rw [eW1]; exact ((Off.refl _ u0).alloc _).alloc _
  have hFc : W1.heap[u0.heap.size]? = some (.cells #[.int .i64 id, .int .u64 (wd p 0 : Int), .int .u64 (wd p 1 : Int), .int .u64 (wd p 2 : Int), .int .u64 (wd p 3 : Int), .int .u64 (i : Int), .int .u64 (wd r 0 : Int), .int .u64 (wd r 1 : Int), .int .u64 (wd r 2 : Int), .int .u64 (wd r 3 : Int), .int .u64 (wd s 0 : Int), .int .u64 (wd s 1 : Int), .int .u64 (wd s 2 : Int), .int .u64 (wd s 3 : Int)] 26) := by rw [eW1]; exact heap_old' (heap_new' rfl _) _
  have hPc : W1.heap[u0.heap.size + 1]? = some (.cells #[.int .u64 (wd p 0 : Int), .int .u64 (wd p 1 : Int), .int .u64 (wd p 2 : Int), .int .u64 (wd p 3 : Int)] 23) := by rw [eW1]; exact heap_new' (by simp) _
  have hn1 := oW1.heap hn1c (fun c => c)
  have hn2 := oW1.heap hn2c (fun c => c)
  obtain ⟨a0, a1, a2, a3⟩ := cells4 hn1
  obtain ⟨p0, p1, p2, p3⟩ := cells4 hPc
  have l0 := heap_lt hn2c
  have l1 := heap_lt hPc
  have HT1 := Lib.hid (hT.off (hO0.trans oW1 (fun _ _ c => c)))
  have HO1 := Lib.hid (hO0.trans oW1 (fun _ _ c => c))
  have HW1 := Lib.hid eW1
  have HFc := Lib.hid hFc
  have HPc := Lib.hid hPc
  have Hn2 := Lib.hid hn2
  clear hO1 hO0 hn1c hn2c hn1 hn2 hFc hPc eW1 oW1
  go_upto_region 2 with fail
  rw [← HW1.out]
  go_wp2_with fail
  refine (FMo.out _ HT1.out).mono ?_
  rintro e u1 ⟨rfl, hO2⟩
  clear a0 a1 a2 a3 p0 p1 p2 p3
  obtain ⟨W9, eW9⟩ : ∃ W9, W9 = ((u1).alloc (.cells #[.int .u64 (wd c 0 : Int), .int .u64 (wd c 1 : Int), .int .u64 (wd c 2 : Int), .int .u64 (wd c 3 : Int)] 23)) := ⟨_, rfl⟩
  have oW9 : Off (fun _ => False) u1 W9 := by rw [eW9]; exact (Off.refl _ u1).alloc _
  have hXk : W9.heap[u1.heap.size]? = some (.cells #[.int .u64 (wd c 0 : Int), .int .u64 (wd c 1 : Int), .int .u64 (wd c 2 : Int), .int .u64 (wd c 3 : Int)] 23) := by rw [eW9]; exact heap_new' rfl _
  have hOx := hO2.trans oW9 (fun _ _ c => c)
  have hFk := hOx.heap HFc.out (fun c => c)
  have hPk := hOx.heap HPc.out (fun c => c)
  have hEk := hOx.heap Hn2.out (fun c => c)
  have HK9 : Hid (∀ W, Off (fun _ => False) W9 W → (W.cell? ⟨u0.heap.size, 0, none⟩ = some (.int .i64 id) ∧ W.cell? ⟨u0.heap.size, 1, none⟩ = some (.int .u64 (wd p 0 : Int)) ∧ W.cell? ⟨u0.heap.size, 2, none⟩ = some (.int .u64 (wd p 1 : Int)) ∧ W.cell? ⟨u0.heap.size, 3, none⟩ = some (.int .u64 (wd p 2 : Int)) ∧ W.cell? ⟨u0.heap.size, 4, none⟩ = some (.int .u64 (wd p 3 : Int)) ∧ W.cell? ⟨u0.heap.size, 5, none⟩ = some (.int .u64 (i : Int)) ∧ W.cell? ⟨u0.heap.size, 6, none⟩ = some (.int .u64 (wd r 0 : Int)) ∧ W.cell? ⟨u0.heap.size, 7, none⟩ = some (.int .u64 (wd r 1 : Int)) ∧ W.cell? ⟨u0.heap.size, 8, none⟩ = some (.int .u64 (wd r 2 : Int)) ∧ W.cell? ⟨u0.heap.size, 9, none⟩ = some (.int .u64 (wd r 3 : Int)) ∧ W.cell? ⟨u0.heap.size, 10, none⟩ = some (.int .u64 (wd s 0 : Int)) ∧ W.cell? ⟨u0.heap.size, 11, none⟩ = some (.int .u64 (wd s 1 : Int)) ∧ W.cell? ⟨u0.heap.size, 12, none⟩ = some (.int .u64 (wd s 2 : Int)) ∧ W.cell? ⟨u0.heap.size, 13, none⟩ = some (.int .u64 (wd s 3 : Int))) ∧ (W.cell? ⟨u0.heap.size + 1, 0, none⟩ = some (.int .u64 (wd p 0 : Int)) ∧ W.cell? ⟨u0.heap.size + 1, 1, none⟩ = some (.int .u64 (wd p 1 : Int)) ∧ W.cell? ⟨u0.heap.size + 1, 2, none⟩ = some (.int .u64 (wd p 2 : Int)) ∧ W.cell? ⟨u0.heap.size + 1, 3, none⟩ = some (.int .u64 (wd p 3 : Int))) ∧ (W.cell? ⟨u1.heap.size, 0, none⟩ = some (.int .u64 (wd c 0 : Int)) ∧ W.cell? ⟨u1.heap.size, 1, none⟩ = some (.int .u64 (wd c 1 : Int)) ∧ W.cell? ⟨u1.heap.size, 2, none⟩ = some (.int .u64 (wd c 2 : Int)) ∧ W.cell? ⟨u1.heap.size, 3, none⟩ = some (.int .u64 (wd c 3 : Int))) ∧ (W.cell? ⟨w.heap.size + 1, 0, none⟩ = some (.int .u64 (wd n2 0 : Int)) ∧ W.cell? ⟨w.heap.size + 1, 1, none⟩ = some (.int .u64 (wd n2 1 : Int)) ∧ W.cell? ⟨w.heap.size + 1, 2, none⟩ = some (.int .u64 (wd n2 2 : Int)) ∧ W.cell? ⟨w.heap.size + 1, 3, none⟩ = some (.int .u64 (wd n2 3 : Int))) ∧ Off (fun _ => False) W9 W) := Lib.hid (fun W h => ⟨fv_cells (h.heap hFk (fun c => c)), cells4 (h.heap hPk (fun c => c)), cells4 (h.heap hXk (fun c => c)), cells4 (h.heap hEk (fun c => c)), h⟩)
  have HTW := Lib.hid (fun W (h : Off (fun _ => False) W9 W) => (HT1.out.off hOx).off h)
  have HOw := Lib.hid (HO1.out.trans hOx (fun _ _ c => c))
  have HW9 := Lib.hid eW9
  clear hO2 oW9 hOx hFk hPk hEk hXk eW9 HT1 HO1 HW1 HFc HPc Hn2
  go_upto_region 3 with fail
  rw [← HW9.out]
  obtain ⟨x18, hx⟩ : ∃ x : Value, x = .bool true := ⟨_, rfl⟩
  have X18 := Lib.hid hx
  clear hx
  obtain ⟨x19, hx⟩ : ∃ x : Value, x = .bool true := ⟨_, rfl⟩
  have X19 := Lib.hid hx
  clear hx
  obtain ⟨x20, hx⟩ : ∃ x : Value, x = FV id p i r s := ⟨_, rfl⟩
  have X20 := Lib.hid hx
  clear hx
  obtain ⟨x21, hx⟩ : ∃ x : Value, x = V p := ⟨_, rfl⟩
  have X21 := Lib.hid hx
  clear hx
  obtain ⟨x22, hx⟩ : ∃ x : Value, x = V c := ⟨_, rfl⟩
  have X22 := Lib.hid hx
  clear hx
  obtain ⟨x23, hx⟩ : ∃ x : Value, x = V u := ⟨_, rfl⟩
  have X23 := Lib.hid hx
  clear hx
  obtain ⟨x24, hx⟩ : ∃ x : Value, x = V n2 := ⟨_, rfl⟩
  have X24 := Lib.hid hx
  clear hx
  obtain ⟨x25, hx⟩ : ∃ x : Value, x = V z := ⟨_, rfl⟩
  have X25 := Lib.hid hx
  clear hx
  obtain ⟨x26, hx⟩ : ∃ x : Value, x = V p := ⟨_, rfl⟩
  have X26 := Lib.hid hx
  clear hx
  obtain ⟨x27, hx⟩ : ∃ x : Value, x = V p := ⟨_, rfl⟩
  have X27 := Lib.hid hx
  clear hx
  obtain ⟨x28, hx⟩ : ∃ x : Value, x = V c := ⟨_, rfl⟩
  have X28 := Lib.hid hx
  clear hx
  obtain ⟨x29, hx⟩ : ∃ x : Value, x = V n2 := ⟨_, rfl⟩
  have X29 := Lib.hid hx
  clear hx
  obtain ⟨x30, hx⟩ : ∃ x : Value, x = V y := ⟨_, rfl⟩
  have X30 := Lib.hid hx
  clear hx
  obtain ⟨x31, hx⟩ : ∃ x : Value, x = V z := ⟨_, rfl⟩
  have X31 := Lib.hid hx
  clear hx
  obtain ⟨x32, hx⟩ : ∃ x : Value, x = .bool true := ⟨_, rfl⟩
  have X32 := Lib.hid hx
  clear hx
  obtain ⟨x33, hx⟩ : ∃ x : Value, x = .bool true := ⟨_, rfl⟩
  have X33 := Lib.hid hx
  clear hx
  obtain ⟨x6, hx⟩ : ∃ x : Value, x = .bool true := ⟨_, rfl⟩
  have X6 := Lib.hid hx
  clear hx
  refine wp_region_inv (fun a0 l a' w' => a' = (Act.put (fill a0 18 [sel (l 0) x18 undef, sel (l 1) x19 undef, sel (l 2) x20 undef, sel (l 3) x21 undef, sel (l 4) x22 undef, sel (l 5) x23 undef, sel (l 6) x24 undef, sel (l 7) x25 undef, sel (l 8) x26 undef, sel (l 9) x27 undef, sel (l 10) x28 undef, sel (l 11) x29 undef, sel (l 12) x30 undef, sel (l 13) x31 undef, sel (l 14) x32 undef, sel (l 15) x33 undef]) (some 6) (sel (l 16) x6 (.bool false))) ∧ Off (fun _ => False) W9 w') (by kernel_rfl) (by kernel_rfl) ?_ ⟨?_, ?_, ?_, ?_, ?_, ?_, ?_, ?_, ?_, ?_, ?_, ?_, ?_, ?_, ?_, ?_, ?_, trivial⟩ ?_
  · refine ⟨?_, (Off.refl _ W9).drew⟩
    simp only [fill_eq, List.take_succ_cons, List.take_zero, List.cons_append, List.nil_append, Act.put, List.setIfInBounds_toArray, List.set_cons_zero, List.set_cons_succ, sel_start]
  · as_aux_lemma =>
      rintro l a wr ⟨ha, hO⟩ hl hd K' hK
      have hx := X18.out; subst hx
      simp only [fill_eq, List.take_succ_cons, List.take_zero, List.cons_append, List.nil_append, Act.put, List.setIfInBounds_toArray, List.set_cons_zero, List.set_cons_succ] at ha
      subst ha
      rw [if_pos (by rfl)]
      go_simp
      refine (held_inv (FAL.out wr (HTW.out wr hO)) hO).mono ?_
      rintro e w1 ⟨rfl, hO1, hOW⟩
      go_wp2_with fail
      refine hK.out _ _ ⟨?_, hO1⟩
      simp only [fill_eq, List.take_succ_cons, List.take_zero, List.cons_append, List.nil_append, Act.put, List.setIfInBounds_toArray, List.set_cons_zero, List.set_cons_succ, sel_new]
      rfl
  · as_aux_lemma =>
      rintro l a wr ⟨ha, hO⟩ hl hd K' hK
      have d0 := hd 0 (by decide)
      have hx := X18.out; subst hx
      have hx := X19.out; subst hx
      simp only [fill_eq, List.take_succ_cons, List.take_zero, List.cons_append, List.nil_append, Act.put, List.setIfInBounds_toArray, List.set_cons_zero, List.set_cons_succ, sel_of d0] at ha
      subst ha
      rw [if_pos (by rfl)]
      go_simp
      refine hK.out _ _ ⟨?_, hO⟩
      simp only [fill_eq, List.take_succ_cons, List.take_zero, List.cons_append, List.nil_append, Act.put, List.setIfInBounds_toArray, List.set_cons_zero, List.set_cons_succ, sel_new, sel_dep d0]
      rfl
  · as_aux_lemma =>
      rintro l a wr ⟨ha, hO⟩ hl hd K' hK
      have d1 := hd 1 (by decide)
      have hx := X19.out; subst hx
      have hx := X20.out; subst hx
      simp only [fill_eq, List.take_succ_cons, List.take_zero, List.cons_append, List.nil_append, Act.put, List.setIfInBounds_toArray, List.set_cons_zero, List.set_cons_succ, sel_of d1] at ha
      subst ha
      have hc := HK9.out wr hO
      have p0 := hc.1.1
      have p1 := hc.1.2.1
      have p2 := hc.1.2.2.1
      have p3 := hc.1.2.2.2.1
      have p4 := hc.1.2.2.2.2.1
      have p5 := hc.1.2.2.2.2.2.1
      have p6 := hc.1.2.2.2.2.2.2.1
      have p7 := hc.1.2.2.2.2.2.2.2.1
      have p8 := hc.1.2.2.2.2.2.2.2.2.1
      have p9 := hc.1.2.2.2.2.2.2.2.2.2.1
      have p10 := hc.1.2.2.2.2.2.2.2.2.2.2.1
      have p11 := hc.1.2.2.2.2.2.2.2.2.2.2.2.1
      have p12 := hc.1.2.2.2.2.2.2.2.2.2.2.2.2.1
      have p13 := hc.1.2.2.2.2.2.2.2.2.2.2.2.2.2
      clear hc
      rw [if_pos (by rfl)]
      go_simp
      refine hK.out _ _ ⟨?_, hO⟩
      simp only [fill_eq, List.take_succ_cons, List.take_zero, List.cons_append, List.nil_append, Act.put, List.setIfInBounds_toArray, List.set_cons_zero, List.set_cons_succ, sel_new, sel_dep d1]
      rfl
  · as_aux_lemma =>
      rintro l a wr ⟨ha, hO⟩ hl hd K' hK
      have d1 := hd 1 (by decide)
      have hx := X19.out; subst hx
      have hx := X21.out; subst hx
      simp only [fill_eq, List.take_succ_cons, List.take_zero, List.cons_append, List.nil_append, Act.put, List.setIfInBounds_toArray, List.set_cons_zero, List.set_cons_succ, sel_of d1] at ha
      subst ha
      have hc := HK9.out wr hO
      have p0 := hc.2.1.1
      have p1 := hc.2.1.2.1
      have p2 := hc.2.1.2.2.1
      have p3 := hc.2.1.2.2.2
      clear hc
      rw [if_pos (by rfl)]
      go_simp
      refine hK.out _ _ ⟨?_, hO⟩
      simp only [fill_eq, List.take_succ_cons, List.take_zero, List.cons_append, List.nil_append, Act.put, List.setIfInBounds_toArray, List.set_cons_zero, List.set_cons_succ, sel_new, sel_dep d1]
      rfl
  · as_aux_lemma =>
      rintro l a wr ⟨ha, hO⟩ hl hd K' hK
      have d1 := hd 1 (by decide)
      have hx := X19.out; subst hx
      have hx := X22.out; subst hx
      simp only [fill_eq, List.take_succ_cons, List.take_zero, List.cons_append, List.nil_append, Act.put, List.setIfInBounds_toArray, List.set_cons_zero, List.set_cons_succ, sel_of d1] at ha
      subst ha
      have hc := HK9.out wr hO
      have p0 := hc.2.2.1.1
      have p1 := hc.2.2.1.2.1
      have p2 := hc.2.2.1.2.2.1
      have p3 := hc.2.2.1.2.2.2
      clear hc
      rw [if_pos (by rfl)]
      go_simp
      refine hK.out _ _ ⟨?_, hO⟩
      simp only [fill_eq, List.take_succ_cons, List.take_zero, List.cons_append, List.nil_append, Act.put, List.setIfInBounds_toArray, List.set_cons_zero, List.set_cons_succ, sel_new, sel_dep d1]
      rfl
  · as_aux_lemma =>
      rintro l a wr ⟨ha, hO⟩ hl hd K' hK
      have d1 := hd 1 (by decide)
      have d3 := hd 3 (by decide)
      have d4 := hd 4 (by decide)
      have hx := X19.out; subst hx
      have hx := X21.out; subst hx
      have hx := X22.out; subst hx
      have hx := X23.out; subst hx
      simp only [fill_eq, List.take_succ_cons, List.take_zero, List.cons_append, List.nil_append, Act.put, List.setIfInBounds_toArray, List.set_cons_zero, List.set_cons_succ, sel_of d1, sel_of d3, sel_of d4] at ha
      subst ha
      rw [if_pos (by rfl)]
      go_simp
      refine (held_inv (FX.out wr (HTW.out wr hO)) hO).mono ?_
      rintro e w1 ⟨rfl, hO1, hOW⟩
      go_wp2_with fail
      refine hK.out _ _ ⟨?_, hO1⟩
      simp only [fill_eq, List.take_succ_cons, List.take_zero, List.cons_append, List.nil_append, Act.put, List.setIfInBounds_toArray, List.set_cons_zero, List.set_cons_succ, sel_new, sel_dep d1, sel_dep d3, sel_dep d4]
      rfl
  · as_aux_lemma =>
      rintro l a wr ⟨ha, hO⟩ hl hd K' hK
      have d1 := hd 1 (by decide)
      have hx := X19.out; subst hx
      have hx := X24.out; subst hx
      simp only [fill_eq, List.take_succ_cons, List.take_zero, List.cons_append, List.nil_append, Act.put, List.setIfInBounds_toArray, List.set_cons_zero, List.set_cons_succ, sel_of d1] at ha
      subst ha
      have hc := HK9.out wr hO
      have p0 := hc.2.2.2.1.1
      have p1 := hc.2.2.2.1.2.1
      have p2 := hc.2.2.2.1.2.2.1
      have p3 := hc.2.2.2.1.2.2.2
      clear hc
      rw [if_pos (by rfl)]
      go_simp
      refine hK.out _ _ ⟨?_, hO⟩
      simp only [fill_eq, List.take_succ_cons, List.take_zero, List.cons_append, List.nil_append, Act.put, List.setIfInBounds_toArray, List.set_cons_zero, List.set_cons_succ, sel_new, sel_dep d1]
      rfl
  · as_aux_lemma =>
      rintro l a wr ⟨ha, hO⟩ hl hd K' hK
      have d1 := hd 1 (by decide)
      have d2 := hd 2 (by decide)
      have d5 := hd 5 (by decide)
      have d6 := hd 6 (by decide)
      have hx := X19.out; subst hx
      have hx := X20.out; subst hx
      have hx := X23.out; subst hx
      have hx := X24.out; subst hx
      have hx := X25.out; subst hx
      simp only [fill_eq, List.take_succ_cons, List.take_zero, List.cons_append, List.nil_append, Act.put, List.setIfInBounds_toArray, List.set_cons_zero, List.set_cons_succ, sel_of d1, sel_of d2, sel_of d5, sel_of d6] at ha
      subst ha
      rw [if_pos (by rfl)]
      go_simp
      refine (held_inv (FP.out wr (HTW.out wr hO)) hO).mono ?_
      rintro e w1 ⟨rfl, hO1, hOW⟩
      go_wp2_with fail
      refine hK.out _ _ ⟨?_, hO1⟩
      simp only [fill_eq, List.take_succ_cons, List.take_zero, List.cons_append, List.nil_append, Act.put, List.setIfInBounds_toArray, List.set_cons_zero, List.set_cons_succ, sel_new, sel_dep d1, sel_dep d2, sel_dep d5, sel_dep d6]
      rfl
  · as_aux_lemma =>
      rintro l a wr ⟨ha, hO⟩ hl hd K' hK
      have d1 := hd 1 (by decide)
      have hx := X19.out; subst hx
      have hx := X26.out; subst hx
      simp only [fill_eq, List.take_succ_cons, List.take_zero, List.cons_append, List.nil_append, Act.put, List.setIfInBounds_toArray, List.set_cons_zero, List.set_cons_succ, sel_of d1] at ha
      subst ha
      have hc := HK9.out wr hO
      have p0 := hc.2.1.1
      have p1 := hc.2.1.2.1
      have p2 := hc.2.1.2.2.1
      have p3 := hc.2.1.2.2.2
      clear hc
      rw [if_pos (by rfl)]
      go_simp
      refine hK.out _ _ ⟨?_, hO⟩
      simp only [fill_eq, List.take_succ_cons, List.take_zero, List.cons_append, List.nil_append, Act.put, List.setIfInBounds_toArray, List.set_cons_zero, List.set_cons_succ, sel_new, sel_dep d1]
      rfl
  · as_aux_lemma =>
      rintro l a wr ⟨ha, hO⟩ hl hd K' hK
      have d1 := hd 1 (by decide)
      have hx := X19.out; subst hx
      have hx := X27.out; subst hx
      simp only [fill_eq, List.take_succ_cons, List.take_zero, List.cons_append, List.nil_append, Act.put, List.setIfInBounds_toArray, List.set_cons_zero, List.set_cons_succ, sel_of d1] at ha
      subst ha
      have hc := HK9.out wr hO
      have p0 := hc.2.1.1
      have p1 := hc.2.1.2.1
      have p2 := hc.2.1.2.2.1
      have p3 := hc.2.1.2.2.2
      clear hc
      rw [if_pos (by rfl)]
      go_simp
      refine hK.out _ _ ⟨?_, hO⟩
      simp only [fill_eq, List.take_succ_cons, List.take_zero, List.cons_append, List.nil_append, Act.put, List.setIfInBounds_toArray, List.set_cons_zero, List.set_cons_succ, sel_new, sel_dep d1]
      rfl
  · as_aux_lemma =>
      rintro l a wr ⟨ha, hO⟩ hl hd K' hK
      have d1 := hd 1 (by decide)
      have hx := X19.out; subst hx
      have hx := X28.out; subst hx
      simp only [fill_eq, List.take_succ_cons, List.take_zero, List.cons_append, List.nil_append, Act.put, List.setIfInBounds_toArray, List.set_cons_zero, List.set_cons_succ, sel_of d1] at ha
      subst ha
      have hc := HK9.out wr hO
      have p0 := hc.2.2.1.1
      have p1 := hc.2.2.1.2.1
      have p2 := hc.2.2.1.2.2.1
      have p3 := hc.2.2.1.2.2.2
      clear hc
      rw [if_pos (by rfl)]
      go_simp
      refine hK.out _ _ ⟨?_, hO⟩
      simp only [fill_eq, List.take_succ_cons, List.take_zero, List.cons_append, List.nil_append, Act.put, List.setIfInBounds_toArray, List.set_cons_zero, List.set_cons_succ, sel_new, sel_dep d1]
      rfl
  · as_aux_lemma =>
      rintro l a wr ⟨ha, hO⟩ hl hd K' hK
      have d1 := hd 1 (by decide)
      have hx := X19.out; subst hx
      have hx := X29.out; subst hx
      simp only [fill_eq, List.take_succ_cons, List.take_zero, List.cons_append, List.nil_append, Act.put, List.setIfInBounds_toArray, List.set_cons_zero, List.set_cons_succ, sel_of d1] at ha
      subst ha
      have hc := HK9.out wr hO
      have p0 := hc.2.2.2.1.1
      have p1 := hc.2.2.2.1.2.1
      have p2 := hc.2.2.2.1.2.2.1
      have p3 := hc.2.2.2.1.2.2.2
      clear hc
      rw [if_pos (by rfl)]
      go_simp
      refine hK.out _ _ ⟨?_, hO⟩
      simp only [fill_eq, List.take_succ_cons, List.take_zero, List.cons_append, List.nil_append, Act.put, List.setIfInBounds_toArray, List.set_cons_zero, List.set_cons_succ, sel_new, sel_dep d1]
      rfl
  · as_aux_lemma =>
      rintro l a wr ⟨ha, hO⟩ hl hd K' hK
      have d1 := hd 1 (by decide)
      have d9 := hd 9 (by decide)
      have d10 := hd 10 (by decide)
      have d11 := hd 11 (by decide)
      have hx := X19.out; subst hx
      have hx := X27.out; subst hx
      have hx := X28.out; subst hx
      have hx := X29.out; subst hx
      have hx := X30.out; subst hx
      simp only [fill_eq, List.take_succ_cons, List.take_zero, List.cons_append, List.nil_append, Act.put, List.setIfInBounds_toArray, List.set_cons_zero, List.set_cons_succ, sel_of d1, sel_of d9, sel_of d10, sel_of d11] at ha
      subst ha
      rw [if_pos (by rfl)]
      go_simp
      refine (held_inv (FR.out wr (HTW.out wr hO)) hO).mono ?_
      rintro e w1 ⟨rfl, hO1, hOW⟩
      go_wp2_with fail
      refine hK.out _ _ ⟨?_, hO1⟩
      simp only [fill_eq, List.take_succ_cons, List.take_zero, List.cons_append, List.nil_append, Act.put, List.setIfInBounds_toArray, List.set_cons_zero, List.set_cons_succ, sel_new, sel_dep d1, sel_dep d9, sel_dep d10, sel_dep d11]
      rfl
  · as_aux_lemma =>
      rintro l a wr ⟨ha, hO⟩ hl hd K' hK
      have d1 := hd 1 (by decide)
      have d8 := hd 8 (by decide)
      have d12 := hd 12 (by decide)
      have hx := X19.out; subst hx
      have hx := X26.out; subst hx
      have hx := X30.out; subst hx
      have hx := X31.out; subst hx
      simp only [fill_eq, List.take_succ_cons, List.take_zero, List.cons_append, List.nil_append, Act.put, List.setIfInBounds_toArray, List.set_cons_zero, List.set_cons_succ, sel_of d1, sel_of d8, sel_of d12] at ha
      subst ha
      rw [if_pos (by rfl)]
      go_simp
      refine (held_inv (FY.out wr (HTW.out wr hO)) hO).mono ?_
      rintro e w1 ⟨rfl, hO1, hOW⟩
      go_wp2_with fail
      refine hK.out _ _ ⟨?_, hO1⟩
      simp only [fill_eq, List.take_succ_cons, List.take_zero, List.cons_append, List.nil_append, Act.put, List.setIfInBounds_toArray, List.set_cons_zero, List.set_cons_succ, sel_new, sel_dep d1, sel_dep d8, sel_dep d12]
      rfl
  · as_aux_lemma =>
      rintro l a wr ⟨ha, hO⟩ hl hd K' hK
      have d1 := hd 1 (by decide)
      have d7 := hd 7 (by decide)
      have d13 := hd 13 (by decide)
      have hx := X19.out; subst hx
      have hx := X25.out; subst hx
      have hx := X31.out; subst hx
      have hx := X32.out; subst hx
      simp only [fill_eq, List.take_succ_cons, List.take_zero, List.cons_append, List.nil_append, Act.put, List.setIfInBounds_toArray, List.set_cons_zero, List.set_cons_succ, sel_of d1, sel_of d7, sel_of d13] at ha
      subst ha
      rw [if_pos (by rfl)]
      go_simp
      refine hK.out _ _ ⟨?_, hO⟩
      simp only [fill_eq, List.take_succ_cons, List.take_zero, List.cons_append, List.nil_append, Act.put, List.setIfInBounds_toArray, List.set_cons_zero, List.set_cons_succ, sel_new, sel_dep d1, sel_dep d7, sel_dep d13]
      rfl
  · as_aux_lemma =>
      rintro l a wr ⟨ha, hO⟩ hl hd K' hK
      have d1 := hd 1 (by decide)
      have d14 := hd 14 (by decide)
      have hx := X19.out; subst hx
      have hx := X32.out; subst hx
      have hx := X33.out; subst hx
      simp only [fill_eq, List.take_succ_cons, List.take_zero, List.cons_append, List.nil_append, Act.put, List.setIfInBounds_toArray, List.set_cons_zero, List.set_cons_succ, sel_of d1, sel_of d14] at ha
      subst ha
      rw [if_pos (by rfl)]
      go_simp
      refine hK.out _ _ ⟨?_, hO⟩
      simp only [fill_eq, List.take_succ_cons, List.take_zero, List.cons_append, List.nil_append, Act.put, List.setIfInBounds_toArray, List.set_cons_zero, List.set_cons_succ, sel_new, sel_dep d1, sel_dep d14]
      rfl
  · as_aux_lemma =>
      rintro l a wr ⟨ha, hO⟩ hl hd K' hK
      have d15 := hd 15 (by decide)
      have hx := X33.out; subst hx
      have hx := X6.out; subst hx
      simp only [fill_eq, List.take_succ_cons, List.take_zero, List.cons_append, List.nil_append, Act.put, List.setIfInBounds_toArray, List.set_cons_zero, List.set_cons_succ, sel_of d15] at ha
      subst ha
      rw [if_pos (by rfl)]
      go_simp
      refine hK.out _ _ ⟨?_, hO⟩
      simp only [fill_eq, List.take_succ_cons, List.take_zero, List.cons_append, List.nil_append, Act.put, List.setIfInBounds_toArray, List.set_cons_zero, List.set_cons_succ, sel_new, sel_dep d15]
      rfl
  · rintro l a wc ⟨ha, hO⟩ hd
    simp only [fill_eq, List.take_succ_cons, List.take_zero, List.cons_append, List.nil_append, Act.put, List.setIfInBounds_toArray, List.set_cons_zero, List.set_cons_succ, sel_of (hd 0 (by decide)), sel_of (hd 1 (by decide)), sel_of (hd 2 (by decide)), sel_of (hd 3 (by decide)), sel_of (hd 4 (by decide)), sel_of (hd 5 (by decide)), sel_of (hd 6 (by decide)), sel_of (hd 7 (by decide)), sel_of (hd 8 (by decide)), sel_of (hd 9 (by decide)), sel_of (hd 10 (by decide)), sel_of (hd 11 (by decide)), sel_of (hd 12 (by decide)), sel_of (hd 13 (by decide)), sel_of (hd 14 (by decide)), sel_of (hd 15 (by decide)), sel_of (hd 16 (by decide))] at ha
    subst ha
    have hx := X6.out; subst hx
    have HOf := Lib.hid ((HOw.out).trans hO (fun _ _ c => c))
    clear hO hd
    go_wp2
    go_ret
    exact ⟨rfl, HOf.out⟩

theorem door_met (os : Os) (args : Array Value) : laidMetH Tryd.prog [("sharecore/field.fields", Rows.laid_sharecore_field_fields)] ((World.doorLaid Tryd.prog 400 os).forCall (fun _ _ => 0) ⟨#[], args, []⟩).memory :=
  laidMetH_of_parts3 (fuel := 8) (laidMet_of_run' 8 (by kernel_rfl) (by kernel_rfl)) (by kernel_rfl) (by kernel_rfl)

set_option maxRecDepth 100000 in
theorem lifted (os : Os) (started : os.Started) (H : Type) (enc : TypeId × Value → H) :
    ReturnsInHanded {} Tryd.checked os 3 .any (fun w args => (Rows.powerRaisesSpec.pre enc Tryd.prog Tryd.f3 [] false w args ∧ laidMetH Tryd.prog [("sharecore/field.fields", Rows.laid_sharecore_field_fields)] w) ∧ sizedMet enc Tryd.prog Tryd.f3 (OpenSpec.ofChange Rows.powerRaisesSpec) false w args)
      (Rows.powerRaisesSpec.post enc Tryd.prog Tryd.f3 false true false false) := by
  refine returnsInHanded_of_change_and (C := Tryd.checked) (X := fun w _ => laidMetH Tryd.prog [("sharecore/field.fields", Rows.laid_sharecore_field_fields)] w) (fun _ _ _ hh h => h.of_heap hh) own started (by kernel_rfl) Tryd.func3
    (ChangeSpec.witness_shaped (enc := enc) (C := Tryd.checked) (os := os) (X := fun w _ => laidMetH Tryd.prog [("sharecore/field.fields", Rows.laid_sharecore_field_fields)] w) false (World.doorLaid Tryd.prog 400 os) #[.bool false, .agg #[.int .u64 0, .int .u64 0, .int .u64 0, .int .u64 0], .agg #[.int .u64 0, .int .u64 0, .int .u64 0, .int .u64 0]] 8 rfl (World.shaped_of_RefB (by kernel_rfl) (by kernel_rfl)) (by kernel_rfl) (by kernel_rfl) (by kernel_rfl) (door_met os _)) ?_
  intro W base args ds gs before hval0 hW _ _ hL _
  have hval : ∀ (j : Nat) t v, Tryd.f3.params[j]? = some t → args[j]? = some v → Value.okWide Tryd.prog W .any base t v := hval0
  have hW' := hW
  obtain ⟨p, q, hA0, hV, rfl, hfz, hnd⟩ := hW
  have hA : DataW.TrodAll enc Tryd.prog W 0 (fun _ => true) true Tryd.f3.params.toList args.toList ds p := hA0
  rw [Tryd.params3] at hA hval
  obtain ⟨v0, vs0, d0, ds0, p0, q0, hargs, rfl, rfl, h0, r0⟩ := trodAll_cons hA
  obtain ⟨v1, vs1, d1, ds1, p1, q1, rfl, rfl, rfl, h1, r1⟩ := trodAll_cons r0
  obtain ⟨v2, vs2, d2, ds2, p2, q2, rfl, rfl, rfl, h2, r2⟩ := trodAll_cons r1
  obtain ⟨rfl, rfl, rfl⟩ := trodAll_nil r2
  obtain rfl : args = #[v0, v1, v2] := by cases args; simp_all
  obtain ⟨rfl, rfl⟩ := trodVars_none hV
  obtain ⟨i0, rfl, rfl, rfl⟩ := open_bool Tryd.underlying4 (hval 0 4 v0 rfl rfl) h0
  have w0 := trivial
  have k1 := h1
  have lt1 : ∀ x ∈ p1, x.block < W.heap.size := by obtain ⟨m, hm⟩ := k1; exact DataW.trod_lt m _ _ _ hm
  obtain ⟨n1, w1, rfl⟩ := open_vec (hval 1 23 v1 rfl rfl) h1
  have k2 := h2
  have lt2 : ∀ x ∈ p2, x.block < W.heap.size := by obtain ⟨m, hm⟩ := k2; exact DataW.trod_lt m _ _ _ hm
  obtain ⟨n2, w2, rfl⟩ := open_vec (hval 2 23 v2 rfl rfl) h2
  have hT := tab_of_laid hL
  clear hA0 hval0
  refine (walk i0 n1 n2 W w0 w1 w2 hT).mono fun e W' ⟨he, hoff⟩ => ?_
  have bel : Below W.heap.size W W' := hoff.below (Nat.le_refl _) (fun _ _ c => c)
  subst he
  exact ⟨_, rfl, _, _, _, [], _, [], hW', trodAll_mk1 (shut_bool Tryd.underlying4 _), (trodAll_cons_mk (shut_bool Tryd.underlying4 _) (trodAll_cons_mk (Below.trod laidOut (by kernel_rfl) (of_decide_eq_true (by kernel_rfl)) k1 bel lt1) (trodAll_cons_mk (Below.trod laidOut (by kernel_rfl) (of_decide_eq_true (by kernel_rfl)) k2 bel lt2) trodAll_mk0))), rfl, bel.frame _, fun h => by cases h⟩

theorem over : Rows.powerRaisesRow.holds Tryd.pinned (OpenSpec.ofChange Rows.powerRaisesSpec) :=
  OpenClaim.holds_of_wide 3 Tryd.f3 rfl rfl rfl rfl rfl rfl rfl ⟨rfl, rfl, rfl, rfl, rfl⟩ rfl rfl rfl rfl rfl (by kernel_rfl) Tryd.func3 (by kernel_rfl)
    (of_decide_eq_true (by kernel_rfl)) (by unfold Func.isWrapper; first | (rw [if_pos (by decide +kernel)]; kernel_rfl) | (rw [if_neg (by decide +kernel)]; exact ⟨rfl, rfl⟩))
    (fun os started H enc _ => lifted os started H enc)

theorem proved : Rows.PowerRaisesCardSaid :=
  Claim7.holds_tied_plain_at .later [] [.data] true (true, "83b913165a27ef716bd447b61373d9eb70f4ac054efc4ed5ca269b7b66cbbef5") false
    over (fun _ h => by cases h) (by kernel_rfl) (fun _ h => by cases h) powerRaises_row_tie rfl ⟨rfl, rfl⟩ (by kernel_rfl) rfl
    (fun f fn hf hfn => by
      obtain rfl : f = 3 := Option.some.inj ((show Tryd.prog.funcNamed "sharecore/sharecorelaw06.PowerRaises" = some 3 by kernel_rfl).symm.trans hf) |>.symm
      obtain rfl : fn = Tryd.f3 := (Option.some.inj (Tryd.func3.symm.trans hfn)).symm
      exact ⟨by kernel_rfl, fun j t ht => by
        rw [Tryd.params3] at ht
        have hm : t ∈ [4, 23] := by simpa using Array.mem_of_getElem? ht
        have hall : ([4, 23].all fun u => !Tryd.prog.wantsStandIn u) = true := by kernel_rfl
        exact (show Tryd.prog.wantsStandIn t = false by simpa using List.all_eq_true.1 hall t hm)⟩)
    (by kernel_rfl)
#print axioms proved
end Go.Proofs.YtnegdlmpmmehmaaDoor.powerRaises
