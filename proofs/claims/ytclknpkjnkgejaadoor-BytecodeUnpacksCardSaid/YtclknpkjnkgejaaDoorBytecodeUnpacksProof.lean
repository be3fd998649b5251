/-
  For every field, value and number of bytes, the examples of the chapter hold, and Unpack returns the first bytes of the value, or the error: the statement of P7.5. No condition.
-/
import Derived.Test.YtclknpkjnkgejaaDoorRows
import Derived.Test.YtclknpkjnkgejaaDoorTie
import Derived.Test.YtclknpkjnkgejaaDoorCards
import Derived.LaidMore
import Derived.LaidHandle
import Derived.SevenTiedAt
import Derived.Stop.Joined
import Derived.JoinedOf
import Derived.Test.YtclknpkjnkgejaaDoorLimbOpen
import Derived.Test.YtclknpkjnkgejaaDoorFieldTab
import Derived.Test.YtclknpkjnkgejaaDoorFieldHeld
import Derived.Test.YtclknpkjnkgejaaDoorBytAlive
import Derived.Test.YtclknpkjnkgejaaDoorBytRefs
import Derived.Test.YtclknpkjnkgejaaDoorInvMem
import Derived.Test.YtclknpkjnkgejaaDoorInvSel
import Derived.WalkKit
import Derived.ProofKit
import Derived.OpenShut
import Derived.ShutString
import Derived.ChangeOld
import Derived.Below
namespace Go.Proofs.YtclknpkjnkgejaaDoor.bytecodeUnpacks
open Go.ChangeShapes Go.WideShapes Go.ChangeAt Go.RowKit
set_option linter.unusedVariables false

theorem own : ownKnob Tryd.prog.godebug = none := by kernel_rfl
theorem laidOut : laidOutB Tryd.prog = true := by kernel_rfl

set_option maxRecDepth 100000 in
set_option maxHeartbeats 4000000 in
theorem walk (i0 : Bool) (n1 : Nat) (i2 : Int) (w : World) (w0 : True) (w1 : n1 < R256) (w2 : (Lit.int .i64 i2).wf = true) (hT : TabAt w) :
    Calls Tryd.prog 7 #[.bool i0, V n1, .int .i64 i2] w fun e w' => e = .returned (.bool true) ∧ Off (fun _ => False) w w' := by
  obtain ⟨id, p, i, r, s, hF, hid⟩ := fld_of i0
  have hp := hF.mp.lt
  have h1 := hF.mp.one
  have FG := Lib.hid (fun W hT => get7_any i0 hF hid W hT)
  have FAL : Hid (∀ W, TabAt W → Calls Tryd.prog 14 #[] W fun e w' => e = .returned (.bool true) ∧ Off (fun _ => False) W w') := Lib.hid (fun W hT => alive7_any W hT)
  have hMo := fun W => mod_mod p n1 hp h1 w1 W
  obtain ⟨v, hv⟩ : ∃ v, v = n1 % p := ⟨_, rfl⟩
  have hvp : v < p := by rw [hv]; exact Nat.mod_lt _ (by omega)
  rw [← hv] at hMo
  have FMo := Lib.hid hMo
  have hX := fun W => form7_any p v hp h1 (by omega) W
  have hup : fm p v < p := fm_lt (by omega) _
  have hmv : mm p (fm p v) 1 = v := by rw [mm_one hF.mp, Nat.mod_eq_of_lt hvp]
  clear hMo hv
  have hU := fun W => unpack_any hF (fm p v) hup i2 w2 W
  rw [hmv] at hU
  have hR := fun W => refunpack_any v i2 w2 W
  obtain ⟨bs, hbs⟩ : ∃ bs, bs = (unpV v i2).1 := ⟨_, rfl⟩
  obtain ⟨er, her⟩ : ∃ er : Int, er = ((unpV v i2).2 : Int) := ⟨_, rfl⟩
  rw [← hbs, ← her] at hU hR
  obtain ⟨el, hx⟩ : ∃ el, el = fm p v := ⟨_, rfl⟩
  rw [← hx] at hU hX
  have FU : Hid (∀ W, Calls Tryd.prog 21 #[FV id p i r s, V el, .int .i64 i2] W fun e w' => ∃ sv, e = .returned (.tuple #[sv, .int .i64 er]) ∧ SvAt w' sv bs ∧ Off (fun _ => False) W w') := Lib.hid hU
  have FR : Hid (∀ W, Calls Tryd.prog 23 #[V v, .int .i64 i2] W fun e w' => ∃ sv, e = .returned (.tuple #[sv, .int .i64 er]) ∧ SvAt w' sv bs ∧ Off (fun _ => False) W w') := Lib.hid hR
  have FX := Lib.hid hX
  clear hU hR hX hbs her hvp hup hmv hx hF hid hp h1 w1 w2
  have e1 := equalIn_elem_same
  have e2 := equalIn_same
  go_enter Tryd.func7, Tryd.ntmps7
  go_wp2_with fail
  refine (FG.out _ (hT.off ((Off.refl _ w).alloc _))).mono ?_
  rintro e u0 ⟨rfl, hOu⟩
  have HNb := Lib.hid (show u0.heap[w.heap.size]? = some (.cells #[.int .u64 (wd n1 0 : Int), .int .u64 (wd n1 1 : Int), .int .u64 (wd n1 2 : Int), .int .u64 (wd n1 3 : Int)] 23) from hOu.heap (heap_new' rfl _) (fun c => c))
  have hO := ((Off.refl (fun _ => False) w).alloc _).trans hOu (fun _ _ c => c)
  clear hOu
  have HOw := Lib.hid (Off.refl (fun _ => False) w)
  have HTw := Lib.hid hT
  clear hT
  obtain ⟨W1, eW1⟩ : ∃ W1, W1 = (((u0).alloc (.cells #[.int .i64 id, .int .u64 (wd p 0 : Int), .int .u64 (wd p 1 : Int), .int .u64 (wd p 2 : Int), .int .u64 (wd p 3 : Int), .int .u64 (i : Int), .int .u64 (wd r 0 : Int), .int .u64 (wd r 1 : Int), .int .u64 (wd r 2 : Int), .int .u64 (wd r 3 : Int), .int .u64 (wd s 0 : Int), .int .u64 (wd s 1 : Int), .int .u64 (wd s 2 : Int), .int .u64 (wd s 3 : Int)] 26)).alloc (.cells #[.int .u64 (wd p 0 : Int), .int .u64 (wd p 1 : Int), .int .u64 (wd p 2 : Int), .int .u64 (wd p 3 : Int)] 23)) := ⟨_, rfl⟩
  have oW1 : Off (fun _ => False) u0 W1 := by rw [eW1]; exact ((Off.refl _ u0).alloc _).alloc _
  have Fc : W1.heap[u0.heap.size]? = some (.cells #[.int .i64 id, .int .u64 (wd p 0 : Int), .int .u64 (wd p 1 : Int), .int .u64 (wd p 2 : Int), .int .u64 (wd p 3 : Int), .int .u64 (i : Int), .int .u64 (wd r 0 : Int), .int .u64 (wd r 1 : Int), .int .u64 (wd r 2 : Int), .int .u64 (wd r 3 : Int), .int .u64 (wd s 0 : Int), .int .u64 (wd s 1 : Int), .int .u64 (wd s 2 : Int), .int .u64 (wd s 3 : Int)] 26) := by rw [eW1]; exact heap_old' (heap_new' rfl _) _
  have Pc : W1.heap[u0.heap.size + 1]? = some (.cells #[.int .u64 (wd p 0 : Int), .int .u64 (wd p 1 : Int), .int .u64 (wd p 2 : Int), .int .u64 (wd p 3 : Int)] 23) := by rw [eW1]; exact heap_new' (by simp) _
  have hOx := hO.trans oW1 (fun _ _ c => c)
  have HOW1 := Lib.hid (HOw.out.trans hOx (fun _ _ c => c))
  have HTW1 := Lib.hid (HTw.out.off hOx)
  have HFcW1 := Lib.hid Fc
  have HPcW1 := Lib.hid Pc
  have hNk := oW1.heap HNb.out (fun c => c)
  have HNbW1 := Lib.hid hNk
  obtain ⟨a0, a1, a2, a3⟩ := cells4 hNk
  obtain ⟨p0, p1, p2, p3⟩ := cells4 Pc
  have l0 := heap_lt hNk
  have l1 := heap_lt Pc
  clear hNk HNb
  have HWW1 := Lib.hid eW1
  clear hO oW1 hOx eW1 HOw HTw  Fc Pc
  go_upto_region 2 with fail
  rw [← HWW1.out]
  go_wp2_with fail
  refine (FMo.out _).mono ?_
  rintro e u1 ⟨rfl, hO⟩
  clear a0 a1 a2 a3 p0 p1 p2 p3 l0 l1
  obtain ⟨W2, eW2⟩ : ∃ W2, W2 = ((u1).alloc (.cells #[.int .u64 (wd v 0 : Int), .int .u64 (wd v 1 : Int), .int .u64 (wd v 2 : Int), .int .u64 (wd v 3 : Int)] 23)) := ⟨_, rfl⟩
  have oW2 : Off (fun _ => False) u1 W2 := by rw [eW2]; exact (Off.refl _ u1).alloc _
  have Vc : W2.heap[u1.heap.size]? = some (.cells #[.int .u64 (wd v 0 : Int), .int .u64 (wd v 1 : Int), .int .u64 (wd v 2 : Int), .int .u64 (wd v 3 : Int)] 23) := by rw [eW2]; exact heap_new' rfl _
  have hOx := hO.trans oW2 (fun _ _ c => c)
  have hHFcW1k := hOx.heap HFcW1.out (fun c => c)
  have hHPcW1k := hOx.heap HPcW1.out (fun c => c)
  have HOW2 := Lib.hid (HOW1.out.trans hOx (fun _ _ c => c))
  have HTW2 := Lib.hid (HTW1.out.off hOx)
  have HFcW1W2 := Lib.hid hHFcW1k
  have HPcW1W2 := Lib.hid hHPcW1k
  have HVcW2 := Lib.hid Vc
  have HWW2 := Lib.hid eW2
  clear hO oW2 hOx eW2 HOW1 HTW1 hHFcW1k HFcW1 hHPcW1k HPcW1 Vc
  have HK2 : Hid (∀ W, Off (fun _ => False) W2 W → (W.cell? ⟨u0.heap.size, 0, none⟩ = some (.int .i64 id) ∧ W.cell? ⟨u0.heap.size, 1, none⟩ = some (.int .u64 (wd p 0 : Int)) ∧ W.cell? ⟨u0.heap.size, 2, none⟩ = some (.int .u64 (wd p 1 : Int)) ∧ W.cell? ⟨u0.heap.size, 3, none⟩ = some (.int .u64 (wd p 2 : Int)) ∧ W.cell? ⟨u0.heap.size, 4, none⟩ = some (.int .u64 (wd p 3 : Int)) ∧ W.cell? ⟨u0.heap.size, 5, none⟩ = some (.int .u64 (i : Int)) ∧ W.cell? ⟨u0.heap.size, 6, none⟩ = some (.int .u64 (wd r 0 : Int)) ∧ W.cell? ⟨u0.heap.size, 7, none⟩ = some (.int .u64 (wd r 1 : Int)) ∧ W.cell? ⟨u0.heap.size, 8, none⟩ = some (.int .u64 (wd r 2 : Int)) ∧ W.cell? ⟨u0.heap.size, 9, none⟩ = some (.int .u64 (wd r 3 : Int)) ∧ W.cell? ⟨u0.heap.size, 10, none⟩ = some (.int .u64 (wd s 0 : Int)) ∧ W.cell? ⟨u0.heap.size, 11, none⟩ = some (.int .u64 (wd s 1 : Int)) ∧ W.cell? ⟨u0.heap.size, 12, none⟩ = some (.int .u64 (wd s 2 : Int)) ∧ W.cell? ⟨u0.heap.size, 13, none⟩ = some (.int .u64 (wd s 3 : Int))) ∧ (W.cell? ⟨(u0.heap.size + 1), 0, none⟩ = some (.int .u64 (wd p 0 : Int)) ∧ W.cell? ⟨(u0.heap.size + 1), 1, none⟩ = some (.int .u64 (wd p 1 : Int)) ∧ W.cell? ⟨(u0.heap.size + 1), 2, none⟩ = some (.int .u64 (wd p 2 : Int)) ∧ W.cell? ⟨(u0.heap.size + 1), 3, none⟩ = some (.int .u64 (wd p 3 : Int))) ∧ (W.cell? ⟨u1.heap.size, 0, none⟩ = some (.int .u64 (wd v 0 : Int)) ∧ W.cell? ⟨u1.heap.size, 1, none⟩ = some (.int .u64 (wd v 1 : Int)) ∧ W.cell? ⟨u1.heap.size, 2, none⟩ = some (.int .u64 (wd v 2 : Int)) ∧ W.cell? ⟨u1.heap.size, 3, none⟩ = some (.int .u64 (wd v 3 : Int))) ∧ Off (fun _ => False) W2 W) := Lib.hid (fun W h => ⟨fv_cells (h.heap HFcW1W2.out (fun c => c)), cells4 (h.heap HPcW1W2.out (fun c => c)), cells4 (h.heap HVcW2.out (fun c => c)), h⟩)
  go_upto_region 3 with fail
  rw [← HWW2.out]
  refine wp_region_inv (fun a0 l a' w' => ∃ (u23 : Value) (u24 : Value) (u25 : Value) (u26 : Value) (u27 : Value) (u28 : Value) (u22 : Value) (u29 : Value) (u30 : Value) (u10 : Value) (u11 : Value) (v28 : Value), a' = (Act.put (Act.put (Act.put (Act.put (Act.put (Act.put (Act.put (Act.put (Act.put (Act.put (Act.put a0 (some 23) u23) (some 24) u24) (some 25) u25) (some 26) u26) (some 27) u27) (some 28) u28) (some 22) u22) (some 29) u29) (some 30) u30) (some 10) u10) (some 11) u11) ∧ Slot l 0 u23 (FV id p i r s) ∧ Slot l 1 u24 (V p) ∧ Slot l 2 u25 (V v) ∧ Slot l 3 u26 (V el) ∧ Slot l 4 u27 (.int .i64 i2) ∧ Slot l 5 u28 (.tuple #[v28, .int .i64 er]) ∧ Slot l 6 u22 (.tuple #[v28, .int .i64 er]) ∧ Slot l 7 u29 (v28) ∧ Slot l 8 u30 (.int .i64 er) ∧ Slot l 9 u10 (v28) ∧ Slot l 10 u11 (.int .i64 er) ∧ Mk l 5 v28 w' (bs) ∧ Dep l 5 6 ∧ Dep l 5 7 ∧ Dep l 5 9 ∧ Off (fun _ => False) W2 w') (by kernel_rfl) (by kernel_rfl) ?_ ⟨?_, ?_, ?_, ?_, ?_, ?_, ?_, ?_, ?_, ?_, ?_, trivial⟩ ?_
  · refine ⟨?z23, ?z24, ?z25, ?z26, ?z27, ?z28, ?z22, ?z29, ?z30, ?z10, ?z11, undef, ?fr, Slot.start _ _ _, Slot.start _ _ _, Slot.start _ _ _, Slot.start _ _ _, Slot.start _ _ _, Slot.start _ _ _, Slot.start _ _ _, Slot.start _ _ _, Slot.start _ _ _, Slot.start _ _ _, Slot.start _ _ _, Mk.start _ _ _ _, Dep.start _ _, Dep.start _ _, Dep.start _ _, (Off.refl _ W2).drew⟩
    case fr => first | (simp only [Act.put, List.setIfInBounds_toArray, List.set_cons_zero, List.set_cons_succ]; rfl) | simp only [Act.put, List.setIfInBounds_toArray, List.set_cons_zero, List.set_cons_succ]
  · intro l a wr hI hl hd K' hK
    obtain ⟨u23, u24, u25, u26, u27, u28, u22, u29, u30, u10, u11, v28, ha, s0, s1, s2, s3, s4, s5, s6, s7, s8, s9, s10, M5, V5_6, V5_7, V5_9, hO⟩ := hI
    simp only [Act.put, List.setIfInBounds_toArray, List.set_cons_zero, List.set_cons_succ] at ha
    subst ha
    have hc := HK2.out wr hO
    have p0 := hc.1.1
    have p1 := hc.1.2.1
    have p2 := hc.1.2.2.1
    have p3 := hc.1.2.2.2.1
    have p4 := hc.1.2.2.2.2.1
    have p5 := hc.1.2.2.2.2.2.1
    have p6 := hc.1.2.2.2.2.2.2.1
    have p7 := hc.1.2.2.2.2.2.2.2.1
    have p8 := hc.1.2.2.2.2.2.2.2.2.1
    have p9 := hc.1.2.2.2.2.2.2.2.2.2.1
    have p10 := hc.1.2.2.2.2.2.2.2.2.2.2.1
    have p11 := hc.1.2.2.2.2.2.2.2.2.2.2.2.1
    have p12 := hc.1.2.2.2.2.2.2.2.2.2.2.2.2.1
    have p13 := hc.1.2.2.2.2.2.2.2.2.2.2.2.2.2
    clear hc
    go_simp
    refine hK.out _ _ ⟨_, _, _, _, _, _, _, _, _, _, _, v28, ?_, Slot.new _ _ _, s1.keep rfl, s2.keep rfl, s3.keep rfl, s4.keep rfl, s5.keep rfl, s6.keep rfl, s7.keep rfl, s8.keep rfl, s9.keep rfl, s10.keep rfl, M5.keep (Off.refl _ wr) rfl, V5_6.keep rfl, V5_7.keep rfl, V5_9.keep rfl, hO⟩
    simp only [Act.put, List.setIfInBounds_toArray, List.set_cons_zero, List.set_cons_succ]
  · intro l a wr hI hl hd K' hK
    obtain ⟨u23, u24, u25, u26, u27, u28, u22, u29, u30, u10, u11, v28, ha, s0, s1, s2, s3, s4, s5, s6, s7, s8, s9, s10, M5, V5_6, V5_7, V5_9, hO⟩ := hI
    simp only [Act.put, List.setIfInBounds_toArray, List.set_cons_zero, List.set_cons_succ] at ha
    subst ha
    have hc := HK2.out wr hO
    have p0 := hc.2.1.1
    have p1 := hc.2.1.2.1
    have p2 := hc.2.1.2.2.1
    have p3 := hc.2.1.2.2.2
    clear hc
    go_simp
    refine hK.out _ _ ⟨_, _, _, _, _, _, _, _, _, _, _, v28, ?_, s0.keep rfl, Slot.new _ _ _, s2.keep rfl, s3.keep rfl, s4.keep rfl, s5.keep rfl, s6.keep rfl, s7.keep rfl, s8.keep rfl, s9.keep rfl, s10.keep rfl, M5.keep (Off.refl _ wr) rfl, V5_6.keep rfl, V5_7.keep rfl, V5_9.keep rfl, hO⟩
    simp only [Act.put, List.setIfInBounds_toArray, List.set_cons_zero, List.set_cons_succ]
  · intro l a wr hI hl hd K' hK
    obtain ⟨u23, u24, u25, u26, u27, u28, u22, u29, u30, u10, u11, v28, ha, s0, s1, s2, s3, s4, s5, s6, s7, s8, s9, s10, M5, V5_6, V5_7, V5_9, hO⟩ := hI
    simp only [Act.put, List.setIfInBounds_toArray, List.set_cons_zero, List.set_cons_succ] at ha
    subst ha
    have hc := HK2.out wr hO
    have p0 := hc.2.2.1.1
    have p1 := hc.2.2.1.2.1
    have p2 := hc.2.2.1.2.2.1
    have p3 := hc.2.2.1.2.2.2
    clear hc
    go_simp
    refine hK.out _ _ ⟨_, _, _, _, _, _, _, _, _, _, _, v28, ?_, s0.keep rfl, s1.keep rfl, Slot.new _ _ _, s3.keep rfl, s4.keep rfl, s5.keep rfl, s6.keep rfl, s7.keep rfl, s8.keep rfl, s9.keep rfl, s10.keep rfl, M5.keep (Off.refl _ wr) rfl, V5_6.keep rfl, V5_7.keep rfl, V5_9.keep rfl, hO⟩
    simp only [Act.put, List.setIfInBounds_toArray, List.set_cons_zero, List.set_cons_succ]
  · intro l a wr hI hl hd K' hK
    obtain ⟨u23, u24, u25, u26, u27, u28, u22, u29, u30, u10, u11, v28, ha, s0, s1, s2, s3, s4, s5, s6, s7, s8, s9, s10, M5, V5_6, V5_7, V5_9, hO⟩ := hI
    simp only [Act.put, List.setIfInBounds_toArray, List.set_cons_zero, List.set_cons_succ] at ha
    have q1 := s1 (hd 1 (by decide))
    have q2 := s2 (hd 2 (by decide))
    subst ha q1 q2
    go_simp
    refine (held_inv (FX.out wr) hO).mono ?_
    rintro e w1 ⟨rfl, hO1, hOW⟩
    go_wp2_with fail
    refine hK.out _ _ ⟨_, _, _, _, _, _, _, _, _, _, _, v28, ?_, s0.keep rfl, s1.keep rfl, s2.keep rfl, Slot.new _ _ _, s4.keep rfl, s5.keep rfl, s6.keep rfl, s7.keep rfl, s8.keep rfl, s9.keep rfl, s10.keep rfl, M5.keep hOW rfl, V5_6.keep rfl, V5_7.keep rfl, V5_9.keep rfl, hO1⟩
    simp only [Act.put, List.setIfInBounds_toArray, List.set_cons_zero, List.set_cons_succ]
  · intro l a wr hI hl hd K' hK
    obtain ⟨u23, u24, u25, u26, u27, u28, u22, u29, u30, u10, u11, v28, ha, s0, s1, s2, s3, s4, s5, s6, s7, s8, s9, s10, M5, V5_6, V5_7, V5_9, hO⟩ := hI
    simp only [Act.put, List.setIfInBounds_toArray, List.set_cons_zero, List.set_cons_succ] at ha
    subst ha
    go_simp
    refine hK.out _ _ ⟨_, _, _, _, _, _, _, _, _, _, _, v28, ?_, s0.keep rfl, s1.keep rfl, s2.keep rfl, s3.keep rfl, Slot.new _ _ _, s5.keep rfl, s6.keep rfl, s7.keep rfl, s8.keep rfl, s9.keep rfl, s10.keep rfl, M5.keep (Off.refl _ wr) rfl, V5_6.keep rfl, V5_7.keep rfl, V5_9.keep rfl, hO⟩
    simp only [Act.put, List.setIfInBounds_toArray, List.set_cons_zero, List.set_cons_succ]
  · intro l a wr hI hl hd K' hK
    obtain ⟨u23, u24, u25, u26, u27, u28, u22, u29, u30, u10, u11, v28, ha, s0, s1, s2, s3, s4, s5, s6, s7, s8, s9, s10, M5, V5_6, V5_7, V5_9, hO⟩ := hI
    simp only [Act.put, List.setIfInBounds_toArray, List.set_cons_zero, List.set_cons_succ] at ha
    have q0 := s0 (hd 0 (by decide))
    have q3 := s3 (hd 3 (by decide))
    have q4 := s4 (hd 4 (by decide))
    subst ha q0 q3 q4
    go_simp
    refine (FU.out wr).mono ?_
    rintro e w1 ⟨uv, rfl, hm, hOW⟩
    have hO1 := hO.trans hOW (fun _ _ c => c.elim)
    go_wp2_with fail
    refine hK.out _ _ ⟨_, _, _, _, _, _, _, _, _, _, _, uv, ?_, s0.keep rfl, s1.keep rfl, s2.keep rfl, s3.keep rfl, s4.keep rfl, Slot.new _ _ _, Slot.void (u := u22) (V5_6 hl) rfl, Slot.void (u := u29) (V5_7 hl) rfl, s8.keep rfl, Slot.void (u := u10) (V5_9 hl) rfl, s10.keep rfl, Mk.new hm, V5_6.keep rfl, V5_7.keep rfl, V5_9.keep rfl, hO1⟩
    simp only [Act.put, List.setIfInBounds_toArray, List.set_cons_zero, List.set_cons_succ]
  · intro l a wr hI hl hd K' hK
    obtain ⟨u23, u24, u25, u26, u27, u28, u22, u29, u30, u10, u11, v28, ha, s0, s1, s2, s3, s4, s5, s6, s7, s8, s9, s10, M5, V5_6, V5_7, V5_9, hO⟩ := hI
    simp only [Act.put, List.setIfInBounds_toArray, List.set_cons_zero, List.set_cons_succ] at ha
    have q5 := s5 (hd 5 (by decide))
    subst ha q5
    go_simp
    refine hK.out _ _ ⟨_, _, _, _, _, _, _, _, _, _, _, v28, ?_, s0.keep rfl, s1.keep rfl, s2.keep rfl, s3.keep rfl, s4.keep rfl, s5.keep rfl, Slot.new _ _ _, s7.keep rfl, s8.keep rfl, s9.keep rfl, s10.keep rfl, M5.keep (Off.refl _ wr) rfl, Dep.at (hd 5 (by decide)), V5_7.keep rfl, V5_9.keep rfl, hO⟩
    simp only [Act.put, List.setIfInBounds_toArray, List.set_cons_zero, List.set_cons_succ]
  · intro l a wr hI hl hd K' hK
    obtain ⟨u23, u24, u25, u26, u27, u28, u22, u29, u30, u10, u11, v28, ha, s0, s1, s2, s3, s4, s5, s6, s7, s8, s9, s10, M5, V5_6, V5_7, V5_9, hO⟩ := hI
    simp only [Act.put, List.setIfInBounds_toArray, List.set_cons_zero, List.set_cons_succ] at ha
    have q6 := s6 (hd 6 (by decide))
    subst ha q6
    go_simp
    refine hK.out _ _ ⟨_, _, _, _, _, _, _, _, _, _, _, v28, ?_, s0.keep rfl, s1.keep rfl, s2.keep rfl, s3.keep rfl, s4.keep rfl, s5.keep rfl, s6.keep rfl, Slot.new _ _ _, s8.keep rfl, s9.keep rfl, s10.keep rfl, M5.keep (Off.refl _ wr) rfl, V5_6.keep rfl, Dep.at (V5_6.via (hd 6 (by decide))), V5_9.keep rfl, hO⟩
    simp only [Act.put, List.setIfInBounds_toArray, List.set_cons_zero, List.set_cons_succ]
  · intro l a wr hI hl hd K' hK
    obtain ⟨u23, u24, u25, u26, u27, u28, u22, u29, u30, u10, u11, v28, ha, s0, s1, s2, s3, s4, s5, s6, s7, s8, s9, s10, M5, V5_6, V5_7, V5_9, hO⟩ := hI
    simp only [Act.put, List.setIfInBounds_toArray, List.set_cons_zero, List.set_cons_succ] at ha
    have q6 := s6 (hd 6 (by decide))
    subst ha q6
    go_simp
    refine hK.out _ _ ⟨_, _, _, _, _, _, _, _, _, _, _, v28, ?_, s0.keep rfl, s1.keep rfl, s2.keep rfl, s3.keep rfl, s4.keep rfl, s5.keep rfl, s6.keep rfl, s7.keep rfl, Slot.new _ _ _, s9.keep rfl, s10.keep rfl, M5.keep (Off.refl _ wr) rfl, V5_6.keep rfl, V5_7.keep rfl, V5_9.keep rfl, hO⟩
    simp only [Act.put, List.setIfInBounds_toArray, List.set_cons_zero, List.set_cons_succ]
  · intro l a wr hI hl hd K' hK
    obtain ⟨u23, u24, u25, u26, u27, u28, u22, u29, u30, u10, u11, v28, ha, s0, s1, s2, s3, s4, s5, s6, s7, s8, s9, s10, M5, V5_6, V5_7, V5_9, hO⟩ := hI
    simp only [Act.put, List.setIfInBounds_toArray, List.set_cons_zero, List.set_cons_succ] at ha
    have q7 := (s7 (hd 7 (by decide))).symm
    subst ha q7
    go_simp
    refine hK.out _ _ ⟨_, _, _, _, _, _, _, _, _, _, _, v28, ?_, s0.keep rfl, s1.keep rfl, s2.keep rfl, s3.keep rfl, s4.keep rfl, s5.keep rfl, s6.keep rfl, s7.keep rfl, s8.keep rfl, Slot.new _ _ _, s10.keep rfl, M5.keep (Off.refl _ wr) rfl, V5_6.keep rfl, V5_7.keep rfl, Dep.at (V5_7.via (hd 7 (by decide))), hO⟩
    simp only [Act.put, List.setIfInBounds_toArray, List.set_cons_zero, List.set_cons_succ]
  · intro l a wr hI hl hd K' hK
    obtain ⟨u23, u24, u25, u26, u27, u28, u22, u29, u30, u10, u11, v28, ha, s0, s1, s2, s3, s4, s5, s6, s7, s8, s9, s10, M5, V5_6, V5_7, V5_9, hO⟩ := hI
    simp only [Act.put, List.setIfInBounds_toArray, List.set_cons_zero, List.set_cons_succ] at ha
    have q8 := s8 (hd 8 (by decide))
    subst ha q8
    go_simp
    refine hK.out _ _ ⟨_, _, _, _, _, _, _, _, _, _, _, v28, ?_, s0.keep rfl, s1.keep rfl, s2.keep rfl, s3.keep rfl, s4.keep rfl, s5.keep rfl, s6.keep rfl, s7.keep rfl, s8.keep rfl, s9.keep rfl, Slot.new _ _ _, M5.keep (Off.refl _ wr) rfl, V5_6.keep rfl, V5_7.keep rfl, V5_9.keep rfl, hO⟩
    simp only [Act.put, List.setIfInBounds_toArray, List.set_cons_zero, List.set_cons_succ]
  · intro l a wc hI hd
    obtain ⟨u23, u24, u25, u26, u27, u28, u22, u29, u30, u10, u11, v28, ha, s0, s1, s2, s3, s4, s5, s6, s7, s8, s9, s10, M5, V5_6, V5_7, V5_9, hO⟩ := hI
    simp only [Act.put, List.setIfInBounds_toArray, List.set_cons_zero, List.set_cons_succ] at ha
    have q0 := s0 (hd 0 (by decide))
    have q1 := s1 (hd 1 (by decide))
    have q2 := s2 (hd 2 (by decide))
    have q3 := s3 (hd 3 (by decide))
    have q4 := s4 (hd 4 (by decide))
    have q5 := s5 (hd 5 (by decide))
    have q6 := s6 (hd 6 (by decide))
    have q7 := (s7 (hd 7 (by decide))).symm
    have q8 := s8 (hd 8 (by decide))
    have q9 := (s9 (hd 9 (by decide))).symm
    have q10 := s10 (hd 10 (by decide))
    have m28 := M5 (hd 5 (by decide))
    subst ha q0 q1 q2 q3 q4 q5 q6 q7 q8 q9 q10
    clear hd s0 s1 s2 s3 s4 s5 s6 s7 s8 s9 s10 M5 V5_6 V5_7 V5_9
    obtain ⟨W3, hW3⟩ : ∃ W3, W3 = wc := ⟨_, rfl⟩
    subst hW3
    have HS3 := Lib.hid m28
    clear m28
    have HVcW2W3 := Lib.hid (hO.heap HVcW2.out (fun c => c))
    have HOW3 := Lib.hid (HOW2.out.trans hO (fun _ _ c => c))
    have HTW3 := Lib.hid (HTW2.out.off hO)
    obtain ⟨v0, v1, v2, v3⟩ := cells4 HVcW2W3.out
    have lf := heap_lt HVcW2W3.out
    clear hO HK2 HWW2 HFcW1W2 HPcW1W2 HVcW2 HOW2 HTW2 HNbW1
    go_wp2_with fail
    refine (FR.out _).mono ?_
    rintro e u3 ⟨sv, rfl, hsv, hO⟩
    clear v0 v1 v2 v3 lf
    have HS3u := Lib.hid (HS3.out.off hO)
    have HSv := Lib.hid hsv
    have HO4 := Lib.hid (HOW3.out.trans hO (fun _ _ c => c))
    have HT4 := Lib.hid (HTW3.out.off hO)
    clear hsv hO HS3 HOW3 HTW3 HVcW2W3
    go_wp2_with fail
    refine (FAL.out _ HT4.out).mono ?_
    rintro e u4 ⟨rfl, hO⟩
    have HQ := Lib.hid (bequal_sv (HS3u.out.off hO) (HSv.out.off hO))
    have HO5 := Lib.hid (HO4.out.trans hO (fun _ _ c => c))
    clear hO HO4 HT4 HS3u HSv
    go_wp2_with fail
    refine HQ.out.mono ?_
    rintro e u5 ⟨rfl, hO⟩
    have HOf := Lib.hid (HO5.out.trans hO (fun _ _ c => c))
    clear hO HO5 HQ
    go_wp2
    go_ret
    exact ⟨rfl, HOf.out⟩

theorem door_met (os : Os) (args : Array Value) : laidMetH Tryd.prog [("sharecore/field.fields", Rows.laid_sharecore_field_fields)] ((World.doorLaid Tryd.prog 400 os).forCall (fun _ _ => 0) ⟨#[], args, []⟩).memory :=
  laidMetH_of_parts3 (fuel := 8) (laidMet_of_run' 8 (by kernel_rfl) (by kernel_rfl)) (by kernel_rfl) (by kernel_rfl)

set_option maxRecDepth 100000 in
theorem lifted (os : Os) (started : os.Started) (H : Type) (enc : TypeId × Value → H) :
    ReturnsInHanded {} Tryd.checked os 7 .any (fun w args => (Rows.bytecodeUnpacksSpec.pre enc Tryd.prog Tryd.f7 [] false w args ∧ laidMetH Tryd.prog [("sharecore/field.fields", Rows.laid_sharecore_field_fields)] w) ∧ sizedMet enc Tryd.prog Tryd.f7 (OpenSpec.ofChange Rows.bytecodeUnpacksSpec) false w args)
      (Rows.bytecodeUnpacksSpec.post enc Tryd.prog Tryd.f7 false true false false) := by
  refine returnsInHanded_of_change_and (C := Tryd.checked) (X := fun w _ => laidMetH Tryd.prog [("sharecore/field.fields", Rows.laid_sharecore_field_fields)] w) (fun _ _ _ hh h => h.of_heap hh) own started (by kernel_rfl) Tryd.func7
    (ChangeSpec.witness_shaped (enc := enc) (C := Tryd.checked) (os := os) (X := fun w _ => laidMetH Tryd.prog [("sharecore/field.fields", Rows.laid_sharecore_field_fields)] w) false (World.doorLaid Tryd.prog 400 os) #[.bool false, .agg #[.int .u64 0, .int .u64 0, .int .u64 0, .int .u64 0], .int .i64 0] 8 rfl (World.shaped_of_RefB (by kernel_rfl) (by kernel_rfl)) (by kernel_rfl) (by kernel_rfl) (by kernel_rfl) (door_met os _)) ?_
  intro W base args ds gs before hval0 hW _ _ hL _
  have hval : ∀ (j : Nat) t v, Tryd.f7.params[j]? = some t → args[j]? = some v → Value.okWide Tryd.prog W .any base t v := hval0
  have hW' := hW
  obtain ⟨p, q, hA0, hV, rfl, hfz, hnd⟩ := hW
  have hA : DataW.TrodAll enc Tryd.prog W 0 (fun _ => true) true Tryd.f7.params.toList args.toList ds p := hA0
  rw [Tryd.params7] at hA hval
  obtain ⟨v0, vs0, d0, ds0, p0, q0, hargs, rfl, rfl, h0, r0⟩ := trodAll_cons hA
  obtain ⟨v1, vs1, d1, ds1, p1, q1, rfl, rfl, rfl, h1, r1⟩ := trodAll_cons r0
  obtain ⟨v2, vs2, d2, ds2, p2, q2, rfl, rfl, rfl, h2, r2⟩ := trodAll_cons r1
  obtain ⟨rfl, rfl, rfl⟩ := trodAll_nil r2
  obtain rfl : args = #[v0, v1, v2] := by cases args; simp_all
  obtain ⟨rfl, rfl⟩ := trodVars_none hV
  obtain ⟨i0, rfl, rfl, rfl⟩ := open_bool Tryd.underlying4 (hval 0 4 v0 rfl rfl) h0
  have w0 := trivial
  have k1 := h1
  have lt1 : ∀ x ∈ p1, x.block < W.heap.size := by obtain ⟨m, hm⟩ := k1; exact DataW.trod_lt m _ _ _ hm
  obtain ⟨n1, w1, rfl⟩ := open_vec (hval 1 23 v1 rfl rfl) h1
  obtain ⟨i2, rfl, rfl, rfl, w2⟩ := open_int Tryd.underlying3 (hval 2 3 v2 rfl rfl) h2
  have hT := tab_of_laid hL
  clear hA0 hval0
  refine (walk i0 n1 i2 W w0 w1 w2 hT).mono fun e W' ⟨he, hoff⟩ => ?_
  have bel : Below W.heap.size W W' := hoff.below (Nat.le_refl _) (fun _ _ c => c)
  subst he
  exact ⟨_, rfl, _, _, _, [], _, [], hW', trodAll_mk1 (shut_bool Tryd.underlying4 _), (trodAll_cons_mk (shut_bool Tryd.underlying4 _) (trodAll_cons_mk (Below.trod laidOut (by kernel_rfl) (of_decide_eq_true (by kernel_rfl)) k1 bel lt1) (trodAll_cons_mk (shut_int Tryd.underlying3 w2) trodAll_mk0))), rfl, bel.frame _, fun h => by cases h⟩

theorem over : Rows.bytecodeUnpacksRow.holds Tryd.pinned (OpenSpec.ofChange Rows.bytecodeUnpacksSpec) :=
  OpenClaim.holds_of_wide 7 Tryd.f7 rfl rfl rfl rfl rfl rfl rfl ⟨rfl, rfl, rfl, rfl, rfl⟩ rfl rfl rfl rfl rfl (by kernel_rfl) Tryd.func7 (by kernel_rfl)
    (of_decide_eq_true (by kernel_rfl)) (by unfold Func.isWrapper; first | (rw [if_pos (by decide +kernel)]; kernel_rfl) | (rw [if_neg (by decide +kernel)]; exact ⟨rfl, rfl⟩))
    (fun os started H enc _ => lifted os started H enc)

theorem proved : Rows.BytecodeUnpacksCardSaid :=
  Claim7.holds_tied_plain_at .later [] [.data] true (true, "0501a0b72a99cfb9ca1ff1f7e0f7f908ab47c28911e2dcee8a79923f14811295") false
    over (fun _ h => by cases h) (by kernel_rfl) (fun _ h => by cases h) bytecodeUnpacks_row_tie rfl ⟨rfl, rfl⟩ (by kernel_rfl) rfl
    (fun f fn hf hfn => by
      obtain rfl : f = 7 := Option.some.inj ((show Tryd.prog.funcNamed "sharecore/sharecorelaw07.BytecodeUnpacks" = some 7 by kernel_rfl).symm.trans hf) |>.symm
      obtain rfl : fn = Tryd.f7 := (Option.some.inj (Tryd.func7.symm.trans hfn)).symm
      exact ⟨by kernel_rfl, fun j t ht => by
        rw [Tryd.params7] at ht
        have hm : t ∈ [4, 23, 3] := by simpa using Array.mem_of_getElem? ht
        have hall : ([4, 23, 3].all fun u => !Tryd.prog.wantsStandIn u) = true := by kernel_rfl
        exact (show Tryd.prog.wantsStandIn t = false by simpa using List.all_eq_true.1 hall t hm)⟩)
    (by kernel_rfl)
#print axioms proved
end Go.Proofs.YtclknpkjnkgejaaDoor.bytecodeUnpacks
