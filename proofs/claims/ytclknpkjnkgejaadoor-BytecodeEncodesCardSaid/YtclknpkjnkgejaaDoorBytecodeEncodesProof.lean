/-
  For every field and number, the examples of the chapter hold, and Encode returns the bytes of the value, which Decode inverts: the statement of P7.1, P7.2 and P7.6. No condition.
-/
import Derived.Test.YtclknpkjnkgejaaDoorRows
import Derived.Test.YtclknpkjnkgejaaDoorTie
import Derived.Test.YtclknpkjnkgejaaDoorCards
import Derived.LaidMore
import Derived.LaidHandle
import Derived.SevenTiedAt
import Derived.Stop.Joined
import Derived.JoinedOf
import Derived.Test.YtclknpkjnkgejaaDoorLimbOpen
import Derived.Test.YtclknpkjnkgejaaDoorFieldTab
import Derived.Test.YtclknpkjnkgejaaDoorFieldHeld
import Derived.Test.YtclknpkjnkgejaaDoorBytAlive
import Derived.Test.YtclknpkjnkgejaaDoorBytRefs
import Derived.Test.YtclknpkjnkgejaaDoorInvMem
import Derived.Test.YtclknpkjnkgejaaDoorInvSel
import Derived.WalkKit
import Derived.ProofKit
import Derived.OpenShut
import Derived.ShutString
import Derived.ChangeOld
import Derived.Below
namespace Go.Proofs.YtclknpkjnkgejaaDoor.bytecodeEncodes
open Go.ChangeShapes Go.WideShapes Go.ChangeAt Go.RowKit
set_option linter.unusedVariables false

theorem own : ownKnob Tryd.prog.godebug = none := by kernel_rfl
theorem laidOut : laidOutB Tryd.prog = true := by kernel_rfl

set_option maxRecDepth 100000 in
set_option maxHeartbeats 4000000 in
theorem walk (i0 : Bool) (n1 : Nat) (w : World) (w0 : True) (w1 : n1 < R256) (hT : TabAt w) :
    Calls Tryd.prog 3 #[.bool i0, V n1] w fun e w' => e = .returned (.bool true) ∧ Off (fun _ => False) w w' := by
  obtain ⟨id, p, i, r, s, hF, hid⟩ := fld_of i0
  have hp := hF.mp.lt
  have h1 := hF.mp.one
  have FG := Lib.hid (fun W hT => get7_any i0 hF hid W hT)
  have FAL : Hid (∀ W, TabAt W → Calls Tryd.prog 14 #[] W fun e w' => e = .returned (.bool true) ∧ Off (fun _ => False) W w') := Lib.hid (fun W hT => alive7_any W hT)
  have hMo := fun W => mod_mod p n1 hp h1 w1 W
  obtain ⟨v, hv⟩ : ∃ v, v = n1 % p := ⟨_, rfl⟩
  have hvp : v < p := by rw [hv]; exact Nat.mod_lt _ (by omega)
  rw [← hv] at hMo
  have FMo := Lib.hid hMo
  have hX := fun W => form7_any p v hp h1 (by omega) W
  have hup : fm p v < p := fm_lt (by omega) _
  have hmv : mm p (fm p v) 1 = v := by rw [mm_one hF.mp, Nat.mod_eq_of_lt hvp]
  clear hMo hv
  have hE := fun W => sv_of_enc (encode_any hF (fm p v) hup W) (bytesN_length _ _)
  rw [hmv] at hE
  obtain ⟨bs, hbs⟩ : ∃ bs, bs = bytesN v 32 := ⟨_, rfl⟩
  have hbl : bs.length = 32 := by rw [hbs]; exact bytesN_length _ _
  have hsm : Small bs := by rw [hbs]; exact bytesN_small _ _
  have hnb : numB bs = v := by rw [hbs]; exact numB_bytesN32 (by omega)
  have hR : ∀ W, Calls Tryd.prog 16 #[V v] W fun e w' => ∃ u, e = .returned u ∧ SvAt w' u bs ∧ Off (fun _ => False) W w' := fun W => (refenc_any v W).mono fun e w' ⟨sv, he, hr, ho⟩ => by
    obtain ⟨g, cap, hf, _, _, hc⟩ := hr.form (by omega)
    subst hf
    exact ⟨_, he, ⟨_, _, _, rfl, hbl.symm, hc, by rw [hbs]; exact hr.at⟩, ho⟩
  have hD : ∀ (W : World) (u : Value), SvAt W u bs → Calls Tryd.prog 13 #[FV id p i r s, u] W fun e w' => e = .returned (.tuple #[V (fm p v), .int .i64 0]) ∧ Off (fun _ => False) W w' := fun W u h => by
    obtain ⟨a, n, cap, rfl, hn, _, hb⟩ := h
    have hd := decode_any hF a n cap bs _ W hb hn hsm
    rw [show decV p bs = (fm p v, 0) by unfold decV; rw [if_pos (by omega), hnb, if_pos hvp]] at hd
    exact hd
  rw [← hbs] at hE
  obtain ⟨el, hx⟩ : ∃ el, el = fm p v := ⟨_, rfl⟩
  rw [← hx] at hE hX hD
  have FE := Lib.hid hE
  have FR := Lib.hid hR
  have FD := Lib.hid hD
  have FX := Lib.hid hX
  clear hE hR hD hX hbs hbl hsm hnb hvp hup hmv hx hF hid hp h1 w1
  have e1 := equalIn_elem_same
  have e2 := equalIn_same
  go_enter Tryd.func3, Tryd.ntmps3
  go_wp2_with fail
  refine (FG.out _ (hT.off ((Off.refl _ w).alloc _))).mono ?_
  rintro e u0 ⟨rfl, hOu⟩
  have HNb := Lib.hid (show u0.heap[w.heap.size]? = some (.cells #[.int .u64 (wd n1 0 : Int), .int .u64 (wd n1 1 : Int), .int .u64 (wd n1 2 : Int), .int .u64 (wd n1 3 : Int)] 23) from hOu.heap (heap_new' rfl _) (fun c => c))
  have hO := ((Off.refl (fun _ => False) w).alloc _).trans hOu (fun _ _ c => c)
  clear hOu
  have HOw := Lib.hid (Off.refl (fun _ => False) w)
  have HTw := Lib.hid hT
  clear hT
  obtain ⟨W1, eW1⟩ : ∃ W1, W1 = (((u0).alloc (.cells #[.int .i64 id, .int .u64 (wd p 0 : Int), .int .u64 (wd p 1 : Int), .int .u64 (wd p 2 : Int), .int .u64 (wd p 3 : Int), .int .u64 (i : Int), .int .u64 (wd r 0 : Int), .int .u64 (wd r 1 : Int), .int .u64 (wd r 2 : Int), .int .u64 (wd r 3 : Int), .int .u64 (wd s 0 : Int), .int .u64 (wd s 1 : Int), .int .u64 (wd s 2 : Int), .int .u64 (wd s 3 : Int)] 26)).alloc (.cells #[.int .u64 (wd p 0 : Int), .int .u64 (wd p 1 : Int), .int .u64 (wd p 2 : Int), .int .u64 (wd p 3 : Int)] 23)) := ⟨_, rfl⟩
  have oW1 : Off (fun _ => False) u0 W1 := by rw [eW1]; exact ((Off.refl _ u0).alloc _).alloc _
  have Fc : W1.heap[u0.heap.size]? = some (.cells #[.int .i64 id, .int .u64 (wd p 0 : Int), .int .u64 (wd p 1 : Int), .int .u64 (wd p 2 : Int), .int .u64 (wd p 3 : Int), .int .u64 (i : Int), .int .u64 (wd r 0 : Int), .int .u64 (wd r 1 : Int), .int .u64 (wd r 2 : Int), .int .u64 (wd r 3 : Int), .int .u64 (wd s 0 : Int), .int .u64 (wd s 1 : Int), .int .u64 (wd s 2 : Int), .int .u64 (wd s 3 : Int)] 26) := by rw [eW1]; exact heap_old' (heap_new' rfl _) _
  have Pc : W1.heap[u0.heap.size + 1]? = some (.cells #[.int .u64 (wd p 0 : Int), .int .u64 (wd p 1 : Int), .int .u64 (wd p 2 : Int), .int .u64 (wd p 3 : Int)] 23) := by rw [eW1]; exact heap_new' (by simp) _
  have hOx := hO.trans oW1 (fun _ _ c => c)
  have HOW1 := Lib.hid (HOw.out.trans hOx (fun _ _ c => c))
  have HTW1 := Lib.hid (HTw.out.off hOx)
  have HFcW1 := Lib.hid Fc
  have HPcW1 := Lib.hid Pc
  have hNk := oW1.heap HNb.out (fun c => c)
  have HNbW1 := Lib.hid hNk
  obtain ⟨a0, a1, a2, a3⟩ := cells4 hNk
  obtain ⟨p0, p1, p2, p3⟩ := cells4 Pc
  have l0 := heap_lt hNk
  have l1 := heap_lt Pc
  clear hNk HNb
  have HWW1 := Lib.hid eW1
  clear hO oW1 hOx eW1 HOw HTw  Fc Pc
  go_upto_region 2 with fail
  rw [← HWW1.out]
  go_wp2_with fail
  refine (FMo.out _).mono ?_
  rintro e u1 ⟨rfl, hO⟩
  clear a0 a1 a2 a3 p0 p1 p2 p3 l0 l1
  obtain ⟨W2, eW2⟩ : ∃ W2, W2 = ((u1).alloc (.cells #[.int .u64 (wd v 0 : Int), .int .u64 (wd v 1 : Int), .int .u64 (wd v 2 : Int), .int .u64 (wd v 3 : Int)] 23)) := ⟨_, rfl⟩
  have oW2 : Off (fun _ => False) u1 W2 := by rw [eW2]; exact (Off.refl _ u1).alloc _
  have Vc : W2.heap[u1.heap.size]? = some (.cells #[.int .u64 (wd v 0 : Int), .int .u64 (wd v 1 : Int), .int .u64 (wd v 2 : Int), .int .u64 (wd v 3 : Int)] 23) := by rw [eW2]; exact heap_new' rfl _
  have hOx := hO.trans oW2 (fun _ _ c => c)
  have hHFcW1k := hOx.heap HFcW1.out (fun c => c)
  have hHPcW1k := hOx.heap HPcW1.out (fun c => c)
  have HOW2 := Lib.hid (HOW1.out.trans hOx (fun _ _ c => c))
  have HTW2 := Lib.hid (HTW1.out.off hOx)
  have HFcW1W2 := Lib.hid hHFcW1k
  have HPcW1W2 := Lib.hid hHPcW1k
  have HVcW2 := Lib.hid Vc
  have HWW2 := Lib.hid eW2
  clear hO oW2 hOx eW2 HOW1 HTW1 hHFcW1k HFcW1 hHPcW1k HPcW1 Vc
  have HK2 : Hid (∀ W, Off (fun _ => False) W2 W → (W.cell? ⟨u0.heap.size, 0, none⟩ = some (.int .i64 id) ∧ W.cell? ⟨u0.heap.size, 1, none⟩ = some (.int .u64 (wd p 0 : Int)) ∧ W.cell? ⟨u0.heap.size, 2, none⟩ = some (.int .u64 (wd p 1 : Int)) ∧ W.cell? ⟨u0.heap.size, 3, none⟩ = some (.int .u64 (wd p 2 : Int)) ∧ W.cell? ⟨u0.heap.size, 4, none⟩ = some (.int .u64 (wd p 3 : Int)) ∧ W.cell? ⟨u0.heap.size, 5, none⟩ = some (.int .u64 (i : Int)) ∧ W.cell? ⟨u0.heap.size, 6, none⟩ = some (.int .u64 (wd r 0 : Int)) ∧ W.cell? ⟨u0.heap.size, 7, none⟩ = some (.int .u64 (wd r 1 : Int)) ∧ W.cell? ⟨u0.heap.size, 8, none⟩ = some (.int .u64 (wd r 2 : Int)) ∧ W.cell? ⟨u0.heap.size, 9, none⟩ = some (.int .u64 (wd r 3 : Int)) ∧ W.cell? ⟨u0.heap.size, 10, none⟩ = some (.int .u64 (wd s 0 : Int)) ∧ W.cell? ⟨u0.heap.size, 11, none⟩ = some (.int .u64 (wd s 1 : Int)) ∧ W.cell? ⟨u0.heap.size, 12, none⟩ = some (.int .u64 (wd s 2 : Int)) ∧ W.cell? ⟨u0.heap.size, 13, none⟩ = some (.int .u64 (wd s 3 : Int))) ∧ (W.cell? ⟨(u0.heap.size + 1), 0, none⟩ = some (.int .u64 (wd p 0 : Int)) ∧ W.cell? ⟨(u0.heap.size + 1), 1, none⟩ = some (.int .u64 (wd p 1 : Int)) ∧ W.cell? ⟨(u0.heap.size + 1), 2, none⟩ = some (.int .u64 (wd p 2 : Int)) ∧ W.cell? ⟨(u0.heap.size + 1), 3, none⟩ = some (.int .u64 (wd p 3 : Int))) ∧ (W.cell? ⟨u1.heap.size, 0, none⟩ = some (.int .u64 (wd v 0 : Int)) ∧ W.cell? ⟨u1.heap.size, 1, none⟩ = some (.int .u64 (wd v 1 : Int)) ∧ W.cell? ⟨u1.heap.size, 2, none⟩ = some (.int .u64 (wd v 2 : Int)) ∧ W.cell? ⟨u1.heap.size, 3, none⟩ = some (.int .u64 (wd v 3 : Int))) ∧ Off (fun _ => False) W2 W) := Lib.hid (fun W h => ⟨fv_cells (h.heap HFcW1W2.out (fun c => c)), cells4 (h.heap HPcW1W2.out (fun c => c)), cells4 (h.heap HVcW2.out (fun c => c)), h⟩)
  go_upto_region 3 with fail
  rw [← HWW2.out]
  refine wp_region_inv (fun a0 l a' w' => ∃ (u19 : Value) (u20 : Value) (u21 : Value) (u22 : Value) (u23 : Value) (u8 : Value), a' = (Act.put (Act.put (Act.put (Act.put (Act.put (Act.put a0 (some 19) u19) (some 20) u20) (some 21) u21) (some 22) u22) (some 23) u23) (some 8) u8) ∧ Slot l 0 u19 (FV id p i r s) ∧ Slot l 1 u20 (V p) ∧ Slot l 2 u21 (V v) ∧ Slot l 3 u22 (V el) ∧ Mk l 4 u23 w' (bs) ∧ Mk l 5 u8 w' (bs) ∧ Off (fun _ => False) W2 w') (by kernel_rfl) (by kernel_rfl) ?_ ⟨?_, ?_, ?_, ?_, ?_, ?_, trivial⟩ ?_
  · refine ⟨?z19, ?z20, ?z21, ?z22, ?z23, ?z8, ?fr, Slot.start _ _ _, Slot.start _ _ _, Slot.start _ _ _, Slot.start _ _ _, Mk.start _ _ _ _, Mk.start _ _ _ _, (Off.refl _ W2).drew⟩
    case fr => first | (simp only [Act.put, List.setIfInBounds_toArray, List.set_cons_zero, List.set_cons_succ]; rfl) | simp only [Act.put, List.setIfInBounds_toArray, List.set_cons_zero, List.set_cons_succ]
  · intro l a wr hI hl hd K' hK
    obtain ⟨u19, u20, u21, u22, u23, u8, ha, s0, s1, s2, s3, M4, M5, hO⟩ := hI
    simp only [Act.put, List.setIfInBounds_toArray, List.set_cons_zero, List.set_cons_succ] at ha
    subst ha
    have hc := HK2.out wr hO
    have p0 := hc.1.1
    have p1 := hc.1.2.1
    have p2 := hc.1.2.2.1
    have p3 := hc.1.2.2.2.1
    have p4 := hc.1.2.2.2.2.1
    have p5 := hc.1.2.2.2.2.2.1
    have p6 := hc.1.2.2.2.2.2.2.1
    have p7 := hc.1.2.2.2.2.2.2.2.1
    have p8 := hc.1.2.2.2.2.2.2.2.2.1
    have p9 := hc.1.2.2.2.2.2.2.2.2.2.1
    have p10 := hc.1.2.2.2.2.2.2.2.2.2.2.1
    have p11 := hc.1.2.2.2.2.2.2.2.2.2.2.2.1
    have p12 := hc.1.2.2.2.2.2.2.2.2.2.2.2.2.1
    have p13 := hc.1.2.2.2.2.2.2.2.2.2.2.2.2.2
    clear hc
    go_simp
    refine hK.out _ _ ⟨_, _, _, _, _, _, ?_, Slot.new _ _ _, s1.keep rfl, s2.keep rfl, s3.keep rfl, M4.keep (Off.refl _ wr) rfl, M5.keep (Off.refl _ wr) rfl, hO⟩
    simp only [Act.put, List.setIfInBounds_toArray, List.set_cons_zero, List.set_cons_succ]
  · intro l a wr hI hl hd K' hK
    obtain ⟨u19, u20, u21, u22, u23, u8, ha, s0, s1, s2, s3, M4, M5, hO⟩ := hI
    simp only [Act.put, List.setIfInBounds_toArray, List.set_cons_zero, List.set_cons_succ] at ha
    subst ha
    have hc := HK2.out wr hO
    have p0 := hc.2.1.1
    have p1 := hc.2.1.2.1
    have p2 := hc.2.1.2.2.1
    have p3 := hc.2.1.2.2.2
    clear hc
    go_simp
    refine hK.out _ _ ⟨_, _, _, _, _, _, ?_, s0.keep rfl, Slot.new _ _ _, s2.keep rfl, s3.keep rfl, M4.keep (Off.refl _ wr) rfl, M5.keep (Off.refl _ wr) rfl, hO⟩
    simp only [Act.put, List.setIfInBounds_toArray, List.set_cons_zero, List.set_cons_succ]
  · intro l a wr hI hl hd K' hK
    obtain ⟨u19, u20, u21, u22, u23, u8, ha, s0, s1, s2, s3, M4, M5, hO⟩ := hI
    simp only [Act.put, List.setIfInBounds_toArray, List.set_cons_zero, List.set_cons_succ] at ha
    subst ha
    have hc := HK2.out wr hO
    have p0 := hc.2.2.1.1
    have p1 := hc.2.2.1.2.1
    have p2 := hc.2.2.1.2.2.1
    have p3 := hc.2.2.1.2.2.2
    clear hc
    go_simp
    refine hK.out _ _ ⟨_, _, _, _, _, _, ?_, s0.keep rfl, s1.keep rfl, Slot.new _ _ _, s3.keep rfl, M4.keep (Off.refl _ wr) rfl, M5.keep (Off.refl _ wr) rfl, hO⟩
    simp only [Act.put, List.setIfInBounds_toArray, List.set_cons_zero, List.set_cons_succ]
  · intro l a wr hI hl hd K' hK
    obtain ⟨u19, u20, u21, u22, u23, u8, ha, s0, s1, s2, s3, M4, M5, hO⟩ := hI
    simp only [Act.put, List.setIfInBounds_toArray, List.set_cons_zero, List.set_cons_succ] at ha
    have q1 := s1 (hd 1 (by decide))
    have q2 := s2 (hd 2 (by decide))
    subst ha q1 q2
    go_simp
    refine (held_inv (FX.out wr) hO).mono ?_
    rintro e w1 ⟨rfl, hO1, hOW⟩
    go_wp2_with fail
    refine hK.out _ _ ⟨_, _, _, _, _, _, ?_, s0.keep rfl, s1.keep rfl, s2.keep rfl, Slot.new _ _ _, M4.keep hOW rfl, M5.keep hOW rfl, hO1⟩
    simp only [Act.put, List.setIfInBounds_toArray, List.set_cons_zero, List.set_cons_succ]
  · intro l a wr hI hl hd K' hK
    obtain ⟨u19, u20, u21, u22, u23, u8, ha, s0, s1, s2, s3, M4, M5, hO⟩ := hI
    simp only [Act.put, List.setIfInBounds_toArray, List.set_cons_zero, List.set_cons_succ] at ha
    have q0 := s0 (hd 0 (by decide))
    have q3 := s3 (hd 3 (by decide))
    subst ha q0 q3
    go_simp
    refine (FE.out wr).mono ?_
    rintro e w1 ⟨uv, rfl, hm, hOW⟩
    have hO1 := hO.trans hOW (fun _ _ c => c.elim)
    go_wp2_with fail
    refine hK.out _ _ ⟨_, _, _, _, _, _, ?_, s0.keep rfl, s1.keep rfl, s2.keep rfl, s3.keep rfl, Mk.new hm, M5.keep hOW rfl, hO1⟩
    simp only [Act.put, List.setIfInBounds_toArray, List.set_cons_zero, List.set_cons_succ]
  · intro l a wr hI hl hd K' hK
    obtain ⟨u19, u20, u21, u22, u23, u8, ha, s0, s1, s2, s3, M4, M5, hO⟩ := hI
    simp only [Act.put, List.setIfInBounds_toArray, List.set_cons_zero, List.set_cons_succ] at ha
    have m4 := M4 (hd 4 (by decide))
    subst ha
    go_simp
    refine hK.out _ _ ⟨_, _, _, _, _, _, ?_, s0.keep rfl, s1.keep rfl, s2.keep rfl, s3.keep rfl, M4.keep (Off.refl _ wr) rfl, Mk.new (m4), hO⟩
    simp only [Act.put, List.setIfInBounds_toArray, List.set_cons_zero, List.set_cons_succ]
  · intro l a wc hI hd
    obtain ⟨u19, u20, u21, u22, u23, u8, ha, s0, s1, s2, s3, M4, M5, hO⟩ := hI
    simp only [Act.put, List.setIfInBounds_toArray, List.set_cons_zero, List.set_cons_succ] at ha
    have q0 := s0 (hd 0 (by decide))
    have q1 := s1 (hd 1 (by decide))
    have q2 := s2 (hd 2 (by decide))
    have q3 := s3 (hd 3 (by decide))
    have m23 := M4 (hd 4 (by decide))
    have m8 := M5 (hd 5 (by decide))
    subst ha q0 q1 q2 q3
    clear hd s0 s1 s2 s3 M4 M5
    obtain ⟨W3, hW3⟩ : ∃ W3, W3 = wc := ⟨_, rfl⟩
    subst hW3
    obtain ⟨sa, sn, sc, hu8, hsn, hsc, hsb⟩ := m8
    have HS3 := Lib.hid (show SvAt W3 (.slice sa sn sc) bs from ⟨_, _, _, rfl, hsn, hsc, hsb⟩)
    subst hu8
    clear hsn hsc hsb m23
    have HFcW1W2W3 := Lib.hid (hO.heap HFcW1W2.out (fun c => c))
    have HPcW1W2W3 := Lib.hid (hO.heap HPcW1W2.out (fun c => c))
    have HVcW2W3 := Lib.hid (hO.heap HVcW2.out (fun c => c))
    have HOW3 := Lib.hid (HOW2.out.trans hO (fun _ _ c => c))
    have HTW3 := Lib.hid (HTW2.out.off hO)
    obtain ⟨f0, f1, f2, f3, f4, f5, f6, f7, f8, f9, f10, f11, f12, f13⟩ := fv_cells HFcW1W2W3.out
    have lf := heap_lt HFcW1W2W3.out
    clear hO HK2 HWW2 HFcW1W2 HPcW1W2 HVcW2 HOW2 HTW2 HNbW1
    go_wp2_with fail
    refine (FD.out _ _ HS3.out).mono ?_
    rintro e u3 ⟨rfl, hO⟩
    clear f0 f1 f2 f3 f4 f5 f6 f7 f8 f9 f10 f11 f12 f13 lf
    have HS3u := Lib.hid (HS3.out.off hO)
    obtain ⟨W4, eW4⟩ : ∃ W4, W4 = ((u3).alloc (.cells #[.int .u64 (wd el 0 : Int), .int .u64 (wd el 1 : Int), .int .u64 (wd el 2 : Int), .int .u64 (wd el 3 : Int)] 24)) := ⟨_, rfl⟩
    have oW4 : Off (fun _ => False) u3 W4 := by rw [eW4]; exact (Off.refl _ u3).alloc _
    have Xc : W4.heap[u3.heap.size]? = some (.cells #[.int .u64 (wd el 0 : Int), .int .u64 (wd el 1 : Int), .int .u64 (wd el 2 : Int), .int .u64 (wd el 3 : Int)] 24) := by rw [eW4]; exact heap_new' rfl _
    have hOx := hO.trans oW4 (fun _ _ c => c)
    have hHFcW1W2W3k := hOx.heap HFcW1W2W3.out (fun c => c)
    have hHPcW1W2W3k := hOx.heap HPcW1W2W3.out (fun c => c)
    have hHVcW2W3k := hOx.heap HVcW2W3.out (fun c => c)
    have HOW4 := Lib.hid (HOW3.out.trans hOx (fun _ _ c => c))
    have HTW4 := Lib.hid (HTW3.out.off hOx)
    have HFcW1W2W3W4 := Lib.hid hHFcW1W2W3k
    have HPcW1W2W3W4 := Lib.hid hHPcW1W2W3k
    have HVcW2W3W4 := Lib.hid hHVcW2W3k
    have HXcW4 := Lib.hid Xc
    have HS4 := Lib.hid (HS3u.out.off oW4)
    clear HS3 HS3u
    have HWW4 := Lib.hid eW4
    clear hO oW4 hOx eW4 HOW3 HTW3 hHFcW1W2W3k HFcW1W2W3 hHPcW1W2W3k HPcW1W2W3 hHVcW2W3k HVcW2W3 Xc
    have HK4 : Hid (∀ W, Off (fun _ => False) W4 W → (W.cell? ⟨(u0.heap.size + 1), 0, none⟩ = some (.int .u64 (wd p 0 : Int)) ∧ W.cell? ⟨(u0.heap.size + 1), 1, none⟩ = some (.int .u64 (wd p 1 : Int)) ∧ W.cell? ⟨(u0.heap.size + 1), 2, none⟩ = some (.int .u64 (wd p 2 : Int)) ∧ W.cell? ⟨(u0.heap.size + 1), 3, none⟩ = some (.int .u64 (wd p 3 : Int))) ∧ (W.cell? ⟨u1.heap.size, 0, none⟩ = some (.int .u64 (wd v 0 : Int)) ∧ W.cell? ⟨u1.heap.size, 1, none⟩ = some (.int .u64 (wd v 1 : Int)) ∧ W.cell? ⟨u1.heap.size, 2, none⟩ = some (.int .u64 (wd v 2 : Int)) ∧ W.cell? ⟨u1.heap.size, 3, none⟩ = some (.int .u64 (wd v 3 : Int))) ∧ (W.cell? ⟨u3.heap.size, 0, none⟩ = some (.int .u64 (wd el 0 : Int)) ∧ W.cell? ⟨u3.heap.size, 1, none⟩ = some (.int .u64 (wd el 1 : Int)) ∧ W.cell? ⟨u3.heap.size, 2, none⟩ = some (.int .u64 (wd el 2 : Int)) ∧ W.cell? ⟨u3.heap.size, 3, none⟩ = some (.int .u64 (wd el 3 : Int))) ∧ Off (fun _ => False) W4 W) := Lib.hid (fun W h => ⟨cells4 (h.heap HPcW1W2W3W4.out (fun c => c)), cells4 (h.heap HVcW2W3W4.out (fun c => c)), cells4 (h.heap HXcW4.out (fun c => c)), h⟩)
    have HTX := Lib.hid (fun W (h : Off (fun _ => False) W4 W) => HTW4.out.off h)
    have HO3 := Lib.hid HOW4.out
    have HSX := Lib.hid (fun W (h : Off (fun _ => False) W4 W) => HS4.out.off h)
    clear HTW4 HOW4 HS4
    go_upto_region 5 with fail
    rw [← HWW4.out]
    obtain ⟨x30, hx⟩ : ∃ x : Value, x = .bool true := ⟨_, rfl⟩
    have X30 := Lib.hid hx
    clear hx
    obtain ⟨x31, hx⟩ : ∃ x : Value, x = .bool true := ⟨_, rfl⟩
    have X31 := Lib.hid hx
    clear hx
    obtain ⟨x32, hx⟩ : ∃ x : Value, x = .slice sa sn sc := ⟨_, rfl⟩
    have X32 := Lib.hid hx
    clear hx
    obtain ⟨x33, hx⟩ : ∃ x : Value, x = V v := ⟨_, rfl⟩
    have X33 := Lib.hid hx
    clear hx
    obtain ⟨x35, hx⟩ : ∃ x : Value, x = .bool true := ⟨_, rfl⟩
    have X35 := Lib.hid hx
    clear hx
    obtain ⟨x36, hx⟩ : ∃ x : Value, x = .bool true := ⟨_, rfl⟩
    have X36 := Lib.hid hx
    clear hx
    obtain ⟨x37, hx⟩ : ∃ x : Value, x = .bool true := ⟨_, rfl⟩
    have X37 := Lib.hid hx
    clear hx
    obtain ⟨x38, hx⟩ : ∃ x : Value, x = V el := ⟨_, rfl⟩
    have X38 := Lib.hid hx
    clear hx
    obtain ⟨x39, hx⟩ : ∃ x : Value, x = V p := ⟨_, rfl⟩
    have X39 := Lib.hid hx
    clear hx
    obtain ⟨x40, hx⟩ : ∃ x : Value, x = V v := ⟨_, rfl⟩
    have X40 := Lib.hid hx
    clear hx
    obtain ⟨x41, hx⟩ : ∃ x : Value, x = V el := ⟨_, rfl⟩
    have X41 := Lib.hid hx
    clear hx
    obtain ⟨x42, hx⟩ : ∃ x : Value, x = .bool true := ⟨_, rfl⟩
    have X42 := Lib.hid hx
    clear hx
    obtain ⟨x43, hx⟩ : ∃ x : Value, x = .bool true := ⟨_, rfl⟩
    have X43 := Lib.hid hx
    clear hx
    obtain ⟨x44, hx⟩ : ∃ x : Value, x = .bool true := ⟨_, rfl⟩
    have X44 := Lib.hid hx
    clear hx
    obtain ⟨x45, hx⟩ : ∃ x : Value, x = .int .i64 0 := ⟨_, rfl⟩
    have X45 := Lib.hid hx
    clear hx
    obtain ⟨x46, hx⟩ : ∃ x : Value, x = .bool true := ⟨_, rfl⟩
    have X46 := Lib.hid hx
    clear hx
    obtain ⟨x47, hx⟩ : ∃ x : Value, x = .bool true := ⟨_, rfl⟩
    have X47 := Lib.hid hx
    clear hx
    obtain ⟨x4, hx⟩ : ∃ x : Value, x = .bool true := ⟨_, rfl⟩
    have X4 := Lib.hid hx
    clear hx
    refine wp_region_inv (fun a0 l a' w' => ∃ (u34 : Value), a' = (Act.put (fill a0 30 [sel (l 0) x30 undef, sel (l 1) x31 undef, sel (l 2) x32 undef, sel (l 3) x33 undef, sel (l 4) u34 undef, sel (l 5) x35 undef, sel (l 6) x36 undef, sel (l 7) x37 undef, sel (l 8) x38 undef, sel (l 9) x39 undef, sel (l 10) x40 undef, sel (l 11) x41 undef, sel (l 12) x42 undef, sel (l 13) x43 undef, sel (l 14) x44 undef, sel (l 15) x45 undef, sel (l 16) x46 undef, sel (l 17) x47 undef]) (some 4) (sel (l 18) x4 (.bool false))) ∧ Mk l 4 u34 w' (bs) ∧ Off (fun _ => False) W4 w') (by kernel_rfl) (by kernel_rfl) ?_ ⟨?_, ?_, ?_, ?_, ?_, ?_, ?_, ?_, ?_, ?_, ?_, ?_, ?_, ?_, ?_, ?_, ?_, ?_, ?_, trivial⟩ ?_
    · refine ⟨undef, ?_, Mk.start _ _ _ _, (Off.refl _ W4).drew⟩
      simp only [fill_eq, List.take_succ_cons, List.take_zero, List.cons_append, List.nil_append, Act.put, List.setIfInBounds_toArray, List.set_cons_zero, List.set_cons_succ, sel_start]
    · as_aux_lemma =>
        rintro l a wr ⟨u34, ha, M4, hO⟩ hl hd K' hK
        have hx := X30.out; subst hx
        simp only [fill_eq, List.take_succ_cons, List.take_zero, List.cons_append, List.nil_append, Act.put, List.setIfInBounds_toArray, List.set_cons_zero, List.set_cons_succ] at ha
        subst ha
        rw [if_pos (by rfl)]
        go_simp
        refine (held_inv (FAL.out wr (HTX.out wr hO)) hO).mono ?_
        rintro e w1 ⟨rfl, hO1, hOW⟩
        go_wp2_with fail
        refine hK.out _ _ ⟨u34, ?_, M4.keep hOW rfl, hO1⟩
        simp only [fill_eq, List.take_succ_cons, List.take_zero, List.cons_append, List.nil_append, Act.put, List.setIfInBounds_toArray, List.set_cons_zero, List.set_cons_succ, sel_new]
        rfl
    · as_aux_lemma =>
        rintro l a wr ⟨u34, ha, M4, hO⟩ hl hd K' hK
        have d0 := hd 0 (by decide)
        have hx := X30.out; subst hx
        have hx := X31.out; subst hx
        simp only [fill_eq, List.take_succ_cons, List.take_zero, List.cons_append, List.nil_append, Act.put, List.setIfInBounds_toArray, List.set_cons_zero, List.set_cons_succ, sel_of d0] at ha
        subst ha
        rw [if_pos (by rfl)]
        go_simp
        refine hK.out _ _ ⟨u34, ?_, M4.keep (Off.refl _ wr) rfl, hO⟩
        simp only [fill_eq, List.take_succ_cons, List.take_zero, List.cons_append, List.nil_append, Act.put, List.setIfInBounds_toArray, List.set_cons_zero, List.set_cons_succ, sel_new, sel_dep d0]
        rfl
    · as_aux_lemma =>
        rintro l a wr ⟨u34, ha, M4, hO⟩ hl hd K' hK
        have d1 := hd 1 (by decide)
        have hx := X31.out; subst hx
        have hx := X32.out; subst hx
        simp only [fill_eq, List.take_succ_cons, List.take_zero, List.cons_append, List.nil_append, Act.put, List.setIfInBounds_toArray, List.set_cons_zero, List.set_cons_succ, sel_of d1] at ha
        subst ha
        rw [if_pos (by rfl)]
        go_simp
        refine hK.out _ _ ⟨u34, ?_, M4.keep (Off.refl _ wr) rfl, hO⟩
        simp only [fill_eq, List.take_succ_cons, List.take_zero, List.cons_append, List.nil_append, Act.put, List.setIfInBounds_toArray, List.set_cons_zero, List.set_cons_succ, sel_new, sel_dep d1]
        rfl
    · as_aux_lemma =>
        rintro l a wr ⟨u34, ha, M4, hO⟩ hl hd K' hK
        have d1 := hd 1 (by decide)
        have hx := X31.out; subst hx
        have hx := X33.out; subst hx
        simp only [fill_eq, List.take_succ_cons, List.take_zero, List.cons_append, List.nil_append, Act.put, List.setIfInBounds_toArray, List.set_cons_zero, List.set_cons_succ, sel_of d1] at ha
        subst ha
        have hc := HK4.out wr hO
        have p0 := hc.2.1.1
        have p1 := hc.2.1.2.1
        have p2 := hc.2.1.2.2.1
        have p3 := hc.2.1.2.2.2
        clear hc
        rw [if_pos (by rfl)]
        go_simp
        refine hK.out _ _ ⟨u34, ?_, M4.keep (Off.refl _ wr) rfl, hO⟩
        simp only [fill_eq, List.take_succ_cons, List.take_zero, List.cons_append, List.nil_append, Act.put, List.setIfInBounds_toArray, List.set_cons_zero, List.set_cons_succ, sel_new, sel_dep d1]
        rfl
    · as_aux_lemma =>
        rintro l a wr ⟨u34, ha, M4, hO⟩ hl hd K' hK
        have d1 := hd 1 (by decide)
        have d3 := hd 3 (by decide)
        have hx := X31.out; subst hx
        have hx := X33.out; subst hx
        simp only [fill_eq, List.take_succ_cons, List.take_zero, List.cons_append, List.nil_append, Act.put, List.setIfInBounds_toArray, List.set_cons_zero, List.set_cons_succ, sel_of d1, sel_of d3] at ha
        subst ha
        rw [if_pos (by rfl)]
        go_simp
        refine (FR.out wr).mono ?_
        rintro e w1 ⟨uv, rfl, hm, hOW⟩
        have hO1 := hO.trans hOW (fun _ _ c => c)
        go_wp2_with fail
        refine hK.out _ _ ⟨uv, ?_, Mk.new hm, hO1⟩
        simp only [fill_eq, List.take_succ_cons, List.take_zero, List.cons_append, List.nil_append, Act.put, List.setIfInBounds_toArray, List.set_cons_zero, List.set_cons_succ, sel_new, sel_dep d1, sel_dep d3]
        rfl
    · as_aux_lemma =>
        rintro l a wr ⟨u34, ha, M4, hO⟩ hl hd K' hK
        have d1 := hd 1 (by decide)
        have d2 := hd 2 (by decide)
        have d4 := hd 4 (by decide)
        have hx := X31.out; subst hx
        have hx := X32.out; subst hx
        have m4 := M4 d4
        have hx := X35.out; subst hx
        simp only [fill_eq, List.take_succ_cons, List.take_zero, List.cons_append, List.nil_append, Act.put, List.setIfInBounds_toArray, List.set_cons_zero, List.set_cons_succ, sel_of d1, sel_of d2, sel_of d4] at ha
        subst ha
        rw [if_pos (by rfl)]
        go_simp
        refine (held_inv (bequal_sv (HSX.out wr hO) m4) hO).mono ?_
        rintro e w1 ⟨rfl, hO1, hOW⟩
        go_wp2_with fail
        refine hK.out _ _ ⟨u34, ?_, M4.keep hOW rfl, hO1⟩
        simp only [fill_eq, List.take_succ_cons, List.take_zero, List.cons_append, List.nil_append, Act.put, List.setIfInBounds_toArray, List.set_cons_zero, List.set_cons_succ, sel_new, sel_dep d1, sel_dep d2, sel_dep d4]
        rfl
    · as_aux_lemma =>
        rintro l a wr ⟨u34, ha, M4, hO⟩ hl hd K' hK
        have d1 := hd 1 (by decide)
        have d5 := hd 5 (by decide)
        have hx := X31.out; subst hx
        have hx := X35.out; subst hx
        have hx := X36.out; subst hx
        simp only [fill_eq, List.take_succ_cons, List.take_zero, List.cons_append, List.nil_append, Act.put, List.setIfInBounds_toArray, List.set_cons_zero, List.set_cons_succ, sel_of d1, sel_of d5] at ha
        subst ha
        rw [if_pos (by rfl)]
        go_simp
        refine hK.out _ _ ⟨u34, ?_, M4.keep (Off.refl _ wr) rfl, hO⟩
        simp only [fill_eq, List.take_succ_cons, List.take_zero, List.cons_append, List.nil_append, Act.put, List.setIfInBounds_toArray, List.set_cons_zero, List.set_cons_succ, sel_new, sel_dep d1, sel_dep d5]
        rfl
    · as_aux_lemma =>
        rintro l a wr ⟨u34, ha, M4, hO⟩ hl hd K' hK
        have d6 := hd 6 (by decide)
        have hx := X36.out; subst hx
        have hx := X37.out; subst hx
        simp only [fill_eq, List.take_succ_cons, List.take_zero, List.cons_append, List.nil_append, Act.put, List.setIfInBounds_toArray, List.set_cons_zero, List.set_cons_succ, sel_of d6] at ha
        subst ha
        rw [if_pos (by rfl)]
        go_simp
        refine hK.out _ _ ⟨u34, ?_, M4.keep (Off.refl _ wr) rfl, hO⟩
        simp only [fill_eq, List.take_succ_cons, List.take_zero, List.cons_append, List.nil_append, Act.put, List.setIfInBounds_toArray, List.set_cons_zero, List.set_cons_succ, sel_new, sel_dep d6]
        rfl
    · as_aux_lemma =>
        rintro l a wr ⟨u34, ha, M4, hO⟩ hl hd K' hK
        have d7 := hd 7 (by decide)
        have hx := X37.out; subst hx
        have hx := X38.out; subst hx
        simp only [fill_eq, List.take_succ_cons, List.take_zero, List.cons_append, List.nil_append, Act.put, List.setIfInBounds_toArray, List.set_cons_zero, List.set_cons_succ, sel_of d7] at ha
        subst ha
        have hc := HK4.out wr hO
        have p0 := hc.2.2.1.1
        have p1 := hc.2.2.1.2.1
        have p2 := hc.2.2.1.2.2.1
        have p3 := hc.2.2.1.2.2.2
        clear hc
        rw [if_pos (by rfl)]
        go_simp
        refine hK.out _ _ ⟨u34, ?_, M4.keep (Off.refl _ wr) rfl, hO⟩
        simp only [fill_eq, List.take_succ_cons, List.take_zero, List.cons_append, List.nil_append, Act.put, List.setIfInBounds_toArray, List.set_cons_zero, List.set_cons_succ, sel_new, sel_dep d7]
        rfl
    · as_aux_lemma =>
        rintro l a wr ⟨u34, ha, M4, hO⟩ hl hd K' hK
        have d7 := hd 7 (by decide)
        have hx := X37.out; subst hx
        have hx := X39.out; subst hx
        simp only [fill_eq, List.take_succ_cons, List.take_zero, List.cons_append, List.nil_append, Act.put, List.setIfInBounds_toArray, List.set_cons_zero, List.set_cons_succ, sel_of d7] at ha
        subst ha
        have hc := HK4.out wr hO
        have p0 := hc.1.1
        have p1 := hc.1.2.1
        have p2 := hc.1.2.2.1
        have p3 := hc.1.2.2.2
        clear hc
        rw [if_pos (by rfl)]
        go_simp
        refine hK.out _ _ ⟨u34, ?_, M4.keep (Off.refl _ wr) rfl, hO⟩
        simp only [fill_eq, List.take_succ_cons, List.take_zero, List.cons_append, List.nil_append, Act.put, List.setIfInBounds_toArray, List.set_cons_zero, List.set_cons_succ, sel_new, sel_dep d7]
        rfl
    · as_aux_lemma =>
        rintro l a wr ⟨u34, ha, M4, hO⟩ hl hd K' hK
        have d7 := hd 7 (by decide)
        have hx := X37.out; subst hx
        have hx := X40.out; subst hx
        simp only [fill_eq, List.take_succ_cons, List.take_zero, List.cons_append, List.nil_append, Act.put, List.setIfInBounds_toArray, List.set_cons_zero, List.set_cons_succ, sel_of d7] at ha
        subst ha
        have hc := HK4.out wr hO
        have p0 := hc.2.1.1
        have p1 := hc.2.1.2.1
        have p2 := hc.2.1.2.2.1
        have p3 := hc.2.1.2.2.2
        clear hc
        rw [if_pos (by rfl)]
        go_simp
        refine hK.out _ _ ⟨u34, ?_, M4.keep (Off.refl _ wr) rfl, hO⟩
        simp only [fill_eq, List.take_succ_cons, List.take_zero, List.cons_append, List.nil_append, Act.put, List.setIfInBounds_toArray, List.set_cons_zero, List.set_cons_succ, sel_new, sel_dep d7]
        rfl
    · as_aux_lemma =>
        rintro l a wr ⟨u34, ha, M4, hO⟩ hl hd K' hK
        have d7 := hd 7 (by decide)
        have d9 := hd 9 (by decide)
        have d10 := hd 10 (by decide)
        have hx := X37.out; subst hx
        have hx := X39.out; subst hx
        have hx := X40.out; subst hx
        have hx := X41.out; subst hx
        simp only [fill_eq, List.take_succ_cons, List.take_zero, List.cons_append, List.nil_append, Act.put, List.setIfInBounds_toArray, List.set_cons_zero, List.set_cons_succ, sel_of d7, sel_of d9, sel_of d10] at ha
        subst ha
        rw [if_pos (by rfl)]
        go_simp
        refine (held_inv (FX.out wr) hO).mono ?_
        rintro e w1 ⟨rfl, hO1, hOW⟩
        go_wp2_with fail
        refine hK.out _ _ ⟨u34, ?_, M4.keep hOW rfl, hO1⟩
        simp only [fill_eq, List.take_succ_cons, List.take_zero, List.cons_append, List.nil_append, Act.put, List.setIfInBounds_toArray, List.set_cons_zero, List.set_cons_succ, sel_new, sel_dep d7, sel_dep d9, sel_dep d10]
        rfl
    · as_aux_lemma =>
        rintro l a wr ⟨u34, ha, M4, hO⟩ hl hd K' hK
        have d7 := hd 7 (by decide)
        have d8 := hd 8 (by decide)
        have d11 := hd 11 (by decide)
        have hx := X37.out; subst hx
        have hx := X38.out; subst hx
        have hx := X41.out; subst hx
        have hx := X42.out; subst hx
        simp only [fill_eq, List.take_succ_cons, List.take_zero, List.cons_append, List.nil_append, Act.put, List.setIfInBounds_toArray, List.set_cons_zero, List.set_cons_succ, sel_of d7, sel_of d8, sel_of d11] at ha
        subst ha
        rw [if_pos (by rfl)]
        go_simp
        refine hK.out _ _ ⟨u34, ?_, M4.keep (Off.refl _ wr) rfl, hO⟩
        simp only [fill_eq, List.take_succ_cons, List.take_zero, List.cons_append, List.nil_append, Act.put, List.setIfInBounds_toArray, List.set_cons_zero, List.set_cons_succ, sel_new, sel_dep d7, sel_dep d8, sel_dep d11]
        rfl
    · as_aux_lemma =>
        rintro l a wr ⟨u34, ha, M4, hO⟩ hl hd K' hK
        have d7 := hd 7 (by decide)
        have d12 := hd 12 (by decide)
        have hx := X37.out; subst hx
        have hx := X42.out; subst hx
        have hx := X43.out; subst hx
        simp only [fill_eq, List.take_succ_cons, List.take_zero, List.cons_append, List.nil_append, Act.put, List.setIfInBounds_toArray, List.set_cons_zero, List.set_cons_succ, sel_of d7, sel_of d12] at ha
        subst ha
        rw [if_pos (by rfl)]
        go_simp
        refine hK.out _ _ ⟨u34, ?_, M4.keep (Off.refl _ wr) rfl, hO⟩
        simp only [fill_eq, List.take_succ_cons, List.take_zero, List.cons_append, List.nil_append, Act.put, List.setIfInBounds_toArray, List.set_cons_zero, List.set_cons_succ, sel_new, sel_dep d7, sel_dep d12]
        rfl
    · as_aux_lemma =>
        rintro l a wr ⟨u34, ha, M4, hO⟩ hl hd K' hK
        have d13 := hd 13 (by decide)
        have hx := X43.out; subst hx
        have hx := X44.out; subst hx
        simp only [fill_eq, List.take_succ_cons, List.take_zero, List.cons_append, List.nil_append, Act.put, List.setIfInBounds_toArray, List.set_cons_zero, List.set_cons_succ, sel_of d13] at ha
        subst ha
        rw [if_pos (by rfl)]
        go_simp
        refine hK.out _ _ ⟨u34, ?_, M4.keep (Off.refl _ wr) rfl, hO⟩
        simp only [fill_eq, List.take_succ_cons, List.take_zero, List.cons_append, List.nil_append, Act.put, List.setIfInBounds_toArray, List.set_cons_zero, List.set_cons_succ, sel_new, sel_dep d13]
        rfl
    · as_aux_lemma =>
        rintro l a wr ⟨u34, ha, M4, hO⟩ hl hd K' hK
        have d14 := hd 14 (by decide)
        have hx := X44.out; subst hx
        have hx := X45.out; subst hx
        simp only [fill_eq, List.take_succ_cons, List.take_zero, List.cons_append, List.nil_append, Act.put, List.setIfInBounds_toArray, List.set_cons_zero, List.set_cons_succ, sel_of d14] at ha
        subst ha
        rw [if_pos (by rfl)]
        go_simp
        refine hK.out _ _ ⟨u34, ?_, M4.keep (Off.refl _ wr) rfl, hO⟩
        simp only [fill_eq, List.take_succ_cons, List.take_zero, List.cons_append, List.nil_append, Act.put, List.setIfInBounds_toArray, List.set_cons_zero, List.set_cons_succ, sel_new, sel_dep d14]
        rfl
    · as_aux_lemma =>
        rintro l a wr ⟨u34, ha, M4, hO⟩ hl hd K' hK
        have d14 := hd 14 (by decide)
        have d15 := hd 15 (by decide)
        have hx := X44.out; subst hx
        have hx := X45.out; subst hx
        have hx := X46.out; subst hx
        simp only [fill_eq, List.take_succ_cons, List.take_zero, List.cons_append, List.nil_append, Act.put, List.setIfInBounds_toArray, List.set_cons_zero, List.set_cons_succ, sel_of d14, sel_of d15] at ha
        subst ha
        rw [if_pos (by rfl)]
        go_simp
        refine hK.out _ _ ⟨u34, ?_, M4.keep (Off.refl _ wr) rfl, hO⟩
        simp only [fill_eq, List.take_succ_cons, List.take_zero, List.cons_append, List.nil_append, Act.put, List.setIfInBounds_toArray, List.set_cons_zero, List.set_cons_succ, sel_new, sel_dep d14, sel_dep d15]
        rfl
    · as_aux_lemma =>
        rintro l a wr ⟨u34, ha, M4, hO⟩ hl hd K' hK
        have d14 := hd 14 (by decide)
        have d16 := hd 16 (by decide)
        have hx := X44.out; subst hx
        have hx := X46.out; subst hx
        have hx := X47.out; subst hx
        simp only [fill_eq, List.take_succ_cons, List.take_zero, List.cons_append, List.nil_append, Act.put, List.setIfInBounds_toArray, List.set_cons_zero, List.set_cons_succ, sel_of d14, sel_of d16] at ha
        subst ha
        rw [if_pos (by rfl)]
        go_simp
        refine hK.out _ _ ⟨u34, ?_, M4.keep (Off.refl _ wr) rfl, hO⟩
        simp only [fill_eq, List.take_succ_cons, List.take_zero, List.cons_append, List.nil_append, Act.put, List.setIfInBounds_toArray, List.set_cons_zero, List.set_cons_succ, sel_new, sel_dep d14, sel_dep d16]
        rfl
    · as_aux_lemma =>
        rintro l a wr ⟨u34, ha, M4, hO⟩ hl hd K' hK
        have d17 := hd 17 (by decide)
        have hx := X47.out; subst hx
        have hx := X4.out; subst hx
        simp only [fill_eq, List.take_succ_cons, List.take_zero, List.cons_append, List.nil_append, Act.put, List.setIfInBounds_toArray, List.set_cons_zero, List.set_cons_succ, sel_of d17] at ha
        subst ha
        rw [if_pos (by rfl)]
        go_simp
        refine hK.out _ _ ⟨u34, ?_, M4.keep (Off.refl _ wr) rfl, hO⟩
        simp only [fill_eq, List.take_succ_cons, List.take_zero, List.cons_append, List.nil_append, Act.put, List.setIfInBounds_toArray, List.set_cons_zero, List.set_cons_succ, sel_new, sel_dep d17]
        rfl
    · rintro l a wz ⟨u34, ha, M4, hO⟩ hd
      simp only [fill_eq, List.take_succ_cons, List.take_zero, List.cons_append, List.nil_append, Act.put, List.setIfInBounds_toArray, List.set_cons_zero, List.set_cons_succ, sel_of (hd 0 (by decide)), sel_of (hd 1 (by decide)), sel_of (hd 2 (by decide)), sel_of (hd 3 (by decide)), sel_of (hd 4 (by decide)), sel_of (hd 5 (by decide)), sel_of (hd 6 (by decide)), sel_of (hd 7 (by decide)), sel_of (hd 8 (by decide)), sel_of (hd 9 (by decide)), sel_of (hd 10 (by decide)), sel_of (hd 11 (by decide)), sel_of (hd 12 (by decide)), sel_of (hd 13 (by decide)), sel_of (hd 14 (by decide)), sel_of (hd 15 (by decide)), sel_of (hd 16 (by decide)), sel_of (hd 17 (by decide)), sel_of (hd 18 (by decide))] at ha
      subst ha
      have hx := X4.out; subst hx
      have HOf := Lib.hid ((HO3.out).trans hO (fun _ _ c => c))
      clear hO hd
      go_wp2
      go_ret
      exact ⟨rfl, HOf.out⟩

theorem door_met (os : Os) (args : Array Value) : laidMetH Tryd.prog [("sharecore/field.fields", Rows.laid_sharecore_field_fields)] ((World.doorLaid Tryd.prog 400 os).forCall (fun _ _ => 0) ⟨#[], args, []⟩).memory :=
  laidMetH_of_parts3 (fuel := 8) (laidMet_of_run' 8 (by kernel_rfl) (by kernel_rfl)) (by kernel_rfl) (by kernel_rfl)

set_option maxRecDepth 100000 in
theorem lifted (os : Os) (started : os.Started) (H : Type) (enc : TypeId × Value → H) :
    ReturnsInHanded {} Tryd.checked os 3 .any (fun w args => (Rows.bytecodeEncodesSpec.pre enc Tryd.prog Tryd.f3 [] false w args ∧ laidMetH Tryd.prog [("sharecore/field.fields", Rows.laid_sharecore_field_fields)] w) ∧ sizedMet enc Tryd.prog Tryd.f3 (OpenSpec.ofChange Rows.bytecodeEncodesSpec) false w args)
      (Rows.bytecodeEncodesSpec.post enc Tryd.prog Tryd.f3 false true false false) := by
  refine returnsInHanded_of_change_and (C := Tryd.checked) (X := fun w _ => laidMetH Tryd.prog [("sharecore/field.fields", Rows.laid_sharecore_field_fields)] w) (fun _ _ _ hh h => h.of_heap hh) own started (by kernel_rfl) Tryd.func3
    (ChangeSpec.witness_shaped (enc := enc) (C := Tryd.checked) (os := os) (X := fun w _ => laidMetH Tryd.prog [("sharecore/field.fields", Rows.laid_sharecore_field_fields)] w) false (World.doorLaid Tryd.prog 400 os) #[.bool false, .agg #[.int .u64 0, .int .u64 0, .int .u64 0, .int .u64 0]] 8 rfl (World.shaped_of_RefB (by kernel_rfl) (by kernel_rfl)) (by kernel_rfl) (by kernel_rfl) (by kernel_rfl) (door_met os _)) ?_
  intro W base args ds gs before hval0 hW _ _ hL _
  have hval : ∀ (j : Nat) t v, Tryd.f3.params[j]? = some t → args[j]? = some v → Value.okWide Tryd.prog W .any base t v := hval0
  have hW' := hW
  obtain ⟨p, q, hA0, hV, rfl, hfz, hnd⟩ := hW
  have hA : DataW.TrodAll enc Tryd.prog W 0 (fun _ => true) true Tryd.f3.params.toList args.toList ds p := hA0
  rw [Tryd.params3] at hA hval
  obtain ⟨v0, vs0, d0, ds0, p0, q0, hargs, rfl, rfl, h0, r0⟩ := trodAll_cons hA
  obtain ⟨v1, vs1, d1, ds1, p1, q1, rfl, rfl, rfl, h1, r1⟩ := trodAll_cons r0
  obtain ⟨rfl, rfl, rfl⟩ := trodAll_nil r1
  obtain rfl : args = #[v0, v1] := by cases args; simp_all
  obtain ⟨rfl, rfl⟩ := trodVars_none hV
  obtain ⟨i0, rfl, rfl, rfl⟩ := open_bool Tryd.underlying4 (hval 0 4 v0 rfl rfl) h0
  have w0 := trivial
  have k1 := h1
  have lt1 : ∀ x ∈ p1, x.block < W.heap.size := by obtain ⟨m, hm⟩ := k1; exact DataW.trod_lt m _ _ _ hm
  obtain ⟨n1, w1, rfl⟩ := open_vec (hval 1 23 v1 rfl rfl) h1
  have hT := tab_of_laid hL
  clear hA0 hval0
  refine (walk i0 n1 W w0 w1 hT).mono fun e W' ⟨he, hoff⟩ => ?_
  have bel : Below W.heap.size W W' := hoff.below (Nat.le_refl _) (fun _ _ c => c)
  subst he
  exact ⟨_, rfl, _, _, _, [], _, [], hW', trodAll_mk1 (shut_bool Tryd.underlying4 _), (trodAll_cons_mk (shut_bool Tryd.underlying4 _) (trodAll_cons_mk (Below.trod laidOut (by kernel_rfl) (of_decide_eq_true (by kernel_rfl)) k1 bel lt1) trodAll_mk0)), rfl, bel.frame _, fun h => by cases h⟩

theorem over : Rows.bytecodeEncodesRow.holds Tryd.pinned (OpenSpec.ofChange Rows.bytecodeEncodesSpec) :=
  OpenClaim.holds_of_wide 3 Tryd.f3 rfl rfl rfl rfl rfl rfl rfl ⟨rfl, rfl, rfl, rfl, rfl⟩ rfl rfl rfl rfl rfl (by kernel_rfl) Tryd.func3 (by kernel_rfl)
    (of_decide_eq_true (by kernel_rfl)) (by unfold Func.isWrapper; first | (rw [if_pos (by decide +kernel)]; kernel_rfl) | (rw [if_neg (by decide +kernel)]; exact ⟨rfl, rfl⟩))
    (fun os started H enc _ => lifted os started H enc)

theorem proved : Rows.BytecodeEncodesCardSaid :=
  Claim7.holds_tied_plain_at .later [] [.data] true (true, "0501a0b72a99cfb9ca1ff1f7e0f7f908ab47c28911e2dcee8a79923f14811295") false
    over (fun _ h => by cases h) (by kernel_rfl) (fun _ h => by cases h) bytecodeEncodes_row_tie rfl ⟨rfl, rfl⟩ (by kernel_rfl) rfl
    (fun f fn hf hfn => by
      obtain rfl : f = 3 := Option.some.inj ((show Tryd.prog.funcNamed "sharecore/sharecorelaw07.BytecodeEncodes" = some 3 by kernel_rfl).symm.trans hf) |>.symm
      obtain rfl : fn = Tryd.f3 := (Option.some.inj (Tryd.func3.symm.trans hfn)).symm
      exact ⟨by kernel_rfl, fun j t ht => by
        rw [Tryd.params3] at ht
        have hm : t ∈ [4, 23] := by simpa using Array.mem_of_getElem? ht
        have hall : ([4, 23].all fun u => !Tryd.prog.wantsStandIn u) = true := by kernel_rfl
        exact (show Tryd.prog.wantsStandIn t = false by simpa using List.all_eq_true.1 hall t hm)⟩)
    (by kernel_rfl)
#print axioms proved
end Go.Proofs.YtclknpkjnkgejaaDoor.bytecodeEncodes
