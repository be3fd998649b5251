/-
  For every field and list of up to 30 numbers, the examples of the chapter hold, and Batch returns the inverse of each of them, or 0: the statement of P6.3. No condition.
-/
import Derived.Test.YtnegdlmpmmehmaaDoorRows
import Derived.Test.YtnegdlmpmmehmaaDoorTie
import Derived.Test.YtnegdlmpmmehmaaDoorCards
import Derived.LaidMore
import Derived.LaidHandle
import Derived.SevenTiedAt
import Derived.Stop.Joined
import Derived.JoinedOf
import Derived.Test.YtnegdlmpmmehmaaDoorLimbOpen
import Derived.Test.YtnegdlmpmmehmaaDoorFieldTab
import Derived.Test.YtnegdlmpmmehmaaDoorFieldHeld
import Derived.Test.YtnegdlmpmmehmaaDoorPowBase
import Derived.Test.YtnegdlmpmmehmaaDoorPowOpen
import Derived.Test.YtnegdlmpmmehmaaDoorPowRefs
import Derived.Test.YtnegdlmpmmehmaaDoorInvMem
import Derived.Test.YtnegdlmpmmehmaaDoorInvSel
import Derived.WalkKit
import Derived.ProofKit
import Derived.OpenShut
import Derived.ShutString
import Derived.ChangeOld
import Derived.Below
namespace Go.Proofs.YtnegdlmpmmehmaaDoor.powerBatches
open Go.ChangeShapes Go.WideShapes Go.ChangeAt Go.RowKit
set_option linter.unusedVariables false

theorem own : ownKnob Tryd.prog.godebug = none := by kernel_rfl
theorem laidOut : laidOutB Tryd.prog = true := by kernel_rfl

set_option maxRecDepth 100000 in
set_option maxHeartbeats 4000000 in
theorem walk (i0 : Bool) (a1 : Option Addr) (n1 cap1 : Nat) (xs1 : List Nat) (w : World) (w0 : True) (hn1 : n1 = xs1.length) (w1 : VsAt w (.slice a1 n1 cap1) xs1 (fun k => k < w.heap.size)) (hT : TabAt w) :
    Calls Tryd.prog 5 #[.bool i0, .slice a1 n1 cap1] w fun e w' => e = .returned (.bool true) ∧ Off (fun _ => False) w w' := by
  obtain ⟨hnl, hnm, hxs⟩ := w1.len
  obtain ⟨id, p, i, r, s, hF, hid⟩ := fld_of i0
  have hp := hF.mp.lt
  have h1 := hF.mp.one
  have FG := Lib.hid (fun W hT => get6_any i0 hF hid W hT)
  have FAL : Hid (∀ W, TabAt W → Calls Tryd.prog 11 #[] W fun e w' => e = .returned (.bool true) ∧ Off (fun _ => False) W w') := Lib.hid (fun W hT => alive6_any W hT)
  by_cases hbig : 30 < n1
  · have hbi : decide ((30 : Int) < (n1 : Int)) = true := by simp; omega
    have hbp : (30 : Int) < (n1 : Int) := by omega
    clear hnl hnm hxs hbig hF hid hp h1 FG
    go_enter Tryd.func5, Tryd.ntmps5
    go_wp2_with fail
    refine (FAL.out _ hT).mono ?_
    rintro e u0 ⟨rfl, hO⟩
    have HO := Lib.hid (hO)
    clear hO
    go_wp2
    go_ret
    exact ⟨rfl, HO.out⟩
  · have hbi : decide ((30 : Int) < (n1 : Int)) = false := by simp; omega
    have hbp : ¬ (30 : Int) < (n1 : Int) := by omega
    have FMa := Lib.hid (fun x m (hx : x < R256) (hm : m = x % p) W (_ : TabAt W) => by rw [hm]; exact mod_mod p x hp h1 hx W : ∀ x m, x < R256 → m = x % p → ∀ W, TabAt W → Calls Tryd.prog 10 #[V p, V x] W fun e w' => e = .returned (V m) ∧ Off (fun _ => False) W w')
    have FFa := Lib.hid (fun x m z (hm : m = x % p) (hz : z = fm p m) W (_ : TabAt W) => by rw [hz]; exact form6_any p m hp h1 (by rw [hm]; exact Nat.lt_trans (Nat.mod_lt _ (by omega)) hp) W : ∀ x m z, m = x % p → z = fm p m → ∀ W, TabAt W → Calls Tryd.prog 13 #[V p, V m] W fun e w' => e = .returned (V z) ∧ Off (fun _ => False) W w')
    obtain ⟨ys, hys⟩ : ∃ ys, ys = xs1.map (fun a => fm p (a % p)) := ⟨_, rfl⟩
    have HYs := Lib.hid hys
    have HLn := Lib.hid hnl
    have HXs := Lib.hid hxs
    have hn30 : n1 ≤ 30 := by omega
    obtain ⟨i0', hi, hz0, hz1, hz2⟩ := info_parts elem_info
    have HF := Lib.hid hF
    clear hn1 hys hnl hxs hbig hF hid hp h1 hnm
    go_enter Tryd.func5, Tryd.ntmps5
    go_wp2_with fail
    refine (FG.out _ (hT.off (Off.refl _ w))).mono ?_
    rintro e u0 ⟨rfl, hO1⟩
    have hO0 : Off (fun _ => False) w u0 := (Off.refl _ w).trans hO1 (fun _ _ c => c)
    obtain ⟨W0, eW0⟩ : ∃ W0, W0 = (((u0).alloc (.cells #[.int .i64 id, .int .u64 (wd p 0 : Int), .int .u64 (wd p 1 : Int), .int .u64 (wd p 2 : Int), .int .u64 (wd p 3 : Int), .int .u64 (i : Int), .int .u64 (wd r 0 : Int), .int .u64 (wd r 1 : Int), .int .u64 (wd r 2 : Int), .int .u64 (wd r 3 : Int), .int .u64 (wd s 0 : Int), .int .u64 (wd s 1 : Int), .int .u64 (wd s 2 : Int), .int .u64 (wd s 3 : Int)] 26)).alloc (.cells #[.int .u64 (wd p 0 : Int), .int .u64 (wd p 1 : Int), .int .u64 (wd p 2 : Int), .int .u64 (wd p 3 : Int)] 23)) := ⟨_, rfl⟩
    have oW0 : Off (fun _ => False) u0 W0 := by rw [eW0]; exact ((Off.refl _ u0).alloc _).alloc _
    have hFc : W0.heap[u0.heap.size]? = some (.cells #[.int .i64 id, .int .u64 (wd p 0 : Int), .int .u64 (wd p 1 : Int), .int .u64 (wd p 2 : Int), .int .u64 (wd p 3 : Int), .int .u64 (i : Int), .int .u64 (wd r 0 : Int), .int .u64 (wd r 1 : Int), .int .u64 (wd r 2 : Int), .int .u64 (wd r 3 : Int), .int .u64 (wd s 0 : Int), .int .u64 (wd s 1 : Int), .int .u64 (wd s 2 : Int), .int .u64 (wd s 3 : Int)] 26) := by rw [eW0]; exact heap_old' (heap_new' rfl _) _
    have hPc : W0.heap[u0.heap.size + 1]? = some (.cells #[.int .u64 (wd p 0 : Int), .int .u64 (wd p 1 : Int), .int .u64 (wd p 2 : Int), .int .u64 (wd p 3 : Int)] 23) := by rw [eW0]; exact heap_new' (by simp) _
    have hOw := hO0.trans oW0 (fun _ _ c => c)
    have HVs := Lib.hid (fun W (h : Off (fun _ => False) W0 W) => (w1.off hOw (fun _ _ _ c => c)).off h (fun _ _ _ c => c))
    have HT0 := Lib.hid (fun W (h : Off (fun _ => False) W0 W) => (hT.off hOw).off h)
    have HPk := Lib.hid hPc
    have HFk := Lib.hid hFc
    have HOw := Lib.hid hOw
    have HW0 := Lib.hid eW0
    clear hO1 hO0 hFc hPc eW0 oW0 hOw
    go_wp2_with fail
    rw [← HW0.out]
    go_loopw [7, 26] (fun v i wr => ∃ k : Nat, k ≤ n1 ∧ i = .int .i64 (k : Int) ∧ (∃ a c, v = .slice a k c ∧ wr.ownsRow W0.heap.size 24 4 v k (flat4 (ys.take k))) ∧ Off (fun _ => False) W0 wr) (fun _ i _ => n1 - (intOf i).toNat)
    case atStart => exact ⟨0, Nat.zero_le _, rfl, ⟨none, 0, rfl, World.ownsRow_nil _ _ _ _⟩, Off.refl _ _⟩
    case round =>
      obtain ⟨k, hk, rfl, ⟨va, vc, rfl, hown⟩, hO⟩ := hrel
      by_cases hlt : k < n1
      · obtain ⟨x, hx⟩ : ∃ x, xs1[k]? = some x := ⟨_, List.getElem?_eq_getElem (by have := HLn.out; omega)⟩
        have hxR : x < R256 := HXs.out x (List.mem_of_getElem? hx)
        obtain ⟨b, off, ha, _, c0, c1, c2, c3⟩ := (HVs.out wr hO).get hx
        subst ha
        obtain ⟨m, hm⟩ : ∃ m, m = x % p := ⟨_, rfl⟩
        obtain ⟨z, hz⟩ : ∃ z, z = fm p m := ⟨_, rfl⟩
        have hyk : ys[k]? = some z := by rw [HYs.out, List.getElem?_map, hx, hz, hm]; rfl
        have HYt := Lib.hid (show ys.take (k + 1) = ys.take k ++ [z] by
          obtain ⟨hlk, hxk⟩ := List.getElem?_eq_some_iff.1 hyk
          rw [List.take_succ_eq_append_getElem hlk, hxk])
        have FMx := Lib.hid (FMa.out x m hxR hm)
        have FFo := Lib.hid (FFa.out x m z hm hz)
        obtain ⟨W1, hW1⟩ : ∃ W1, W1 = wr.alloc (.cells #[.int .u64 (wd x 0 : Int), .int .u64 (wd x 1 : Int), .int .u64 (wd x 2 : Int), .int .u64 (wd x 3 : Int)] 23) := ⟨_, rfl⟩
        have hOa : Off (fun _ => False) wr W1 := by rw [hW1]; exact (Off.refl _ wr).alloc _
        have hxb : W1.heap[wr.heap.size]? = some (.cells #[.int .u64 (wd x 0 : Int), .int .u64 (wd x 1 : Int), .int .u64 (wd x 2 : Int), .int .u64 (wd x 3 : Int)] 23) := by rw [hW1]; exact heap_new' rfl _
        have hO1 := hO.trans hOa (fun _ _ c => c)
        have hpb := hO1.heap HPk.out (fun c => c)
        have HKx : Hid (∀ W, Off (fun _ => False) W1 W → (W.cell? ⟨u0.heap.size + 1, 0, none⟩ = some (.int .u64 (wd p 0 : Int)) ∧ W.cell? ⟨u0.heap.size + 1, 1, none⟩ = some (.int .u64 (wd p 1 : Int)) ∧ W.cell? ⟨u0.heap.size + 1, 2, none⟩ = some (.int .u64 (wd p 2 : Int)) ∧ W.cell? ⟨u0.heap.size + 1, 3, none⟩ = some (.int .u64 (wd p 3 : Int))) ∧ (W.cell? ⟨wr.heap.size, 0, none⟩ = some (.int .u64 (wd x 0 : Int)) ∧ W.cell? ⟨wr.heap.size, 1, none⟩ = some (.int .u64 (wd x 1 : Int)) ∧ W.cell? ⟨wr.heap.size, 2, none⟩ = some (.int .u64 (wd x 2 : Int)) ∧ W.cell? ⟨wr.heap.size, 3, none⟩ = some (.int .u64 (wd x 3 : Int))) ∧ Off (fun _ => False) W1 W) := Lib.hid (fun W h => ⟨cells4 (h.heap hpb (fun c => c)), cells4 (h.heap hxb (fun c => c)), h⟩)
        have HTW := Lib.hid (fun W (h : Off (fun _ => False) W1 W) => HT0.out W (hO1.trans h (fun _ _ c => c)))
        obtain ⟨L, hL⟩ : ∃ L, L = flat4 (ys.take k) := ⟨_, rfl⟩
        rw [← hL] at hown
        have HRow := Lib.hid (own_off hown hOa)
        have HW01 := Lib.hid hO1
        have hb0 : W0.heap.size ≤ W0.heap.size := Nat.le_refl _
        have hbase : W0.heap.size ≤ W1.heap.size := hO1.size
        have HL2 := Lib.hid hL
        have HW1 := Lib.hid hW1
        have hki : (k : Int) < (n1 : Int) := by omega
        have hwk : IntKind.i64.wrap ((k : Int) + 1) = (k : Int) + 1 := by rw [IntKind.wrap_i64]; omega
        clear hx hxR hyk hm hz hown hO hOa hxb hO1 hpb hL hW1
        go_upto_region 8 with fail
        rw [← HW1.out]
        clear c0 c1 c2 c3
        refine wp_region_inv (fun a0 l a' w' => ∃ (u30 : Value) (u31 : Value) (u32 : Value) (u33 : Value) (u34 : Value) (u35 : Value) (u36 : Value) (u37 : Value) (u7 : Value) (B : Nat), a' = (Act.put (Act.put (Act.put (Act.put (Act.put (Act.put (Act.put (Act.put (Act.put a0 (some 30) u30) (some 31) u31) (some 32) u32) (some 33) u33) (some 34) u34) (some 35) u35) (some 36) u36) (some 37) u37) (some 7) u7) ∧ Slot l 0 u30 (.slice va k vc) ∧ Slot l 1 u31 (V p) ∧ Slot l 2 u32 (V p) ∧ Slot l 3 u33 (V x) ∧ Slot l 4 u34 (V m) ∧ Slot l 5 u35 (V z) ∧ (l 6 = true → u36 = .slice (some ⟨B, 0, none⟩) 1 1 ∧ (l 7 = false → w'.heap[B]? = some (.cells #[.int .u64 (wd z 0 : Int), .int .u64 (wd z 1 : Int), .int .u64 (wd z 2 : Int), .int .u64 (wd z 3 : Int)] 24))) ∧ (l 7 = false → w'.ownsRow W0.heap.size 24 4 (.slice va k vc) k L ∧ Off (fun _ => False) W1 w') ∧ (l 7 = true → w'.ownsRow W0.heap.size 24 4 u37 (k + 1) (L ++ words4 z) ∧ Off (fun _ => False) W0 w') ∧ ((l 8 = true → u7 = u37) ∧ (l 8 = false → u7 = .slice va k vc)) ∧ Dep l 0 7 ∧ Dep l 6 7 ∧ Dep l 5 6 ∧ Dep l 1 5 ∧ Dep l 4 5 ∧ Dep l 2 4 ∧ Dep l 3 4 ∧ Dep l 7 8) (by kernel_rfl) (by kernel_rfl) ?_ ⟨?_, ?_, ?_, ?_, ?_, ?_, ?_, ?_, ?_, trivial⟩ ?_
        · refine ⟨?z30, ?z31, ?z32, ?z33, ?z34, ?z35, ?z36, ?z37, (.slice va k vc), 0, ?fr, Slot.start _ _ _, Slot.start _ _ _, Slot.start _ _ _, Slot.start _ _ _, Slot.start _ _ _, Slot.start _ _ _, (fun h => by cases h), (fun _ => ⟨HRow.out, (Off.refl _ W1).drew⟩), (fun h => by cases h), ⟨fun h => (by cases h), fun _ => rfl⟩, Dep.start _ _, Dep.start _ _, Dep.start _ _, Dep.start _ _, Dep.start _ _, Dep.start _ _, Dep.start _ _, Dep.start _ _⟩
          case fr => first | (simp only [Act.put, List.setIfInBounds_toArray, List.set_cons_zero, List.set_cons_succ]; rfl) | simp only [Act.put, List.setIfInBounds_toArray, List.set_cons_zero, List.set_cons_succ]
        · (
            intro l a wr hI hl hd K' hK
            obtain ⟨u30, u31, u32, u33, u34, u35, u36, u37, u7, B, ha, s0, s1, s2, s3, s4, s5, hB, hN, hA, h8, P0_7, P6_7, P5_6, P1_5, P4_5, P2_4, P3_4, P7_8⟩ := hI
            simp only [Act.put, List.setIfInBounds_toArray, List.set_cons_zero, List.set_cons_succ] at ha
            have h7 := (P0_7 hl)
            have hO := (hN h7).2
            have q8 := h8.2 (P7_8 h7)
            subst ha q8
            go_simp
            refine hK.out _ _ ⟨_, _, _, _, _, _, _, _, _, B, ?_, Slot.new _ _ _, s1.keep rfl, s2.keep rfl, s3.keep rfl, s4.keep rfl, s5.keep rfl, (fun h => by obtain ⟨h1, h2⟩ := hB (by rw [upd_ne _ (by decide)] at h; exact h); exact ⟨h1, fun h' => h2 (by rw [upd_ne _ (by decide)] at h'; exact h')⟩), (fun h => hN (by rw [upd_ne _ (by decide)] at h; exact h)), (fun h => by rw [upd_ne _ (by decide), h7] at h; cases h), ⟨fun h => h8.1 (by rw [upd_ne _ (by decide)] at h; exact h), fun h => h8.2 (by rw [upd_ne _ (by decide)] at h; exact h)⟩, P0_7.keep rfl, P6_7.keep rfl, P5_6.keep rfl, P1_5.keep rfl, P4_5.keep rfl, P2_4.keep rfl, P3_4.keep rfl, P7_8.keep rfl⟩
            simp only [Act.put, List.setIfInBounds_toArray, List.set_cons_zero, List.set_cons_succ])
        · (
            intro l a wr hI hl hd K' hK
            obtain ⟨u30, u31, u32, u33, u34, u35, u36, u37, u7, B, ha, s0, s1, s2, s3, s4, s5, hB, hN, hA, h8, P0_7, P6_7, P5_6, P1_5, P4_5, P2_4, P3_4, P7_8⟩ := hI
            simp only [Act.put, List.setIfInBounds_toArray, List.set_cons_zero, List.set_cons_succ] at ha
            have h7 := (P6_7 (P5_6 (P1_5 hl)))
            have hO := (hN h7).2
            subst ha
            have hc := HKx.out wr hO
            have p0 := hc.1.1
            have p1 := hc.1.2.1
            have p2 := hc.1.2.2.1
            have p3 := hc.1.2.2.2
            clear hc
            go_simp
            refine hK.out _ _ ⟨_, _, _, _, _, _, _, _, _, B, ?_, s0.keep rfl, Slot.new _ _ _, s2.keep rfl, s3.keep rfl, s4.keep rfl, s5.keep rfl, (fun h => by obtain ⟨h1, h2⟩ := hB (by rw [upd_ne _ (by decide)] at h; exact h); exact ⟨h1, fun h' => h2 (by rw [upd_ne _ (by decide)] at h'; exact h')⟩), (fun h => hN (by rw [upd_ne _ (by decide)] at h; exact h)), (fun h => by rw [upd_ne _ (by decide), h7] at h; cases h), ⟨fun h => h8.1 (by rw [upd_ne _ (by decide)] at h; exact h), fun h => h8.2 (by rw [upd_ne _ (by decide)] at h; exact h)⟩, P0_7.keep rfl, P6_7.keep rfl, P5_6.keep rfl, P1_5.keep rfl, P4_5.keep rfl, P2_4.keep rfl, P3_4.keep rfl, P7_8.keep rfl⟩
            simp only [Act.put, List.setIfInBounds_toArray, List.set_cons_zero, List.set_cons_succ])
        · (
            intro l a wr hI hl hd K' hK
            obtain ⟨u30, u31, u32, u33, u34, u35, u36, u37, u7, B, ha, s0, s1, s2, s3, s4, s5, hB, hN, hA, h8, P0_7, P6_7, P5_6, P1_5, P4_5, P2_4, P3_4, P7_8⟩ := hI
            simp only [Act.put, List.setIfInBounds_toArray, List.set_cons_zero, List.set_cons_succ] at ha
            have h7 := (P6_7 (P5_6 (P4_5 (P2_4 hl))))
            have hO := (hN h7).2
            subst ha
            have hc := HKx.out wr hO
            have p0 := hc.1.1
            have p1 := hc.1.2.1
            have p2 := hc.1.2.2.1
            have p3 := hc.1.2.2.2
            clear hc
            go_simp
            refine hK.out _ _ ⟨_, _, _, _, _, _, _, _, _, B, ?_, s0.keep rfl, s1.keep rfl, Slot.new _ _ _, s3.keep rfl, s4.keep rfl, s5.keep rfl, (fun h => by obtain ⟨h1, h2⟩ := hB (by rw [upd_ne _ (by decide)] at h; exact h); exact ⟨h1, fun h' => h2 (by rw [upd_ne _ (by decide)] at h'; exact h')⟩), (fun h => hN (by rw [upd_ne _ (by decide)] at h; exact h)), (fun h => by rw [upd_ne _ (by decide), h7] at h; cases h), ⟨fun h => h8.1 (by rw [upd_ne _ (by decide)] at h; exact h), fun h => h8.2 (by rw [upd_ne _ (by decide)] at h; exact h)⟩, P0_7.keep rfl, P6_7.keep rfl, P5_6.keep rfl, P1_5.keep rfl, P4_5.keep rfl, P2_4.keep rfl, P3_4.keep rfl, P7_8.keep rfl⟩
            simp only [Act.put, List.setIfInBounds_toArray, List.set_cons_zero, List.set_cons_succ])
        · (
            intro l a wr hI hl hd K' hK
            obtain ⟨u30, u31, u32, u33, u34, u35, u36, u37, u7, B, ha, s0, s1, s2, s3, s4, s5, hB, hN, hA, h8, P0_7, P6_7, P5_6, P1_5, P4_5, P2_4, P3_4, P7_8⟩ := hI
            simp only [Act.put, List.setIfInBounds_toArray, List.set_cons_zero, List.set_cons_succ] at ha
            have h7 := (P6_7 (P5_6 (P4_5 (P3_4 hl))))
            have hO := (hN h7).2
            subst ha
            have hc := HKx.out wr hO
            have p0 := hc.2.1.1
            have p1 := hc.2.1.2.1
            have p2 := hc.2.1.2.2.1
            have p3 := hc.2.1.2.2.2
            clear hc
            go_simp
            refine hK.out _ _ ⟨_, _, _, _, _, _, _, _, _, B, ?_, s0.keep rfl, s1.keep rfl, s2.keep rfl, Slot.new _ _ _, s4.keep rfl, s5.keep rfl, (fun h => by obtain ⟨h1, h2⟩ := hB (by rw [upd_ne _ (by decide)] at h; exact h); exact ⟨h1, fun h' => h2 (by rw [upd_ne _ (by decide)] at h'; exact h')⟩), (fun h => hN (by rw [upd_ne _ (by decide)] at h; exact h)), (fun h => by rw [upd_ne _ (by decide), h7] at h; cases h), ⟨fun h => h8.1 (by rw [upd_ne _ (by decide)] at h; exact h), fun h => h8.2 (by rw [upd_ne _ (by decide)] at h; exact h)⟩, P0_7.keep rfl, P6_7.keep rfl, P5_6.keep rfl, P1_5.keep rfl, P4_5.keep rfl, P2_4.keep rfl, P3_4.keep rfl, P7_8.keep rfl⟩
            simp only [Act.put, List.setIfInBounds_toArray, List.set_cons_zero, List.set_cons_succ])
        · (
            intro l a wr hI hl hd K' hK
            obtain ⟨u30, u31, u32, u33, u34, u35, u36, u37, u7, B, ha, s0, s1, s2, s3, s4, s5, hB, hN, hA, h8, P0_7, P6_7, P5_6, P1_5, P4_5, P2_4, P3_4, P7_8⟩ := hI
            simp only [Act.put, List.setIfInBounds_toArray, List.set_cons_zero, List.set_cons_succ] at ha
            have q2 := s2 (hd 2 (by decide))
            have q3 := s3 (hd 3 (by decide))
            have h7 := (P6_7 (P5_6 (P4_5 hl)))
            have hO := (hN h7).2
            subst ha q2 q3
            go_simp
            refine (held_inv (FMx.out wr (HTW.out wr hO)) hO).mono ?_
            rintro e w1 ⟨rfl, hO1, hOW⟩
            go_wp2_with fail
            refine hK.out _ _ ⟨_, _, _, _, _, _, _, _, _, B, ?_, s0.keep rfl, s1.keep rfl, s2.keep rfl, s3.keep rfl, Slot.new _ _ _, s5.keep rfl, (fun h => by obtain ⟨h1, h2⟩ := hB (by rw [upd_ne _ (by decide)] at h; exact h); exact ⟨h1, fun h' => hOW.heap (h2 (by rw [upd_ne _ (by decide)] at h'; exact h')) (fun c => c)⟩), (fun _ => ⟨own_off (hN h7).1 hOW, hO1⟩), (fun h => by rw [upd_ne _ (by decide), h7] at h; cases h), ⟨fun h => h8.1 (by rw [upd_ne _ (by decide)] at h; exact h), fun h => h8.2 (by rw [upd_ne _ (by decide)] at h; exact h)⟩, P0_7.keep rfl, P6_7.keep rfl, P5_6.keep rfl, P1_5.keep rfl, P4_5.keep rfl, Dep.at (hd 2 (by decide)), Dep.at (hd 3 (by decide)), P7_8.keep rfl⟩
            simp only [Act.put, List.setIfInBounds_toArray, List.set_cons_zero, List.set_cons_succ])
        · (
            intro l a wr hI hl hd K' hK
            obtain ⟨u30, u31, u32, u33, u34, u35, u36, u37, u7, B, ha, s0, s1, s2, s3, s4, s5, hB, hN, hA, h8, P0_7, P6_7, P5_6, P1_5, P4_5, P2_4, P3_4, P7_8⟩ := hI
            simp only [Act.put, List.setIfInBounds_toArray, List.set_cons_zero, List.set_cons_succ] at ha
            have q1 := s1 (hd 1 (by decide))
            have q4 := s4 (hd 4 (by decide))
            have h7 := (P6_7 (P5_6 hl))
            have hO := (hN h7).2
            subst ha q1 q4
            go_simp
            refine (held_inv (FFo.out wr (HTW.out wr hO)) hO).mono ?_
            rintro e w1 ⟨rfl, hO1, hOW⟩
            go_wp2_with fail
            refine hK.out _ _ ⟨_, _, _, _, _, _, _, _, _, B, ?_, s0.keep rfl, s1.keep rfl, s2.keep rfl, s3.keep rfl, s4.keep rfl, Slot.new _ _ _, (fun h => by obtain ⟨h1, h2⟩ := hB (by rw [upd_ne _ (by decide)] at h; exact h); exact ⟨h1, fun h' => hOW.heap (h2 (by rw [upd_ne _ (by decide)] at h'; exact h')) (fun c => c)⟩), (fun _ => ⟨own_off (hN h7).1 hOW, hO1⟩), (fun h => by rw [upd_ne _ (by decide), h7] at h; cases h), ⟨fun h => h8.1 (by rw [upd_ne _ (by decide)] at h; exact h), fun h => h8.2 (by rw [upd_ne _ (by decide)] at h; exact h)⟩, P0_7.keep rfl, P6_7.keep rfl, P5_6.keep rfl, Dep.at (hd 1 (by decide)), Dep.at (hd 4 (by decide)), P2_4.keep rfl, P3_4.keep rfl, P7_8.keep rfl⟩
            simp only [Act.put, List.setIfInBounds_toArray, List.set_cons_zero, List.set_cons_succ])
        · (
            intro l a wr hI hl hd K' hK
            obtain ⟨u30, u31, u32, u33, u34, u35, u36, u37, u7, B, ha, s0, s1, s2, s3, s4, s5, hB, hN, hA, h8, P0_7, P6_7, P5_6, P1_5, P4_5, P2_4, P3_4, P7_8⟩ := hI
            simp only [Act.put, List.setIfInBounds_toArray, List.set_cons_zero, List.set_cons_succ] at ha
            have q5 := s5 (hd 5 (by decide))
            have h7 := (P6_7 hl)
            have hO := (hN h7).2
            subst ha q5
            go_simp
            refine hK.out _ _ ⟨_, _, _, _, _, _, _, _, _, wr.heap.size, ?_, s0.keep rfl, s1.keep rfl, s2.keep rfl, s3.keep rfl, s4.keep rfl, s5.keep rfl, (fun _ => ⟨rfl, fun _ => heap_new' rfl _⟩), (fun _ => ⟨own_off (hN h7).1 ((Off.refl _ wr).alloc _), hO.alloc _⟩), (fun h => by rw [upd_ne _ (by decide), h7] at h; cases h), ⟨fun h => h8.1 (by rw [upd_ne _ (by decide)] at h; exact h), fun h => h8.2 (by rw [upd_ne _ (by decide)] at h; exact h)⟩, P0_7.keep rfl, P6_7.keep rfl, Dep.at (hd 5 (by decide)), P1_5.keep rfl, P4_5.keep rfl, P2_4.keep rfl, P3_4.keep rfl, P7_8.keep rfl⟩
            simp only [Act.put, List.setIfInBounds_toArray, List.set_cons_zero, List.set_cons_succ])
        · (
            intro l a wr hI hl hd K' hK
            obtain ⟨u30, u31, u32, u33, u34, u35, u36, u37, u7, B, ha, s0, s1, s2, s3, s4, s5, hB, hN, hA, h8, P0_7, P6_7, P5_6, P1_5, P4_5, P2_4, P3_4, P7_8⟩ := hI
            simp only [Act.put, List.setIfInBounds_toArray, List.set_cons_zero, List.set_cons_succ] at ha
            have q0 := s0 (hd 0 (by decide))
            have hB6 := hB (hd 6 (by decide))
            have q6 := hB6.1
            subst ha q0 q6
            obtain ⟨hr7, hO⟩ := hN hl
            have hcb := hB6.2 hl
            obtain ⟨v', w1, hrun, ho1, hg1, _, _⟩ := run_append_own_at (P := Tryd.prog) wr W0.heap.size 38 38 24 i0' _ 4 32 Tryd.underlying38 hi hz0 hz1 hz2 rfl (by decide) (.slice va k vc) k L hr7 ⟨B, 0, none⟩ 1 1 (words4 z) rfl (words4_at hcb) (words4_one z) (by unfold maxLen; omega) (by omega) (Nat.le_trans hbase hO.size)
            have hO1 : Off (fun _ => False) W0 w1 := grown_off (HW01.out.trans hO (fun _ _ c => c)) hb0 hr7 hg1
            rw [if_pos (by rfl)]
            refine append_oper rfl rfl rfl hrun ?_
            refine hK.out _ _ ⟨_, _, _, _, _, _, _, _, _, B, ?_, s0.keep rfl, s1.keep rfl, s2.keep rfl, s3.keep rfl, s4.keep rfl, s5.keep rfl, (fun _ => ⟨rfl, fun h => by rw [upd_same] at h; cases h⟩), (fun h => by rw [upd_same] at h; cases h), (fun _ => ⟨ho1, hO1⟩), ⟨fun h => (by rw [upd_ne _ (by decide), P7_8 hl] at h <;> cases h), fun h => h8.2 (by rw [upd_ne _ (by decide)] at h; exact h)⟩, Dep.at (hd 0 (by decide)), Dep.at (hd 6 (by decide)), P5_6.keep rfl, P1_5.keep rfl, P4_5.keep rfl, P2_4.keep rfl, P3_4.keep rfl, P7_8.keep rfl⟩
            simp only [Act.put, List.setIfInBounds_toArray, List.set_cons_zero, List.set_cons_succ])
        · (
            intro l a wr hI hl hd K' hK
            obtain ⟨u30, u31, u32, u33, u34, u35, u36, u37, u7, B, ha, s0, s1, s2, s3, s4, s5, hB, hN, hA, h8, P0_7, P6_7, P5_6, P1_5, P4_5, P2_4, P3_4, P7_8⟩ := hI
            simp only [Act.put, List.setIfInBounds_toArray, List.set_cons_zero, List.set_cons_succ] at ha
            subst ha
            go_simp
            refine hK.out _ _ ⟨_, _, _, _, _, _, _, _, _, B, ?_, s0.keep rfl, s1.keep rfl, s2.keep rfl, s3.keep rfl, s4.keep rfl, s5.keep rfl, (fun h => by obtain ⟨h1, h2⟩ := hB (by rw [upd_ne _ (by decide)] at h; exact h); exact ⟨h1, fun h' => h2 (by rw [upd_ne _ (by decide)] at h'; exact h')⟩), (fun h => hN (by rw [upd_ne _ (by decide)] at h; exact h)), (fun h => hA (by rw [upd_ne _ (by decide)] at h; exact h)), ⟨fun _ => rfl, fun h => by rw [upd_same] at h; cases h⟩, P0_7.keep rfl, P6_7.keep rfl, P5_6.keep rfl, P1_5.keep rfl, P4_5.keep rfl, P2_4.keep rfl, P3_4.keep rfl, Dep.at (hd 7 (by decide))⟩
            simp only [Act.put, List.setIfInBounds_toArray, List.set_cons_zero, List.set_cons_succ])
        · intro l a wc hI hd
          obtain ⟨u30, u31, u32, u33, u34, u35, u36, u37, u7, B, ha, s0, s1, s2, s3, s4, s5, hB, hN, hA, h8, P0_7, P6_7, P5_6, P1_5, P4_5, P2_4, P3_4, P7_8⟩ := hI
          simp only [Act.put, List.setIfInBounds_toArray, List.set_cons_zero, List.set_cons_succ] at ha
          have q0 := s0 (hd 0 (by decide))
          have q1 := s1 (hd 1 (by decide))
          have q2 := s2 (hd 2 (by decide))
          have q3 := s3 (hd 3 (by decide))
          have q4 := s4 (hd 4 (by decide))
          have q5 := s5 (hd 5 (by decide))
          have q6 := (hB (hd 6 (by decide))).1
          have q8 := h8.1 (hd 8 (by decide))
          obtain ⟨hown, hO⟩ := hA (hd 7 (by decide))
          subst ha q0 q1 q2 q3 q4 q5 q6 q8
          clear hd s0 s1 s2 s3 s4 s5 hB hN hA h8 P0_7 P6_7 P5_6 P1_5 P4_5 P2_4 P3_4 P7_8
          obtain ⟨g', cap', rfl⟩ := ownsRow_succ hown
          have HRn := Lib.hid (show wc.ownsRow W0.heap.size 24 4 (.slice (some ⟨g', 0, none⟩) (k + 1) cap') (k + 1) (flat4 (ys.take (k + 1))) by rw [HYt.out, flat4_append, ← HL2.out]; exact hown)
          have HOn := Lib.hid hO
          clear hown hO
          go_wp2
          go_roundw
          case rel => exact ⟨k + 1, by omega, by simp, ⟨_, _, rfl, HRn.out⟩, HOn.out⟩
          case measure => simp [intOf] <;> omega
      · obtain rfl : k = n1 := by omega
        have HLx := Lib.hid (ls_of_own (ys := ys) (by rw [List.take_of_length_le (by rw [HYs.out, List.length_map, HLn.out]; exact Nat.le_refl _)] at hown; exact hown) (by rw [HYs.out, List.length_map]; exact HLn.out) (by omega))
        have hO' := hO
        have HOr := Lib.hid hO
        have hB := fun W' (h : Off (fun _ => False) W0 W') (hx : LsAt W' (.slice va k vc) ys (fun b => W0.heap.size ≤ b ∧ b < W'.heap.size)) => batch_any HF.out (xs1.map (fun a => a % p)) (fun v hv => by obtain ⟨a, _, rfl⟩ := List.mem_map.1 hv; exact Nat.mod_lt _ HF.out.mp.pos) k vc va (by rw [List.length_map]; exact HLn.out) (by omega) none [] (fun _ => False) (fun b => W0.heap.size ≤ b ∧ b < W'.heap.size) W'
          (by rw [HYs.out] at hx; rw [List.map_map]; exact hx) (fun b hb => ⟨hb.2, fun c => c⟩) (Tp.none W') (by simp)
        have HBt := Lib.hid (hB wr hO' HLx.out)
        obtain ⟨f0, f1, f2, f3, f4, f5, f6, f7, f8, f9, f10, f11, f12, f13⟩ := fv_cells (hO.heap HFk.out (fun c => c))
        clear hown hO hO' hB
        go_wp2_with fail
        refine HBt.out.mono ?_
        rintro e u2 ⟨ga, gc, rfl, hLg, _, hO2⟩
        clear f0 f1 f2 f3 f4 f5 f6 f7 f8 f9 f10 f11 f12 f13 HBt
        have HOu := Lib.hid (HOr.out.trans hO2 (fun _ _ c => c))
        have HLg := Lib.hid hLg
        have HLy := Lib.hid (HLx.out.off hO2 (fun _ _ _ c => c))
        have hkk : ((k : Int) == (k : Int)) = true := by simp
        clear hLg hO2 HLx
        go_wp2_with fail
        go_loopw [49] (fun i wr => ∃ j : Nat, j ≤ k ∧ i = .int .i64 (j : Int) ∧ Off (fun _ => False) u2 wr) (fun i _ => k - (intOf i).toNat)
        case atStart => exact ⟨0, Nat.zero_le _, rfl, Off.refl _ _⟩
        case round =>
          obtain ⟨j, hj, rfl, hO⟩ := hrel
          by_cases hlt2 : j < k
          · obtain ⟨v, hv⟩ : ∃ v, v = (xs1.map (fun a => a % p)).getD j 0 := ⟨_, rfl⟩
            have hlen : (xs1.map (fun a => a % p)).length = k := by rw [List.length_map]; exact HLn.out.symm
            have hvs : ∀ v ∈ xs1.map (fun a => a % p), v < p := fun v hv => by obtain ⟨a, _, rfl⟩ := List.mem_map.1 hv; exact Nat.mod_lt _ HF.out.mp.pos
            have hvp : v < p := by rw [hv]; exact getD_lt HF.out.mp.pos hvs j
            obtain ⟨q, hq⟩ : ∃ q, q = batV p (xs1.map (fun a => a % p)) j := ⟨_, rfl⟩
            have hqp : q < p := by rw [hq]; exact batV_lt HF.out.mp.one _ _
            obtain ⟨y, hy⟩ : ∃ y, y = fm p v := ⟨_, rfl⟩
            obtain ⟨bt, hbt⟩ : ∃ bt, bt = fm p q := ⟨_, rfl⟩
            have hyj : ys[j]? = some y := by
              rw [HYs.out, hy, hv, List.getElem?_map, List.getD_eq_getElem?_getD, List.getElem?_map]
              obtain ⟨x, hx⟩ : ∃ x, xs1[j]? = some x := ⟨_, List.getElem?_eq_getElem (by have := HLn.out; omega)⟩
              rw [hx]; rfl
            have hbj : ((batL p (xs1.map (fun a => a % p))).map (fm p))[j]? = some bt := by rw [List.getElem?_map, batL_get (by omega), hbt, hq]; rfl
            obtain ⟨hodd, hfer, hp3⟩ := fld_more HF.out
            have hyp : y < p := by rw [hy]; exact fm_lt HF.out.mp.pos _
            have hbp : bt < p := by rw [hbt]; exact fm_lt HF.out.mp.pos _
            have FV1 := Lib.hid (show ∀ W, TabAt W → Calls Tryd.prog 15 #[V p, V y] W fun e w' => e = .returned (V v) ∧ Off (fun _ => False) W w' from fun W _ => by have h := value_any p y HF.out.mp hodd hyp W; rw [hy, mm_one HF.out.mp, Nat.mod_eq_of_lt hvp, ← hy] at h; exact h)
            have FV2 := Lib.hid (show ∀ W, TabAt W → Calls Tryd.prog 15 #[V p, V bt] W fun e w' => e = .returned (V q) ∧ Off (fun _ => False) W w' from fun W _ => by have h := value_any p bt HF.out.mp hodd hbp W; rw [hbt, mm_one HF.out.mp, Nat.mod_eq_of_lt hqp, ← hbt] at h; exact h)
            have hvR : v < R256 := Nat.lt_trans hvp HF.out.mp.lt
            have hqR : q < R256 := Nat.lt_trans hqp HF.out.mp.lt
            have hz0' : v = 0 → q = v := fun h => by rw [h, hq]; exact batV_zero _ _ (by rw [← hv]; exact h)
            have hi0' : v ≠ 0 → v * q % p = 1 := fun h => by rw [hq, hv]; exact batV_inv HF.out.mp.one hfer hvs (by omega) (by rw [← hv]; exact h)
            have FM1 := Lib.hid (show v ≠ 0 → ∀ W, Calls Tryd.prog 17 #[V p, V v, V q] W fun e w' => e = .returned (.agg #[.int .u64 1, .int .u64 0, .int .u64 0, .int .u64 0]) ∧ Off (fun _ => False) W w' from fun hc W => by have h := mod_mul p v q HF.out.mp.lt HF.out.mp.one hvp hqR W; rw [hi0' hc, lit_small 1 (by decide)] at h; exact h)
            have EZ := Lib.hid (show ∀ W, (Op.equalIn 10000 23 (V v) (.agg #[.int .u64 0, .int .u64 0, .int .u64 0, .int .u64 0])).run Tryd.prog W = .ok (eqN v 0) W from fun W => by have h := equalIn_num hvR (show 0 < R256 by decide) W; rw [lit_small 0 (by decide)] at h; exact h)
            have HZ0 := Lib.hid hz0'
            obtain ⟨gb, goff, hga, _, c0, c1, c2, c3⟩ := (HLg.out.off hO (fun _ _ _ c => c)).get hbj
            subst hga
            obtain ⟨xb, xoff, hxa, _, x0, x1, x2, x3⟩ := (HLy.out.off hO (fun _ _ _ c => c)).get hyj
            subst hxa
            obtain ⟨W5, hW5⟩ : ∃ W5, W5 = wr.alloc (.cells #[.int .u64 (wd bt 0 : Int), .int .u64 (wd bt 1 : Int), .int .u64 (wd bt 2 : Int), .int .u64 (wd bt 3 : Int)] 24) := ⟨_, rfl⟩
            have hOa : Off (fun _ => False) wr W5 := by rw [hW5]; exact (Off.refl _ wr).alloc _
            have hbb : W5.heap[wr.heap.size]? = some (.cells #[.int .u64 (wd bt 0 : Int), .int .u64 (wd bt 1 : Int), .int .u64 (wd bt 2 : Int), .int .u64 (wd bt 3 : Int)] 24) := by rw [hW5]; exact heap_new' rfl _
            have hO5 := hO.trans hOa (fun _ _ c => c)
            have hpb := (HOu.out.trans hO5 (fun _ _ c => c)).heap HPk.out (fun c => c)
            have hxe : elAt W5 xb (xoff + j * 4) y := (show elAt wr xb (xoff + j * 4) y from ⟨x0, x1, x2, x3⟩).off hOa (fun c => c)
            have HK16 : Hid (∀ W, Off (fun _ => False) W5 W → (W.cell? ⟨u0.heap.size + 1, 0, none⟩ = some (.int .u64 (wd p 0 : Int)) ∧ W.cell? ⟨u0.heap.size + 1, 1, none⟩ = some (.int .u64 (wd p 1 : Int)) ∧ W.cell? ⟨u0.heap.size + 1, 2, none⟩ = some (.int .u64 (wd p 2 : Int)) ∧ W.cell? ⟨u0.heap.size + 1, 3, none⟩ = some (.int .u64 (wd p 3 : Int))) ∧ (W.cell? ⟨xb, xoff + j * 4, none⟩ = some (.int .u64 (wd y 0 : Int)) ∧ W.cell? ⟨xb, xoff + j * 4 + 1, none⟩ = some (.int .u64 (wd y 1 : Int)) ∧ W.cell? ⟨xb, xoff + j * 4 + 2, none⟩ = some (.int .u64 (wd y 2 : Int)) ∧ W.cell? ⟨xb, xoff + j * 4 + 3, none⟩ = some (.int .u64 (wd y 3 : Int))) ∧ (W.cell? ⟨wr.heap.size, 0, none⟩ = some (.int .u64 (wd bt 0 : Int)) ∧ W.cell? ⟨wr.heap.size, 1, none⟩ = some (.int .u64 (wd bt 1 : Int)) ∧ W.cell? ⟨wr.heap.size, 2, none⟩ = some (.int .u64 (wd bt 2 : Int)) ∧ W.cell? ⟨wr.heap.size, 3, none⟩ = some (.int .u64 (wd bt 3 : Int))) ∧ Off (fun _ => False) W5 W) := Lib.hid (fun W h => ⟨cells4 (h.heap hpb (fun c => c)), hxe.off h (fun c => c), cells4 (h.heap hbb (fun c => c)), h⟩)
            have HTW := Lib.hid (fun W (h : Off (fun _ => False) W5 W) => HT0.out W ((HOu.out.trans hO5 (fun _ _ c => c)).trans h (fun _ _ c => c)))
            have HO5 := Lib.hid hO5
            have HPb := Lib.hid hpb
            have HW5 := Lib.hid hW5
            have hji : (j : Int) < (k : Int) := by omega
            have hwj : IntKind.i64.wrap ((j : Int) + 1) = (j : Int) + 1 := by rw [IntKind.wrap_i64]; omega
            have e4 : ∀ W, (Op.equalIn 10000 23 (.agg #[.int .u64 1, .int .u64 0, .int .u64 0, .int .u64 0]) (.agg #[.int .u64 1, .int .u64 0, .int .u64 0, .int .u64 0])).run Tryd.prog W = .ok true W := fun W => by rw [equalIn_four]; simp
            have e2 := equalIn_same
            clear hv hlen hvs hvp hq hqp hy hbt hyj hbj hodd hfer hp3 hyp hbp hvR hqR hz0' hi0' hO hOa hbb hO5 hpb hxe hW5 x0 x1 x2 x3
            go_upto_region 16 with fail
            rw [← HW5.out]
            clear c0 c1 c2 c3
            refine wp_region_inv (fun a0 l a' w' => ∃ (u54 : Value) (u55 : Value) (u56 : Value) (u57 : Value) (u58 : Value) (u59 : Value) (u60 : Value) (u61 : Value) (u62 : Value) (u13 : Value) (u14 : Value) (b13 : Nat) (b14 : Nat), a' = (Act.put (Act.put (Act.put (Act.put (Act.put (Act.put (Act.put (Act.put (Act.put (Act.put (Act.put a0 (some 54) u54) (some 55) u55) (some 56) u56) (some 57) u57) (some 58) u58) (some 59) u59) (some 60) u60) (some 61) u61) (some 62) u62) (some 13) u13) (some 14) u14) ∧ Slot l 0 u54 (V p) ∧ Slot l 1 u55 (.slice (some ⟨xb, xoff, none⟩) k vc) ∧ Slot l 2 u56 (.int .i64 (j : Int)) ∧ Slot l 3 u57 (.pointer (some ⟨xb, xoff + j * 4, none⟩)) ∧ Slot l 4 u58 (V y) ∧ Slot l 5 u59 (V v) ∧ Slot l 6 u60 (V p) ∧ Slot l 7 u61 (V bt) ∧ Slot l 8 u62 (V q) ∧ Blk l 9 11 u13 b13 W5 w' (.cells #[.int .u64 0, .int .u64 0, .int .u64 0, .int .u64 0] 23) (.cells #[.int .u64 (wd v 0 : Int), .int .u64 (wd v 1 : Int), .int .u64 (wd v 2 : Int), .int .u64 (wd v 3 : Int)] 23) ∧ Blk l 10 12 u14 b14 W5 w' (.cells #[.int .u64 0, .int .u64 0, .int .u64 0, .int .u64 0] 23) (.cells #[.int .u64 (wd q 0 : Int), .int .u64 (wd q 1 : Int), .int .u64 (wd q 2 : Int), .int .u64 (wd q 3 : Int)] 23) ∧ Dif l 9 10 b13 b14 ∧ Off (fun _ => False) W5 w') (by kernel_rfl) (by kernel_rfl) ?_ ⟨?_, ?_, ?_, ?_, ?_, ?_, ?_, ?_, ?_, ?_, ?_, ?_, ?_, trivial⟩ ?_
            · refine ⟨?z54, ?z55, ?z56, ?z57, ?z58, ?z59, ?z60, ?z61, ?z62, ?z13, ?z14, 0, 0, ?fr, Slot.start _ _ _, Slot.start _ _ _, Slot.start _ _ _, Slot.start _ _ _, Slot.start _ _ _, Slot.start _ _ _, Slot.start _ _ _, Slot.start _ _ _, Slot.start _ _ _, Blk.start _ _ _ _ _ _ _ _, Blk.start _ _ _ _ _ _ _ _, Dif.start _ _ _ _, (Off.refl _ W5).drew⟩
              case fr => first | (simp only [Act.put, List.setIfInBounds_toArray, List.set_cons_zero, List.set_cons_succ]; rfl) | simp only [Act.put, List.setIfInBounds_toArray, List.set_cons_zero, List.set_cons_succ]
            · intro l a wr hI hl hd K' hK
              obtain ⟨u54, u55, u56, u57, u58, u59, u60, u61, u62, u13, u14, b13, b14, ha, s0, s1, s2, s3, s4, s5, s6, s7, s8, B9, B10, D9_10, hO⟩ := hI
              simp only [Act.put, List.setIfInBounds_toArray, List.set_cons_zero, List.set_cons_succ] at ha
              subst ha
              have hc := HK16.out wr hO
              have p0 := hc.1.1
              have p1 := hc.1.2.1
              have p2 := hc.1.2.2.1
              have p3 := hc.1.2.2.2
              clear hc
              go_simp
              refine hK.out _ _ ⟨_, _, _, _, _, _, _, _, _, _, _, _, _, ?_, Slot.new _ _ _, s1.keep rfl, s2.keep rfl, s3.keep rfl, s4.keep rfl, s5.keep rfl, s6.keep rfl, s7.keep rfl, s8.keep rfl, B9.keep (Off.refl _ wr) rfl rfl, B10.keep (Off.refl _ wr) rfl rfl, D9_10.keep rfl rfl, hO⟩
              simp only [Act.put, List.setIfInBounds_toArray, List.set_cons_zero, List.set_cons_succ]
            · intro l a wr hI hl hd K' hK
              obtain ⟨u54, u55, u56, u57, u58, u59, u60, u61, u62, u13, u14, b13, b14, ha, s0, s1, s2, s3, s4, s5, s6, s7, s8, B9, B10, D9_10, hO⟩ := hI
              simp only [Act.put, List.setIfInBounds_toArray, List.set_cons_zero, List.set_cons_succ] at ha
              subst ha
              go_simp
              refine hK.out _ _ ⟨_, _, _, _, _, _, _, _, _, _, _, _, _, ?_, s0.keep rfl, Slot.new _ _ _, s2.keep rfl, s3.keep rfl, s4.keep rfl, s5.keep rfl, s6.keep rfl, s7.keep rfl, s8.keep rfl, B9.keep (Off.refl _ wr) rfl rfl, B10.keep (Off.refl _ wr) rfl rfl, D9_10.keep rfl rfl, hO⟩
              simp only [Act.put, List.setIfInBounds_toArray, List.set_cons_zero, List.set_cons_succ]
            · intro l a wr hI hl hd K' hK
              obtain ⟨u54, u55, u56, u57, u58, u59, u60, u61, u62, u13, u14, b13, b14, ha, s0, s1, s2, s3, s4, s5, s6, s7, s8, B9, B10, D9_10, hO⟩ := hI
              simp only [Act.put, List.setIfInBounds_toArray, List.set_cons_zero, List.set_cons_succ] at ha
              subst ha
              go_simp
              refine hK.out _ _ ⟨_, _, _, _, _, _, _, _, _, _, _, _, _, ?_, s0.keep rfl, s1.keep rfl, Slot.new _ _ _, s3.keep rfl, s4.keep rfl, s5.keep rfl, s6.keep rfl, s7.keep rfl, s8.keep rfl, B9.keep (Off.refl _ wr) rfl rfl, B10.keep (Off.refl _ wr) rfl rfl, D9_10.keep rfl rfl, hO⟩
              simp only [Act.put, List.setIfInBounds_toArray, List.set_cons_zero, List.set_cons_succ]
            · intro l a wr hI hl hd K' hK
              obtain ⟨u54, u55, u56, u57, u58, u59, u60, u61, u62, u13, u14, b13, b14, ha, s0, s1, s2, s3, s4, s5, s6, s7, s8, B9, B10, D9_10, hO⟩ := hI
              simp only [Act.put, List.setIfInBounds_toArray, List.set_cons_zero, List.set_cons_succ] at ha
              have q1 := s1 (hd 1 (by decide))
              have q2 := s2 (hd 2 (by decide))
              subst ha q1 q2
              go_simp
              refine hK.out _ _ ⟨_, _, _, _, _, _, _, _, _, _, _, _, _, ?_, s0.keep rfl, s1.keep rfl, s2.keep rfl, Slot.new _ _ _, s4.keep rfl, s5.keep rfl, s6.keep rfl, s7.keep rfl, s8.keep rfl, B9.keep (Off.refl _ wr) rfl rfl, B10.keep (Off.refl _ wr) rfl rfl, D9_10.keep rfl rfl, hO⟩
              simp only [Act.put, List.setIfInBounds_toArray, List.set_cons_zero, List.set_cons_succ]
            · intro l a wr hI hl hd K' hK
              obtain ⟨u54, u55, u56, u57, u58, u59, u60, u61, u62, u13, u14, b13, b14, ha, s0, s1, s2, s3, s4, s5, s6, s7, s8, B9, B10, D9_10, hO⟩ := hI
              simp only [Act.put, List.setIfInBounds_toArray, List.set_cons_zero, List.set_cons_succ] at ha
              have q3 := s3 (hd 3 (by decide))
              subst ha q3
              have hc := HK16.out wr hO
              have p0 := hc.2.1.1
              have p1 := hc.2.1.2.1
              have p2 := hc.2.1.2.2.1
              have p3 := hc.2.1.2.2.2
              clear hc
              go_simp
              refine hK.out _ _ ⟨_, _, _, _, _, _, _, _, _, _, _, _, _, ?_, s0.keep rfl, s1.keep rfl, s2.keep rfl, s3.keep rfl, Slot.new _ _ _, s5.keep rfl, s6.keep rfl, s7.keep rfl, s8.keep rfl, B9.keep (Off.refl _ wr) rfl rfl, B10.keep (Off.refl _ wr) rfl rfl, D9_10.keep rfl rfl, hO⟩
              simp only [Act.put, List.setIfInBounds_toArray, List.set_cons_zero, List.set_cons_succ]
            · intro l a wr hI hl hd K' hK
              obtain ⟨u54, u55, u56, u57, u58, u59, u60, u61, u62, u13, u14, b13, b14, ha, s0, s1, s2, s3, s4, s5, s6, s7, s8, B9, B10, D9_10, hO⟩ := hI
              simp only [Act.put, List.setIfInBounds_toArray, List.set_cons_zero, List.set_cons_succ] at ha
              have q0 := s0 (hd 0 (by decide))
              have q4 := s4 (hd 4 (by decide))
              subst ha q0 q4
              go_simp
              refine (held_inv (FV1.out wr (HTW.out wr hO)) hO).mono ?_
              rintro e w1 ⟨rfl, hO1, hOW⟩
              go_wp2_with fail
              refine hK.out _ _ ⟨_, _, _, _, _, _, _, _, _, _, _, _, _, ?_, s0.keep rfl, s1.keep rfl, s2.keep rfl, s3.keep rfl, s4.keep rfl, Slot.new _ _ _, s6.keep rfl, s7.keep rfl, s8.keep rfl, B9.keep hOW rfl rfl, B10.keep hOW rfl rfl, D9_10.keep rfl rfl, hO1⟩
              simp only [Act.put, List.setIfInBounds_toArray, List.set_cons_zero, List.set_cons_succ]
            · intro l a wr hI hl hd K' hK
              obtain ⟨u54, u55, u56, u57, u58, u59, u60, u61, u62, u13, u14, b13, b14, ha, s0, s1, s2, s3, s4, s5, s6, s7, s8, B9, B10, D9_10, hO⟩ := hI
              simp only [Act.put, List.setIfInBounds_toArray, List.set_cons_zero, List.set_cons_succ] at ha
              subst ha
              have hc := HK16.out wr hO
              have p0 := hc.1.1
              have p1 := hc.1.2.1
              have p2 := hc.1.2.2.1
              have p3 := hc.1.2.2.2
              clear hc
              go_simp
              refine hK.out _ _ ⟨_, _, _, _, _, _, _, _, _, _, _, _, _, ?_, s0.keep rfl, s1.keep rfl, s2.keep rfl, s3.keep rfl, s4.keep rfl, s5.keep rfl, Slot.new _ _ _, s7.keep rfl, s8.keep rfl, B9.keep (Off.refl _ wr) rfl rfl, B10.keep (Off.refl _ wr) rfl rfl, D9_10.keep rfl rfl, hO⟩
              simp only [Act.put, List.setIfInBounds_toArray, List.set_cons_zero, List.set_cons_succ]
            · intro l a wr hI hl hd K' hK
              obtain ⟨u54, u55, u56, u57, u58, u59, u60, u61, u62, u13, u14, b13, b14, ha, s0, s1, s2, s3, s4, s5, s6, s7, s8, B9, B10, D9_10, hO⟩ := hI
              simp only [Act.put, List.setIfInBounds_toArray, List.set_cons_zero, List.set_cons_succ] at ha
              subst ha
              have hc := HK16.out wr hO
              have p0 := hc.2.2.1.1
              have p1 := hc.2.2.1.2.1
              have p2 := hc.2.2.1.2.2.1
              have p3 := hc.2.2.1.2.2.2
              clear hc
              go_simp
              refine hK.out _ _ ⟨_, _, _, _, _, _, _, _, _, _, _, _, _, ?_, s0.keep rfl, s1.keep rfl, s2.keep rfl, s3.keep rfl, s4.keep rfl, s5.keep rfl, s6.keep rfl, Slot.new _ _ _, s8.keep rfl, B9.keep (Off.refl _ wr) rfl rfl, B10.keep (Off.refl _ wr) rfl rfl, D9_10.keep rfl rfl, hO⟩
              simp only [Act.put, List.setIfInBounds_toArray, List.set_cons_zero, List.set_cons_succ]
            · intro l a wr hI hl hd K' hK
              obtain ⟨u54, u55, u56, u57, u58, u59, u60, u61, u62, u13, u14, b13, b14, ha, s0, s1, s2, s3, s4, s5, s6, s7, s8, B9, B10, D9_10, hO⟩ := hI
              simp only [Act.put, List.setIfInBounds_toArray, List.set_cons_zero, List.set_cons_succ] at ha
              have q6 := s6 (hd 6 (by decide))
              have q7 := s7 (hd 7 (by decide))
              subst ha q6 q7
              go_simp
              refine (held_inv (FV2.out wr (HTW.out wr hO)) hO).mono ?_
              rintro e w1 ⟨rfl, hO1, hOW⟩
              go_wp2_with fail
              refine hK.out _ _ ⟨_, _, _, _, _, _, _, _, _, _, _, _, _, ?_, s0.keep rfl, s1.keep rfl, s2.keep rfl, s3.keep rfl, s4.keep rfl, s5.keep rfl, s6.keep rfl, s7.keep rfl, Slot.new _ _ _, B9.keep hOW rfl rfl, B10.keep hOW rfl rfl, D9_10.keep rfl rfl, hO1⟩
              simp only [Act.put, List.setIfInBounds_toArray, List.set_cons_zero, List.set_cons_succ]
            · intro l a wr hI hl hd K' hK
              obtain ⟨u54, u55, u56, u57, u58, u59, u60, u61, u62, u13, u14, b13, b14, ha, s0, s1, s2, s3, s4, s5, s6, s7, s8, B9, B10, D9_10, hO⟩ := hI
              simp only [Act.put, List.setIfInBounds_toArray, List.set_cons_zero, List.set_cons_succ] at ha
              subst ha
              go_simp
              refine hK.out _ _ ⟨_, _, _, _, _, _, _, _, _, _, _, _, _, ?_, s0.keep rfl, s1.keep rfl, s2.keep rfl, s3.keep rfl, s4.keep rfl, s5.keep rfl, s6.keep rfl, s7.keep rfl, s8.keep rfl, B9.make hl rfl hO, B10.keep ((Off.refl _ wr).alloc _) rfl rfl, Dif.left B10 rfl, hO.alloc _⟩
              simp only [Act.put, List.setIfInBounds_toArray, List.set_cons_zero, List.set_cons_succ]
            · intro l a wr hI hl hd K' hK
              obtain ⟨u54, u55, u56, u57, u58, u59, u60, u61, u62, u13, u14, b13, b14, ha, s0, s1, s2, s3, s4, s5, s6, s7, s8, B9, B10, D9_10, hO⟩ := hI
              simp only [Act.put, List.setIfInBounds_toArray, List.set_cons_zero, List.set_cons_succ] at ha
              subst ha
              go_simp
              refine hK.out _ _ ⟨_, _, _, _, _, _, _, _, _, _, _, _, _, ?_, s0.keep rfl, s1.keep rfl, s2.keep rfl, s3.keep rfl, s4.keep rfl, s5.keep rfl, s6.keep rfl, s7.keep rfl, s8.keep rfl, B9.keep ((Off.refl _ wr).alloc _) rfl rfl, B10.make hl rfl hO, Dif.right B9 rfl, hO.alloc _⟩
              simp only [Act.put, List.setIfInBounds_toArray, List.set_cons_zero, List.set_cons_succ]
            · intro l a wr hI hl hd K' hK
              obtain ⟨u54, u55, u56, u57, u58, u59, u60, u61, u62, u13, u14, b13, b14, ha, s0, s1, s2, s3, s4, s5, s6, s7, s8, B9, B10, D9_10, hO⟩ := hI
              simp only [Act.put, List.setIfInBounds_toArray, List.set_cons_zero, List.set_cons_succ] at ha
              have h9 := hd 9 (by decide)
              have q9 := B9.ptr h9
              have q5 := s5 (hd 5 (by decide))
              subst ha q9 q5
              obtain ⟨⟨m0, m1, m2, m3⟩, fz, lt⟩ := zero_cells (B9.was h9 hl)
              go_simp
              refine hK.out _ _ ⟨_, _, _, _, _, _, _, _, _, _, _, _, _, ?_, s0.keep rfl, s1.keep rfl, s2.keep rfl, s3.keep rfl, s4.keep rfl, s5.keep rfl, s6.keep rfl, s7.keep rfl, s8.keep rfl, B9.put hl h9 rfl rfl, B10.far (vs := [.int .u64 (wd v 0 : Int), .int .u64 (wd v 1 : Int), .int .u64 (wd v 2 : Int), .int .u64 (wd v 3 : Int)]) rfl rfl (fun g => fun e => D9_10 h9 g e.symm), D9_10.keep rfl rfl, setCells_in hO (fun c => absurd c (Nat.not_lt.2 (B9.new h9))) [.int .u64 (wd v 0 : Int), .int .u64 (wd v 1 : Int), .int .u64 (wd v 2 : Int), .int .u64 (wd v 3 : Int)]⟩
              simp only [Act.put, List.setIfInBounds_toArray, List.set_cons_zero, List.set_cons_succ]
            · intro l a wr hI hl hd K' hK
              obtain ⟨u54, u55, u56, u57, u58, u59, u60, u61, u62, u13, u14, b13, b14, ha, s0, s1, s2, s3, s4, s5, s6, s7, s8, B9, B10, D9_10, hO⟩ := hI
              simp only [Act.put, List.setIfInBounds_toArray, List.set_cons_zero, List.set_cons_succ] at ha
              have h10 := hd 10 (by decide)
              have q10 := B10.ptr h10
              have q8 := s8 (hd 8 (by decide))
              subst ha q10 q8
              obtain ⟨⟨m0, m1, m2, m3⟩, fz, lt⟩ := zero_cells (B10.was h10 hl)
              go_simp
              refine hK.out _ _ ⟨_, _, _, _, _, _, _, _, _, _, _, _, _, ?_, s0.keep rfl, s1.keep rfl, s2.keep rfl, s3.keep rfl, s4.keep rfl, s5.keep rfl, s6.keep rfl, s7.keep rfl, s8.keep rfl, B9.far (vs := [.int .u64 (wd q 0 : Int), .int .u64 (wd q 1 : Int), .int .u64 (wd q 2 : Int), .int .u64 (wd q 3 : Int)]) rfl rfl (fun g => D9_10 g h10), B10.put hl h10 rfl rfl, D9_10.keep rfl rfl, setCells_in hO (fun c => absurd c (Nat.not_lt.2 (B10.new h10))) [.int .u64 (wd q 0 : Int), .int .u64 (wd q 1 : Int), .int .u64 (wd q 2 : Int), .int .u64 (wd q 3 : Int)]⟩
              simp only [Act.put, List.setIfInBounds_toArray, List.set_cons_zero, List.set_cons_succ]
            · intro l a wc hI hd
              obtain ⟨u54, u55, u56, u57, u58, u59, u60, u61, u62, u13, u14, b13, b14, ha, s0, s1, s2, s3, s4, s5, s6, s7, s8, B9, B10, D9_10, hO⟩ := hI
              simp only [Act.put, List.setIfInBounds_toArray, List.set_cons_zero, List.set_cons_succ] at ha
              have q0 := s0 (hd 0 (by decide))
              have q1 := s1 (hd 1 (by decide))
              have q2 := s2 (hd 2 (by decide))
              have q3 := s3 (hd 3 (by decide))
              have q4 := s4 (hd 4 (by decide))
              have q5 := s5 (hd 5 (by decide))
              have q6 := s6 (hd 6 (by decide))
              have q7 := s7 (hd 7 (by decide))
              have q8 := s8 (hd 8 (by decide))
              have q9 := B9.ptr (hd 9 (by decide))
              have n13 : wc.heap[b13]? = some (.cells #[.int .u64 (wd v 0 : Int), .int .u64 (wd v 1 : Int), .int .u64 (wd v 2 : Int), .int .u64 (wd v 3 : Int)] 23) := B9.now (hd 9 (by decide)) (hd 11 (by decide))
              have v13 := B9.new (hd 9 (by decide))
              have q10 := B10.ptr (hd 10 (by decide))
              have n14 : wc.heap[b14]? = some (.cells #[.int .u64 (wd q 0 : Int), .int .u64 (wd q 1 : Int), .int .u64 (wd q 2 : Int), .int .u64 (wd q 3 : Int)] 23) := B10.now (hd 10 (by decide)) (hd 12 (by decide))
              have v14 := B10.new (hd 10 (by decide))
              subst ha q0 q1 q2 q3 q4 q5 q6 q7 q8 q9 q10
              clear hd s0 s1 s2 s3 s4 s5 s6 s7 s8 B9 B10 D9_10
              obtain ⟨W6, hW6⟩ : ∃ W6, W6 = wc := ⟨_, rfl⟩
              subst hW6
              have hpb := hO.heap HPb.out (fun c => c)
              obtain ⟨p0, p1, p2, p3⟩ := cells4 hpb
              obtain ⟨v0, v1, v2, v3⟩ := cells4 n13
              obtain ⟨q0, q1, q2, q3⟩ := cells4 n14
              have HO6 := Lib.hid (HO5.out.trans hO (fun _ _ c => c))
              clear n13 n14 v13 v14 hpb hO
              by_cases hv0 : v = 0
              · have e3 := EZ.out
                rw [show eqN v 0 = true by rw [hv0]; decide] at e3
                have hqv := HZ0.out hv0
                clear hv0
                subst hqv
                go_wp2
                go_roundw
                case rel => exact ⟨j + 1, by omega, by simp, HO6.out⟩
                case measure => simp [intOf] <;> omega
              · have e3 := EZ.out
                rw [show eqN v 0 = false by unfold eqN; simpa using hv0] at e3
                have FMc := Lib.hid (FM1.out hv0)
                clear hv0
                go_wp2_with fail
                refine (FMc.out _).mono ?_
                rintro e u5 ⟨rfl, hO7⟩
                have HO7 := Lib.hid (HO6.out.trans hO7 (fun _ _ c => c))
                clear hO7
                go_wp2
                go_roundw
                case rel => exact ⟨j + 1, by omega, by simp, HO7.out⟩
                case measure => simp [intOf] <;> omega
          · obtain rfl : j = k := by omega
            have HO8 := Lib.hid hO
            clear hO
            go_wp2_with fail
            refine (FAL.out _ (HT0.out _ (HOu.out.trans HO8.out (fun _ _ c => c)))).mono ?_
            rintro e u6 ⟨rfl, hO9⟩
            have HO9 := Lib.hid (((HOw.out.trans HOu.out (fun _ _ c => c)).trans HO8.out (fun _ _ c => c)).trans hO9 (fun _ _ c => c))
            clear hO9
            go_wp2
            go_ret
            exact ⟨rfl, HO9.out⟩

theorem door_met (os : Os) (args : Array Value) : laidMetH Tryd.prog [("sharecore/field.fields", Rows.laid_sharecore_field_fields)] ((World.doorLaid Tryd.prog 400 os).forCall (fun _ _ => 0) ⟨#[], args, []⟩).memory :=
  laidMetH_of_parts3 (fuel := 8) (laidMet_of_run' 8 (by kernel_rfl) (by kernel_rfl)) (by kernel_rfl) (by kernel_rfl)

set_option maxRecDepth 100000 in
theorem lifted (os : Os) (started : os.Started) (H : Type) (enc : TypeId × Value → H) :
    ReturnsInHanded {} Tryd.checked os 5 .any (fun w args => (Rows.powerBatchesSpec.pre enc Tryd.prog Tryd.f5 [] false w args ∧ laidMetH Tryd.prog [("sharecore/field.fields", Rows.laid_sharecore_field_fields)] w) ∧ sizedMet enc Tryd.prog Tryd.f5 (OpenSpec.ofChange Rows.powerBatchesSpec) false w args)
      (Rows.powerBatchesSpec.post enc Tryd.prog Tryd.f5 false true false false) := by
  refine returnsInHanded_of_change_and (C := Tryd.checked) (X := fun w _ => laidMetH Tryd.prog [("sharecore/field.fields", Rows.laid_sharecore_field_fields)] w) (fun _ _ _ hh h => h.of_heap hh) own started (by kernel_rfl) Tryd.func5
    (ChangeSpec.witness_shaped (enc := enc) (C := Tryd.checked) (os := os) (X := fun w _ => laidMetH Tryd.prog [("sharecore/field.fields", Rows.laid_sharecore_field_fields)] w) false (World.doorLaid Tryd.prog 400 os) #[.bool false, .slice none 0 0] 8 rfl (World.shaped_of_RefB (by kernel_rfl) (by kernel_rfl)) (by kernel_rfl) (by kernel_rfl) (by kernel_rfl) (door_met os _)) ?_
  intro W base args ds gs before hval0 hW _ _ hL _
  have hval : ∀ (j : Nat) t v, Tryd.f5.params[j]? = some t → args[j]? = some v → Value.okWide Tryd.prog W .any base t v := hval0
  have hW' := hW
  obtain ⟨p, q, hA0, hV, rfl, hfz, hnd⟩ := hW
  have hA : DataW.TrodAll enc Tryd.prog W 0 (fun _ => true) true Tryd.f5.params.toList args.toList ds p := hA0
  rw [Tryd.params5] at hA hval
  obtain ⟨v0, vs0, d0, ds0, p0, q0, hargs, rfl, rfl, h0, r0⟩ := trodAll_cons hA
  obtain ⟨v1, vs1, d1, ds1, p1, q1, rfl, rfl, rfl, h1, r1⟩ := trodAll_cons r0
  obtain ⟨rfl, rfl, rfl⟩ := trodAll_nil r1
  obtain rfl : args = #[v0, v1] := by cases args; simp_all
  obtain ⟨rfl, rfl⟩ := trodVars_none hV
  obtain ⟨i0, rfl, rfl, rfl⟩ := open_bool Tryd.underlying4 (hval 0 4 v0 rfl rfl) h0
  have w0 := trivial
  obtain ⟨a1, n1, cap1, rfl⟩ := okWide_slice Tryd.underlying37 (hval 1 37 v1 rfl rfl)
  have k1 := h1
  have lt1 : ∀ x ∈ p1, x.block < W.heap.size := by obtain ⟨m, hm⟩ := k1; exact DataW.trod_lt m _ _ _ hm
  obtain ⟨xs1, hn1, w1⟩ : ∃ xs, n1 = xs.length ∧ VsAt W (.slice a1 n1 cap1) xs (fun k => k < W.heap.size) := by
    obtain ⟨fuel, hf⟩ := h1
    exact vecs_of_trod hf
  have hT := tab_of_laid hL
  clear hA0 hval0
  refine (walk i0 a1 n1 cap1 xs1 W w0 hn1 w1 hT).mono fun e W' ⟨he, hoff⟩ => ?_
  have bel : Below W.heap.size W W' := hoff.below (Nat.le_refl _) (fun _ _ c => c)
  subst he
  exact ⟨_, rfl, _, _, _, [], _, [], hW', trodAll_mk1 (shut_bool Tryd.underlying4 _), (trodAll_cons_mk (shut_bool Tryd.underlying4 _) (trodAll_cons_mk (Below.trod laidOut (by kernel_rfl) (of_decide_eq_true (by kernel_rfl)) k1 bel lt1) trodAll_mk0)), rfl, bel.frame _, fun h => by cases h⟩

theorem over : Rows.powerBatchesRow.holds Tryd.pinned (OpenSpec.ofChange Rows.powerBatchesSpec) :=
  OpenClaim.holds_of_wide 5 Tryd.f5 rfl rfl rfl rfl rfl rfl rfl ⟨rfl, rfl, rfl, rfl, rfl⟩ rfl rfl rfl rfl rfl (by kernel_rfl) Tryd.func5 (by kernel_rfl)
    (of_decide_eq_true (by kernel_rfl)) (by unfold Func.isWrapper; first | (rw [if_pos (by decide +kernel)]; kernel_rfl) | (rw [if_neg (by decide +kernel)]; exact ⟨rfl, rfl⟩))
    (fun os started H enc _ => lifted os started H enc)

theorem proved : Rows.PowerBatchesCardSaid :=
  Claim7.holds_tied_plain_at .later [] [.data] true (true, "83b913165a27ef716bd447b61373d9eb70f4ac054efc4ed5ca269b7b66cbbef5") false
    over (fun _ h => by cases h) (by kernel_rfl) (fun _ h => by cases h) powerBatches_row_tie rfl ⟨rfl, rfl⟩ (by kernel_rfl) rfl
    (fun f fn hf hfn => by
      obtain rfl : f = 5 := Option.some.inj ((show Tryd.prog.funcNamed "sharecore/sharecorelaw06.PowerBatches" = some 5 by kernel_rfl).symm.trans hf) |>.symm
      obtain rfl : fn = Tryd.f5 := (Option.some.inj (Tryd.func5.symm.trans hfn)).symm
      exact ⟨by kernel_rfl, fun j t ht => by
        rw [Tryd.params5] at ht
        have hm : t ∈ [4, 37] := by simpa using Array.mem_of_getElem? ht
        have hall : ([4, 37].all fun u => !Tryd.prog.wantsStandIn u) = true := by kernel_rfl
        exact (show Tryd.prog.wantsStandIn t = false by simpa using List.all_eq_true.1 hall t hm)⟩)
    (by kernel_rfl)
#print axioms proved
end Go.Proofs.YtnegdlmpmmehmaaDoor.powerBatches
