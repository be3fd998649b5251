/-
  For every field, number and list of up to 30 numbers, the examples of the chapter hold, and the events of Pow, Inverse and Batch are those of the reference: the statement of P6.4. No condition.
-/
import Derived.Test.YtnegdlmpmmehmaaDoorRows
import Derived.Test.YtnegdlmpmmehmaaDoorTie
import Derived.Test.YtnegdlmpmmehmaaDoorCards
import Derived.LaidMore
import Derived.LaidHandle
import Derived.SevenTiedAt
import Derived.Stop.Joined
import Derived.JoinedOf
import Derived.Test.YtnegdlmpmmehmaaDoorLimbOpen
import Derived.Test.YtnegdlmpmmehmaaDoorFieldTab
import Derived.Test.YtnegdlmpmmehmaaDoorFieldHeld
import Derived.Test.YtnegdlmpmmehmaaDoorPowBase
import Derived.Test.YtnegdlmpmmehmaaDoorPowOpen
import Derived.Test.YtnegdlmpmmehmaaDoorPowRefs
import Derived.Test.YtnegdlmpmmehmaaDoorInvMem
import Derived.Test.YtnegdlmpmmehmaaDoorInvSel
import Derived.WalkKit
import Derived.ProofKit
import Derived.OpenShut
import Derived.ShutString
import Derived.ChangeOld
import Derived.Below
namespace Go.Proofs.YtnegdlmpmmehmaaDoor.powerEvents
open Go.ChangeShapes Go.WideShapes Go.ChangeAt Go.RowKit
set_option linter.unusedVariables false

theorem own : ownKnob Tryd.prog.godebug = none := by kernel_rfl
theorem laidOut : laidOutB Tryd.prog = true := by kernel_rfl

set_option maxRecDepth 100000 in
set_option maxHeartbeats 4000000 in
theorem walk (i0 : Bool) (n1 : Nat) (a2 : Option Addr) (n2 cap2 : Nat) (xs2 : List Nat) (w : World) (w0 : True) (w1 : n1 < R256) (hn2 : n2 = xs2.length) (w2 : VsAt w (.slice a2 n2 cap2) xs2 (fun k => k < w.heap.size)) (hT : TabAt w) :
    Calls Tryd.prog 6 #[.bool i0, V n1, .slice a2 n2 cap2] w fun e w' => e = .returned (.bool true) ∧ Off (fun _ => False) w w' := by
  obtain ⟨hnl, hnm, hxs⟩ := w2.len
  obtain ⟨id, p, i, r, s, hF, hid⟩ := fld_of i0
  have hp := hF.mp.lt
  have h1 := hF.mp.one
  have FG := Lib.hid (fun W hT => get6_any i0 hF hid W hT)
  have FAL : Hid (∀ W, TabAt W → Calls Tryd.prog 11 #[] W fun e w' => e = .returned (.bool true) ∧ Off (fun _ => False) W w') := Lib.hid (fun W hT => alive6_any W hT)
  by_cases hbig : 30 < n2
  · have hbi : decide ((30 : Int) < (n2 : Int)) = true := by simp; omega
    have hbp : (30 : Int) < (n2 : Int) := by omega
    clear hnl hnm hxs hbig hF hid hp h1 FG
    go_enter Tryd.func6, Tryd.ntmps6
    go_wp2_with fail
    refine (FAL.out _ (hT.off ((Off.refl _ w).alloc _))).mono ?_
    rintro e u0 ⟨rfl, hO⟩
    have HO := Lib.hid (((Off.refl _ w).alloc _).trans hO (fun _ _ c => c))
    clear hO
    go_wp2
    go_ret
    exact ⟨rfl, HO.out⟩
  · have hbi : decide ((30 : Int) < (n2 : Int)) = false := by simp; omega
    have hbp : ¬ (30 : Int) < (n2 : Int) := by omega
    have FMa := Lib.hid (fun x m (hx : x < R256) (hm : m = x % p) W (_ : TabAt W) => by rw [hm]; exact mod_mod p x hp h1 hx W : ∀ x m, x < R256 → m = x % p → ∀ W, TabAt W → Calls Tryd.prog 10 #[V p, V x] W fun e w' => e = .returned (V m) ∧ Off (fun _ => False) W w')
    have FFa := Lib.hid (fun x m z (hm : m = x % p) (hz : z = fm p m) W (_ : TabAt W) => by rw [hz]; exact form6_any p m hp h1 (by rw [hm]; exact Nat.lt_trans (Nat.mod_lt _ (by omega)) hp) W : ∀ x m z, m = x % p → z = fm p m → ∀ W, TabAt W → Calls Tryd.prog 13 #[V p, V m] W fun e w' => e = .returned (V z) ∧ Off (fun _ => False) W w')
    obtain ⟨ys, hys⟩ : ∃ ys, ys = xs2.map (fun a => fm p (a % p)) := ⟨_, rfl⟩
    have HYs := Lib.hid hys
    have HLn := Lib.hid hnl
    have HXs := Lib.hid hxs
    have hn30 : n2 ≤ 30 := by omega
    obtain ⟨i0', hi, hz0, hz1, hz2⟩ := info_parts elem_info
    obtain ⟨c, hc⟩ : ∃ c, c = n1 % p := ⟨_, rfl⟩
    obtain ⟨u, hu⟩ : ∃ u, u = fm p c := ⟨_, rfl⟩
    have FMc := Lib.hid (FMa.out n1 c w1 hc)
    have FXu := Lib.hid (FFa.out n1 c u hc hu)
    have FPw := Lib.hid (fun q S W (h : Tp W q [] S) => by have h2 := pow_any hF c n1 w1 q [] S W h (by simp); rw [← hu] at h2; exact h2 : ∀ q S W, Tp W q [] S → Calls Tryd.prog 12 #[.pointer q, FV id p i r s, V u, V n1] W fun x w' => x = .returned (V (fm p (c ^ n1 % p))) ∧ Noted W.heap.size q [] (powE 64) S w' ∧ Off S W w')
    have FIv := Lib.hid (fun q S W (h : Tp W q [] S) => by have h2 := inverse_any hF c q [] S W h (by simp); rw [← hu] at h2; exact h2 : ∀ q S W, Tp W q [] S → Calls Tryd.prog 16 #[.pointer q, FV id p i r s, V u] W fun x w' => x = .returned (V (fm p (c ^ (p - 2) % p))) ∧ Noted W.heap.size q [] (powE 64) S w' ∧ Off S W w')
    have FBa := Lib.hid (fun n cap a (hn : n = xs2.length) q S Sl W (hL : LsAt W (.slice a n cap) ys Sl) (hSl : ∀ b, Sl b → b < W.heap.size ∧ ¬ S b) (h : Tp W q [] S) => batch_any hF (xs2.map (fun a => a % p)) (fun v hv => by obtain ⟨a, _, rfl⟩ := List.mem_map.1 hv; exact Nat.mod_lt _ hF.mp.pos) n cap a (by rw [List.length_map]; exact hn) (by omega) q [] S Sl W (by rw [hys] at hL; rw [List.map_map]; exact hL) hSl h (by simp))
    clear hn2 hys hnl hxs hbig hF hid hp h1 hnm hc hu
    go_enter Tryd.func6, Tryd.ntmps6
    go_wp2_with fail
    refine (FG.out _ (hT.off ((Off.refl _ w).alloc _))).mono ?_
    rintro e u0 ⟨rfl, hO1⟩
    have hO0 : Off (fun _ => False) w u0 := ((Off.refl _ w).alloc _).trans hO1 (fun _ _ c => c)
    have hn1c : u0.heap[w.heap.size]? = some (.cells #[.int .u64 (wd n1 0 : Int), .int .u64 (wd n1 1 : Int), .int .u64 (wd n1 2 : Int), .int .u64 (wd n1 3 : Int)] 23) := hO1.heap (heap_new' rfl _) (fun c => c)
    obtain ⟨W0, eW0⟩ : ∃ W0, W0 = (((u0).alloc (.cells #[.int .i64 id, .int .u64 (wd p 0 : Int), .int .u64 (wd p 1 : Int), .int .u64 (wd p 2 : Int), .int .u64 (wd p 3 : Int), .int .u64 (i : Int), .int .u64 (wd r 0 : Int), .int .u64 (wd r 1 : Int), .int .u64 (wd r 2 : Int), .int .u64 (wd r 3 : Int), .int .u64 (wd s 0 : Int), .int .u64 (wd s 1 : Int), .int .u64 (wd s 2 : Int), .int .u64 (wd s 3 : Int)] 26)).alloc (.cells #[.int .u64 (wd p 0 : Int), .int .u64 (wd p 1 : Int), .int .u64 (wd p 2 : Int), .int .u64 (wd p 3 : Int)] 23)) := ⟨_, rfl⟩
    have oW0 : Off (fun _ => False) u0 W0 := by rw [eW0]; exact ((Off.refl _ u0).alloc _).alloc _
    have hFc : W0.heap[u0.heap.size]? = some (.cells #[.int .i64 id, .int .u64 (wd p 0 : Int), .int .u64 (wd p 1 : Int), .int .u64 (wd p 2 : Int), .int .u64 (wd p 3 : Int), .int .u64 (i : Int), .int .u64 (wd r 0 : Int), .int .u64 (wd r 1 : Int), .int .u64 (wd r 2 : Int), .int .u64 (wd r 3 : Int), .int .u64 (wd s 0 : Int), .int .u64 (wd s 1 : Int), .int .u64 (wd s 2 : Int), .int .u64 (wd s 3 : Int)] 26) := by rw [eW0]; exact heap_old' (heap_new' rfl _) _
    have hPc : W0.heap[u0.heap.size + 1]? = some (.cells #[.int .u64 (wd p 0 : Int), .int .u64 (wd p 1 : Int), .int .u64 (wd p 2 : Int), .int .u64 (wd p 3 : Int)] 23) := by rw [eW0]; exact heap_new' (by simp) _
    have hOw := hO0.trans oW0 (fun _ _ c => c)
    have HVs := Lib.hid (fun W (h : Off (fun _ => False) W0 W) => (w2.off hOw (fun _ _ _ c => c)).off h (fun _ _ _ c => c))
    have HT0 := Lib.hid (fun W (h : Off (fun _ => False) W0 W) => (hT.off hOw).off h)
    have HNk := Lib.hid (oW0.heap hn1c (fun c => c))
    have HPk := Lib.hid hPc
    have HFk := Lib.hid hFc
    have HOw := Lib.hid hOw
    have HW0 := Lib.hid eW0
    clear hO1 hO0 hFc hPc eW0 oW0 hOw hn1c
    go_wp2_with fail
    rw [← HW0.out]
    go_loopw [9, 28] (fun v i wr => ∃ k : Nat, k ≤ n2 ∧ i = .int .i64 (k : Int) ∧ (∃ a c, v = .slice a k c ∧ wr.ownsRow W0.heap.size 24 4 v k (flat4 (ys.take k))) ∧ Off (fun _ => False) W0 wr) (fun _ i _ => n2 - (intOf i).toNat)
    case atStart => exact ⟨0, Nat.zero_le _, rfl, ⟨none, 0, rfl, World.ownsRow_nil _ _ _ _⟩, Off.refl _ _⟩
    case round =>
      obtain ⟨k, hk, rfl, ⟨va, vc, rfl, hown⟩, hO⟩ := hrel
      by_cases hlt : k < n2
      · obtain ⟨x, hx⟩ : ∃ x, xs2[k]? = some x := ⟨_, List.getElem?_eq_getElem (by have := HLn.out; omega)⟩
        have hxR : x < R256 := HXs.out x (List.mem_of_getElem? hx)
        obtain ⟨b, off, ha, _, c0, c1, c2, c3⟩ := (HVs.out wr hO).get hx
        subst ha
        obtain ⟨m, hm⟩ : ∃ m, m = x % p := ⟨_, rfl⟩
        obtain ⟨z, hz⟩ : ∃ z, z = fm p m := ⟨_, rfl⟩
        have hyk : ys[k]? = some z := by rw [HYs.out, List.getElem?_map, hx, hz, hm]; rfl
        have HYt := Lib.hid (show ys.take (k + 1) = ys.take k ++ [z] by
          obtain ⟨hlk, hxk⟩ := List.getElem?_eq_some_iff.1 hyk
          rw [List.take_succ_eq_append_getElem hlk, hxk])
        have FMx := Lib.hid (FMa.out x m hxR hm)
        have FFo := Lib.hid (FFa.out x m z hm hz)
        obtain ⟨W1, hW1⟩ : ∃ W1, W1 = wr.alloc (.cells #[.int .u64 (wd x 0 : Int), .int .u64 (wd x 1 : Int), .int .u64 (wd x 2 : Int), .int .u64 (wd x 3 : Int)] 23) := ⟨_, rfl⟩
        have hOa : Off (fun _ => False) wr W1 := by rw [hW1]; exact (Off.refl _ wr).alloc _
        have hxb : W1.heap[wr.heap.size]? = some (.cells #[.int .u64 (wd x 0 : Int), .int .u64 (wd x 1 : Int), .int .u64 (wd x 2 : Int), .int .u64 (wd x 3 : Int)] 23) := by rw [hW1]; exact heap_new' rfl _
        have hO1 := hO.trans hOa (fun _ _ c => c)
        have hpb := hO1.heap HPk.out (fun c => c)
        have HKx : Hid (∀ W, Off (fun _ => False) W1 W → (W.cell? ⟨u0.heap.size + 1, 0, none⟩ = some (.int .u64 (wd p 0 : Int)) ∧ W.cell? ⟨u0.heap.size + 1, 1, none⟩ = some (.int .u64 (wd p 1 : Int)) ∧ W.cell? ⟨u0.heap.size + 1, 2, none⟩ = some (.int .u64 (wd p 2 : Int)) ∧ W.cell? ⟨u0.heap.size + 1, 3, none⟩ = some (.int .u64 (wd p 3 : Int))) ∧ (W.cell? ⟨wr.heap.size, 0, none⟩ = some (.int .u64 (wd x 0 : Int)) ∧ W.cell? ⟨wr.heap.size, 1, none⟩ = some (.int .u64 (wd x 1 : Int)) ∧ W.cell? ⟨wr.heap.size, 2, none⟩ = some (.int .u64 (wd x 2 : Int)) ∧ W.cell? ⟨wr.heap.size, 3, none⟩ = some (.int .u64 (wd x 3 : Int))) ∧ Off (fun _ => False) W1 W) := Lib.hid (fun W h => ⟨cells4 (h.heap hpb (fun c => c)), cells4 (h.heap hxb (fun c => c)), h⟩)
        have HTW := Lib.hid (fun W (h : Off (fun _ => False) W1 W) => HT0.out W (hO1.trans h (fun _ _ c => c)))
        obtain ⟨L, hL⟩ : ∃ L, L = flat4 (ys.take k) := ⟨_, rfl⟩
        rw [← hL] at hown
        have HRow := Lib.hid (own_off hown hOa)
        have HW01 := Lib.hid hO1
        have hb0 : W0.heap.size ≤ W0.heap.size := Nat.le_refl _
        have hbase : W0.heap.size ≤ W1.heap.size := hO1.size
        have HL2 := Lib.hid hL
        have HW1 := Lib.hid hW1
        have hki : (k : Int) < (n2 : Int) := by omega
        have hwk : IntKind.i64.wrap ((k : Int) + 1) = (k : Int) + 1 := by rw [IntKind.wrap_i64]; omega
        clear hx hxR hyk hm hz hown hO hOa hxb hO1 hpb hL hW1
        go_upto_region 8 with fail
        rw [← HW1.out]
        clear c0 c1 c2 c3
        refine wp_region_inv (fun a0 l a' w' => ∃ (u32 : Value) (u33 : Value) (u34 : Value) (u35 : Value) (u36 : Value) (u37 : Value) (u38 : Value) (u39 : Value) (u9 : Value) (B : Nat), a' = (Act.put (Act.put (Act.put (Act.put (Act.put (Act.put (Act.put (Act.put (Act.put a0 (some 32) u32) (some 33) u33) (some 34) u34) (some 35) u35) (some 36) u36) (some 37) u37) (some 38) u38) (some 39) u39) (some 9) u9) ∧ Slot l 0 u32 (.slice va k vc) ∧ Slot l 1 u33 (V p) ∧ Slot l 2 u34 (V p) ∧ Slot l 3 u35 (V x) ∧ Slot l 4 u36 (V m) ∧ Slot l 5 u37 (V z) ∧ (l 6 = true → u38 = .slice (some ⟨B, 0, none⟩) 1 1 ∧ (l 7 = false → w'.heap[B]? = some (.cells #[.int .u64 (wd z 0 : Int), .int .u64 (wd z 1 : Int), .int .u64 (wd z 2 : Int), .int .u64 (wd z 3 : Int)] 24))) ∧ (l 7 = false → w'.ownsRow W0.heap.size 24 4 (.slice va k vc) k L ∧ Off (fun _ => False) W1 w') ∧ (l 7 = true → w'.ownsRow W0.heap.size 24 4 u39 (k + 1) (L ++ words4 z) ∧ Off (fun _ => False) W0 w') ∧ ((l 8 = true → u9 = u39) ∧ (l 8 = false → u9 = .slice va k vc)) ∧ Dep l 0 7 ∧ Dep l 6 7 ∧ Dep l 5 6 ∧ Dep l 1 5 ∧ Dep l 4 5 ∧ Dep l 2 4 ∧ Dep l 3 4 ∧ Dep l 7 8) (by kernel_rfl) (by kernel_rfl) ?_ ⟨?_, ?_, ?_, ?_, ?_, ?_, ?_, ?_, ?_, trivial⟩ ?_
        · refine ⟨?z32, ?z33, ?z34, ?z35, ?z36, ?z37, ?z38, ?z39, (.slice va k vc), 0, ?fr, Slot.start _ _ _, Slot.start _ _ _, Slot.start _ _ _, Slot.start _ _ _, Slot.start _ _ _, Slot.start _ _ _, (fun h => by cases h), (fun _ => ⟨HRow.out, (Off.refl _ W1).drew⟩), (fun h => by cases h), ⟨fun h => (by cases h), fun _ => rfl⟩, Dep.start _ _, Dep.start _ _, Dep.start _ _, Dep.start _ _, Dep.start _ _, Dep.start _ _, Dep.start _ _, Dep.start _ _⟩
          case fr => first | (simp only [Act.put, List.setIfInBounds_toArray, List.set_cons_zero, List.set_cons_succ]; rfl) | simp only [Act.put, List.setIfInBounds_toArray, List.set_cons_zero, List.set_cons_succ]
        · (
            intro l a wr hI hl hd K' hK
            obtain ⟨u32, u33, u34, u35, u36, u37, u38, u39, u9, B, ha, s0, s1, s2, s3, s4, s5, hB, hN, hA, h8, P0_7, P6_7, P5_6, P1_5, P4_5, P2_4, P3_4, P7_8⟩ := hI
            simp only [Act.put, List.setIfInBounds_toArray, List.set_cons_zero, List.set_cons_succ] at ha
            have h7 := (P0_7 hl)
            have hO := (hN h7).2
            have q8 := h8.2 (P7_8 h7)
            subst ha q8
            go_simp
            refine hK.out _ _ ⟨_, _, _, _, _, _, _, _, _, B, ?_, Slot.new _ _ _, s1.keep rfl, s2.keep rfl, s3.keep rfl, s4.keep rfl, s5.keep rfl, (fun h => by obtain ⟨h1, h2⟩ := hB (by rw [upd_ne _ (by decide)] at h; exact h); exact ⟨h1, fun h' => h2 (by rw [upd_ne _ (by decide)] at h'; exact h')⟩), (fun h => hN (by rw [upd_ne _ (by decide)] at h; exact h)), (fun h => by rw [upd_ne _ (by decide), h7] at h; cases h), ⟨fun h => h8.1 (by rw [upd_ne _ (by decide)] at h; exact h), fun h => h8.2 (by rw [upd_ne _ (by decide)] at h; exact h)⟩, P0_7.keep rfl, P6_7.keep rfl, P5_6.keep rfl, P1_5.keep rfl, P4_5.keep rfl, P2_4.keep rfl, P3_4.keep rfl, P7_8.keep rfl⟩
            simp only [Act.put, List.setIfInBounds_toArray, List.set_cons_zero, List.set_cons_succ])
        · (
            intro l a wr hI hl hd K' hK
            obtain ⟨u32, u33, u34, u35, u36, u37, u38, u39, u9, B, ha, s0, s1, s2, s3, s4, s5, hB, hN, hA, h8, P0_7, P6_7, P5_6, P1_5, P4_5, P2_4, P3_4, P7_8⟩ := hI
            simp only [Act.put, List.setIfInBounds_toArray, List.set_cons_zero, List.set_cons_succ] at ha
            have h7 := (P6_7 (P5_6 (P1_5 hl)))
            have hO := (hN h7).2
            subst ha
            have hc := HKx.out wr hO
            have p0 := hc.1.1
            have p1 := hc.1.2.1
            have p2 := hc.1.2.2.1
            have p3 := hc.1.2.2.2
            clear hc
            go_simp
            refine hK.out _ _ ⟨_, _, _, _, _, _, _, _, _, B, ?_, s0.keep rfl, Slot.new _ _ _, s2.keep rfl, s3.keep rfl, s4.keep rfl, s5.keep rfl, (fun h => by obtain ⟨h1, h2⟩ := hB (by rw [upd_ne _ (by decide)] at h; exact h); exact ⟨h1, fun h' => h2 (by rw [upd_ne _ (by decide)] at h'; exact h')⟩), (fun h => hN (by rw [upd_ne _ (by decide)] at h; exact h)), (fun h => by rw [upd_ne _ (by decide), h7] at h; cases h), ⟨fun h => h8.1 (by rw [upd_ne _ (by decide)] at h; exact h), fun h => h8.2 (by rw [upd_ne _ (by decide)] at h; exact h)⟩, P0_7.keep rfl, P6_7.keep rfl, P5_6.keep rfl, P1_5.keep rfl, P4_5.keep rfl, P2_4.keep rfl, P3_4.keep rfl, P7_8.keep rfl⟩
            simp only [Act.put, List.setIfInBounds_toArray, List.set_cons_zero, List.set_cons_succ])
        · (
            intro l a wr hI hl hd K' hK
            obtain ⟨u32, u33, u34, u35, u36, u37, u38, u39, u9, B, ha, s0, s1, s2, s3, s4, s5, hB, hN, hA, h8, P0_7, P6_7, P5_6, P1_5, P4_5, P2_4, P3_4, P7_8⟩ := hI
            simp only [Act.put, List.setIfInBounds_toArray, List.set_cons_zero, List.set_cons_succ] at ha
            have h7 := (P6_7 (P5_6 (P4_5 (P2_4 hl))))
            have hO := (hN h7).2
            subst ha
            have hc := HKx.out wr hO
            have p0 := hc.1.1
            have p1 := hc.1.2.1
            have p2 := hc.1.2.2.1
            have p3 := hc.1.2.2.2
            clear hc
            go_simp
            refine hK.out _ _ ⟨_, _, _, _, _, _, _, _, _, B, ?_, s0.keep rfl, s1.keep rfl, Slot.new _ _ _, s3.keep rfl, s4.keep rfl, s5.keep rfl, (fun h => by obtain ⟨h1, h2⟩ := hB (by rw [upd_ne _ (by decide)] at h; exact h); exact ⟨h1, fun h' => h2 (by rw [upd_ne _ (by decide)] at h'; exact h')⟩), (fun h => hN (by rw [upd_ne _ (by decide)] at h; exact h)), (fun h => by rw [upd_ne _ (by decide), h7] at h; cases h), ⟨fun h => h8.1 (by rw [upd_ne _ (by decide)] at h; exact h), fun h => h8.2 (by rw [upd_ne _ (by decide)] at h; exact h)⟩, P0_7.keep rfl, P6_7.keep rfl, P5_6.keep rfl, P1_5.keep rfl, P4_5.keep rfl, P2_4.keep rfl, P3_4.keep rfl, P7_8.keep rfl⟩
            simp only [Act.put, List.setIfInBounds_toArray, List.set_cons_zero, List.set_cons_succ])
        · (
            intro l a wr hI hl hd K' hK
            obtain ⟨u32, u33, u34, u35, u36, u37, u38, u39, u9, B, ha, s0, s1, s2, s3, s4, s5, hB, hN, hA, h8, P0_7, P6_7, P5_6, P1_5, P4_5, P2_4, P3_4, P7_8⟩ := hI
            simp only [Act.put, List.setIfInBounds_toArray, List.set_cons_zero, List.set_cons_succ] at ha
            have h7 := (P6_7 (P5_6 (P4_5 (P3_4 hl))))
            have hO := (hN h7).2
            subst ha
            have hc := HKx.out wr hO
            have p0 := hc.2.1.1
            have p1 := hc.2.1.2.1
            have p2 := hc.2.1.2.2.1
            have p3 := hc.2.1.2.2.2
            clear hc
            go_simp
            refine hK.out _ _ ⟨_, _, _, _, _, _, _, _, _, B, ?_, s0.keep rfl, s1.keep rfl, s2.keep rfl, Slot.new _ _ _, s4.keep rfl, s5.keep rfl, (fun h => by obtain ⟨h1, h2⟩ := hB (by rw [upd_ne _ (by decide)] at h; exact h); exact ⟨h1, fun h' => h2 (by rw [upd_ne _ (by decide)] at h'; exact h')⟩), (fun h => hN (by rw [upd_ne _ (by decide)] at h; exact h)), (fun h => by rw [upd_ne _ (by decide), h7] at h; cases h), ⟨fun h => h8.1 (by rw [upd_ne _ (by decide)] at h; exact h), fun h => h8.2 (by rw [upd_ne _ (by decide)] at h; exact h)⟩, P0_7.keep rfl, P6_7.keep rfl, P5_6.keep rfl, P1_5.keep rfl, P4_5.keep rfl, P2_4.keep rfl, P3_4.keep rfl, P7_8.keep rfl⟩
            simp only [Act.put, List.setIfInBounds_toArray, List.set_cons_zero, List.set_cons_succ])
        · (
            intro l a wr hI hl hd K' hK
            obtain ⟨u32, u33, u34, u35, u36, u37, u38, u39, u9, B, ha, s0, s1, s2, s3, s4, s5, hB, hN, hA, h8, P0_7, P6_7, P5_6, P1_5, P4_5, P2_4, P3_4, P7_8⟩ := hI
            simp only [Act.put, List.setIfInBounds_toArray, List.set_cons_zero, List.set_cons_succ] at ha
            have q2 := s2 (hd 2 (by decide))
            have q3 := s3 (hd 3 (by decide))
            have h7 := (P6_7 (P5_6 (P4_5 hl)))
            have hO := (hN h7).2
            subst ha q2 q3
            go_simp
            refine (held_inv (FMx.out wr (HTW.out wr hO)) hO).mono ?_
            rintro e w1 ⟨rfl, hO1, hOW⟩
            go_wp2_with fail
            refine hK.out _ _ ⟨_, _, _, _, _, _, _, _, _, B, ?_, s0.keep rfl, s1.keep rfl, s2.keep rfl, s3.keep rfl, Slot.new _ _ _, s5.keep rfl, (fun h => by obtain ⟨h1, h2⟩ := hB (by rw [upd_ne _ (by decide)] at h; exact h); exact ⟨h1, fun h' => hOW.heap (h2 (by rw [upd_ne _ (by decide)] at h'; exact h')) (fun c => c)⟩), (fun _ => ⟨own_off (hN h7).1 hOW, hO1⟩), (fun h => by rw [upd_ne _ (by decide), h7] at h; cases h), ⟨fun h => h8.1 (by rw [upd_ne _ (by decide)] at h; exact h), fun h => h8.2 (by rw [upd_ne _ (by decide)] at h; exact h)⟩, P0_7.keep rfl, P6_7.keep rfl, P5_6.keep rfl, P1_5.keep rfl, P4_5.keep rfl, Dep.at (hd 2 (by decide)), Dep.at (hd 3 (by decide)), P7_8.keep rfl⟩
            simp only [Act.put, List.setIfInBounds_toArray, List.set_cons_zero, List.set_cons_succ])
        · (
            intro l a wr hI hl hd K' hK
            obtain ⟨u32, u33, u34, u35, u36, u37, u38, u39, u9, B, ha, s0, s1, s2, s3, s4, s5, hB, hN, hA, h8, P0_7, P6_7, P5_6, P1_5, P4_5, P2_4, P3_4, P7_8⟩ := hI
            simp only [Act.put, List.setIfInBounds_toArray, List.set_cons_zero, List.set_cons_succ] at ha
            have q1 := s1 (hd 1 (by decide))
            have q4 := s4 (hd 4 (by decide))
            have h7 := (P6_7 (P5_6 hl))
            have hO := (hN h7).2
            subst ha q1 q4
            go_simp
            refine (held_inv (FFo.out wr (HTW.out wr hO)) hO).mono ?_
            rintro e w1 ⟨rfl, hO1, hOW⟩
            go_wp2_with fail
            refine hK.out _ _ ⟨_, _, _, _, _, _, _, _, _, B, ?_, s0.keep rfl, s1.keep rfl, s2.keep rfl, s3.keep rfl, s4.keep rfl, Slot.new _ _ _, (fun h => by obtain ⟨h1, h2⟩ := hB (by rw [upd_ne _ (by decide)] at h; exact h); exact ⟨h1, fun h' => hOW.heap (h2 (by rw [upd_ne _ (by decide)] at h'; exact h')) (fun c => c)⟩), (fun _ => ⟨own_off (hN h7).1 hOW, hO1⟩), (fun h => by rw [upd_ne _ (by decide), h7] at h; cases h), ⟨fun h => h8.1 (by rw [upd_ne _ (by decide)] at h; exact h), fun h => h8.2 (by rw [upd_ne _ (by decide)] at h; exact h)⟩, P0_7.keep rfl, P6_7.keep rfl, P5_6.keep rfl, Dep.at (hd 1 (by decide)), Dep.at (hd 4 (by decide)), P2_4.keep rfl, P3_4.keep rfl, P7_8.keep rfl⟩
            simp only [Act.put, List.setIfInBounds_toArray, List.set_cons_zero, List.set_cons_succ])
        · (
            intro l a wr hI hl hd K' hK
            obtain ⟨u32, u33, u34, u35, u36, u37, u38, u39, u9, B, ha, s0, s1, s2, s3, s4, s5, hB, hN, hA, h8, P0_7, P6_7, P5_6, P1_5, P4_5, P2_4, P3_4, P7_8⟩ := hI
            simp only [Act.put, List.setIfInBounds_toArray, List.set_cons_zero, List.set_cons_succ] at ha
            have q5 := s5 (hd 5 (by decide))
            have h7 := (P6_7 hl)
            have hO := (hN h7).2
            subst ha q5
            go_simp
            refine hK.out _ _ ⟨_, _, _, _, _, _, _, _, _, wr.heap.size, ?_, s0.keep rfl, s1.keep rfl, s2.keep rfl, s3.keep rfl, s4.keep rfl, s5.keep rfl, (fun _ => ⟨rfl, fun _ => heap_new' rfl _⟩), (fun _ => ⟨own_off (hN h7).1 ((Off.refl _ wr).alloc _), hO.alloc _⟩), (fun h => by rw [upd_ne _ (by decide), h7] at h; cases h), ⟨fun h => h8.1 (by rw [upd_ne _ (by decide)] at h; exact h), fun h => h8.2 (by rw [upd_ne _ (by decide)] at h; exact h)⟩, P0_7.keep rfl, P6_7.keep rfl, Dep.at (hd 5 (by decide)), P1_5.keep rfl, P4_5.keep rfl, P2_4.keep rfl, P3_4.keep rfl, P7_8.keep rfl⟩
            simp only [Act.put, List.setIfInBounds_toArray, List.set_cons_zero, List.set_cons_succ])
        · (
            intro l a wr hI hl hd K' hK
            obtain ⟨u32, u33, u34, u35, u36, u37, u38, u39, u9, B, ha, s0, s1, s2, s3, s4, s5, hB, hN, hA, h8, P0_7, P6_7, P5_6, P1_5, P4_5, P2_4, P3_4, P7_8⟩ := hI
            simp only [Act.put, List.setIfInBounds_toArray, List.set_cons_zero, List.set_cons_succ] at ha
            have q0 := s0 (hd 0 (by decide))
            have hB6 := hB (hd 6 (by decide))
            have q6 := hB6.1
            subst ha q0 q6
            obtain ⟨hr7, hO⟩ := hN hl
            have hcb := hB6.2 hl
            obtain ⟨v', w1, hrun, ho1, hg1, _, _⟩ := run_append_own_at (P := Tryd.prog) wr W0.heap.size 38 38 24 i0' _ 4 32 Tryd.underlying38 hi hz0 hz1 hz2 rfl (by decide) (.slice va k vc) k L hr7 ⟨B, 0, none⟩ 1 1 (words4 z) rfl (words4_at hcb) (words4_one z) (by unfold maxLen; omega) (by omega) (Nat.le_trans hbase hO.size)
            have hO1 : Off (fun _ => False) W0 w1 := grown_off (HW01.out.trans hO (fun _ _ c => c)) hb0 hr7 hg1
            rw [if_pos (by rfl)]
            refine append_oper rfl rfl rfl hrun ?_
            refine hK.out _ _ ⟨_, _, _, _, _, _, _, _, _, B, ?_, s0.keep rfl, s1.keep rfl, s2.keep rfl, s3.keep rfl, s4.keep rfl, s5.keep rfl, (fun _ => ⟨rfl, fun h => by rw [upd_same] at h; cases h⟩), (fun h => by rw [upd_same] at h; cases h), (fun _ => ⟨ho1, hO1⟩), ⟨fun h => (by rw [upd_ne _ (by decide), P7_8 hl] at h <;> cases h), fun h => h8.2 (by rw [upd_ne _ (by decide)] at h; exact h)⟩, Dep.at (hd 0 (by decide)), Dep.at (hd 6 (by decide)), P5_6.keep rfl, P1_5.keep rfl, P4_5.keep rfl, P2_4.keep rfl, P3_4.keep rfl, P7_8.keep rfl⟩
            simp only [Act.put, List.setIfInBounds_toArray, List.set_cons_zero, List.set_cons_succ])
        · (
            intro l a wr hI hl hd K' hK
            obtain ⟨u32, u33, u34, u35, u36, u37, u38, u39, u9, B, ha, s0, s1, s2, s3, s4, s5, hB, hN, hA, h8, P0_7, P6_7, P5_6, P1_5, P4_5, P2_4, P3_4, P7_8⟩ := hI
            simp only [Act.put, List.setIfInBounds_toArray, List.set_cons_zero, List.set_cons_succ] at ha
            subst ha
            go_simp
            refine hK.out _ _ ⟨_, _, _, _, _, _, _, _, _, B, ?_, s0.keep rfl, s1.keep rfl, s2.keep rfl, s3.keep rfl, s4.keep rfl, s5.keep rfl, (fun h => by obtain ⟨h1, h2⟩ := hB (by rw [upd_ne _ (by decide)] at h; exact h); exact ⟨h1, fun h' => h2 (by rw [upd_ne _ (by decide)] at h'; exact h')⟩), (fun h => hN (by rw [upd_ne _ (by decide)] at h; exact h)), (fun h => hA (by rw [upd_ne _ (by decide)] at h; exact h)), ⟨fun _ => rfl, fun h => by rw [upd_same] at h; cases h⟩, P0_7.keep rfl, P6_7.keep rfl, P5_6.keep rfl, P1_5.keep rfl, P4_5.keep rfl, P2_4.keep rfl, P3_4.keep rfl, Dep.at (hd 7 (by decide))⟩
            simp only [Act.put, List.setIfInBounds_toArray, List.set_cons_zero, List.set_cons_succ])
        · intro l a wc hI hd
          obtain ⟨u32, u33, u34, u35, u36, u37, u38, u39, u9, B, ha, s0, s1, s2, s3, s4, s5, hB, hN, hA, h8, P0_7, P6_7, P5_6, P1_5, P4_5, P2_4, P3_4, P7_8⟩ := hI
          simp only [Act.put, List.setIfInBounds_toArray, List.set_cons_zero, List.set_cons_succ] at ha
          have q0 := s0 (hd 0 (by decide))
          have q1 := s1 (hd 1 (by decide))
          have q2 := s2 (hd 2 (by decide))
          have q3 := s3 (hd 3 (by decide))
          have q4 := s4 (hd 4 (by decide))
          have q5 := s5 (hd 5 (by decide))
          have q6 := (hB (hd 6 (by decide))).1
          have q8 := h8.1 (hd 8 (by decide))
          obtain ⟨hown, hO⟩ := hA (hd 7 (by decide))
          subst ha q0 q1 q2 q3 q4 q5 q6 q8
          clear hd s0 s1 s2 s3 s4 s5 hB hN hA h8 P0_7 P6_7 P5_6 P1_5 P4_5 P2_4 P3_4 P7_8
          obtain ⟨g', cap', rfl⟩ := ownsRow_succ hown
          have HRn := Lib.hid (show wc.ownsRow W0.heap.size 24 4 (.slice (some ⟨g', 0, none⟩) (k + 1) cap') (k + 1) (flat4 (ys.take (k + 1))) by rw [HYt.out, flat4_append, ← HL2.out]; exact hown)
          have HOn := Lib.hid hO
          clear hown hO
          go_wp2
          go_roundw
          case rel => exact ⟨k + 1, by omega, by simp, ⟨_, _, rfl, HRn.out⟩, HOn.out⟩
          case measure => simp [intOf] <;> omega
      · obtain rfl : k = n2 := by omega
        obtain ⟨W3, hW3⟩ : ∃ W3, W3 = wr := ⟨_, rfl⟩
        subst hW3
        have HLx := Lib.hid (ls_of_own (ys := ys) (by rw [List.take_of_length_le (by rw [HYs.out, List.length_map, HLn.out]; exact Nat.le_refl _)] at hown; exact hown) (by rw [HYs.out, List.length_map]; exact HLn.out) (by omega))
        have HOr := Lib.hid hO
        have hpb := hO.heap HPk.out (fun c => c)
        have hnb := hO.heap HNk.out (fun c => c)
        have HK10 : Hid (∀ W, Off (fun _ => False) W3 W → (W.cell? ⟨u0.heap.size + 1, 0, none⟩ = some (.int .u64 (wd p 0 : Int)) ∧ W.cell? ⟨u0.heap.size + 1, 1, none⟩ = some (.int .u64 (wd p 1 : Int)) ∧ W.cell? ⟨u0.heap.size + 1, 2, none⟩ = some (.int .u64 (wd p 2 : Int)) ∧ W.cell? ⟨u0.heap.size + 1, 3, none⟩ = some (.int .u64 (wd p 3 : Int))) ∧ (W.cell? ⟨w.heap.size, 0, none⟩ = some (.int .u64 (wd n1 0 : Int)) ∧ W.cell? ⟨w.heap.size, 1, none⟩ = some (.int .u64 (wd n1 1 : Int)) ∧ W.cell? ⟨w.heap.size, 2, none⟩ = some (.int .u64 (wd n1 2 : Int)) ∧ W.cell? ⟨w.heap.size, 3, none⟩ = some (.int .u64 (wd n1 3 : Int))) ∧ Off (fun _ => False) W3 W) := Lib.hid (fun W h => ⟨cells4 (h.heap hpb (fun c => c)), cells4 (h.heap hnb (fun c => c)), h⟩)
        have HTW := Lib.hid (fun W (h : Off (fun _ => False) W3 W) => HT0.out W (HOr.out.trans h (fun _ _ c => c)))
        have HNb := Lib.hid hnb
        have HFb := Lib.hid (hO.heap HFk.out (fun c => c))
        have HV2 := Lib.hid (HVs.out W3 hO)
        have hsz0 := hO.size
        have hszw := HOw.out.size
        clear hown hO hpb hnb
        go_upto_region 10 with fail
        refine wp_region_inv (fun a0 l a' w' => ∃ (u41 : Value) (u42 : Value) (u43 : Value) (u44 : Value) (u45 : Value) (u12 : Value) (b12 : Nat), a' = (Act.put (Act.put (Act.put (Act.put (Act.put (Act.put a0 (some 41) u41) (some 42) u42) (some 43) u43) (some 44) u44) (some 45) u45) (some 12) u12) ∧ Slot l 0 u41 (V p) ∧ Slot l 1 u42 (V p) ∧ Slot l 2 u43 (V n1) ∧ Slot l 3 u44 (V c) ∧ Slot l 4 u45 (V u) ∧ Blk l 5 6 u12 b12 W3 w' (.cells #[.int .u64 0, .int .u64 0, .int .u64 0, .int .u64 0] 24) (.cells #[.int .u64 (wd u 0 : Int), .int .u64 (wd u 1 : Int), .int .u64 (wd u 2 : Int), .int .u64 (wd u 3 : Int)] 24) ∧ Off (fun _ => False) W3 w') (by kernel_rfl) (by kernel_rfl) ?_ ⟨?_, ?_, ?_, ?_, ?_, ?_, ?_, trivial⟩ ?_
        · refine ⟨?z41, ?z42, ?z43, ?z44, ?z45, ?z12, 0, ?fr, Slot.start _ _ _, Slot.start _ _ _, Slot.start _ _ _, Slot.start _ _ _, Slot.start _ _ _, Blk.start _ _ _ _ _ _ _ _, (Off.refl _ W3).drew⟩
          case fr => first | (simp only [Act.put, List.setIfInBounds_toArray, List.set_cons_zero, List.set_cons_succ]; rfl) | simp only [Act.put, List.setIfInBounds_toArray, List.set_cons_zero, List.set_cons_succ]
        · intro l a wr hI hl hd K' hK
          obtain ⟨u41, u42, u43, u44, u45, u12, b12, ha, s0, s1, s2, s3, s4, B5, hO⟩ := hI
          simp only [Act.put, List.setIfInBounds_toArray, List.set_cons_zero, List.set_cons_succ] at ha
          subst ha
          have hc := HK10.out wr hO
          have p0 := hc.1.1
          have p1 := hc.1.2.1
          have p2 := hc.1.2.2.1
          have p3 := hc.1.2.2.2
          clear hc
          go_simp
          refine hK.out _ _ ⟨_, _, _, _, _, _, _, ?_, Slot.new _ _ _, s1.keep rfl, s2.keep rfl, s3.keep rfl, s4.keep rfl, B5.keep (Off.refl _ wr) rfl rfl, hO⟩
          simp only [Act.put, List.setIfInBounds_toArray, List.set_cons_zero, List.set_cons_succ]
        · intro l a wr hI hl hd K' hK
          obtain ⟨u41, u42, u43, u44, u45, u12, b12, ha, s0, s1, s2, s3, s4, B5, hO⟩ := hI
          simp only [Act.put, List.setIfInBounds_toArray, List.set_cons_zero, List.set_cons_succ] at ha
          subst ha
          have hc := HK10.out wr hO
          have p0 := hc.1.1
          have p1 := hc.1.2.1
          have p2 := hc.1.2.2.1
          have p3 := hc.1.2.2.2
          clear hc
          go_simp
          refine hK.out _ _ ⟨_, _, _, _, _, _, _, ?_, s0.keep rfl, Slot.new _ _ _, s2.keep rfl, s3.keep rfl, s4.keep rfl, B5.keep (Off.refl _ wr) rfl rfl, hO⟩
          simp only [Act.put, List.setIfInBounds_toArray, List.set_cons_zero, List.set_cons_succ]
        · intro l a wr hI hl hd K' hK
          obtain ⟨u41, u42, u43, u44, u45, u12, b12, ha, s0, s1, s2, s3, s4, B5, hO⟩ := hI
          simp only [Act.put, List.setIfInBounds_toArray, List.set_cons_zero, List.set_cons_succ] at ha
          subst ha
          have hc := HK10.out wr hO
          have p0 := hc.2.1.1
          have p1 := hc.2.1.2.1
          have p2 := hc.2.1.2.2.1
          have p3 := hc.2.1.2.2.2
          clear hc
          go_simp
          refine hK.out _ _ ⟨_, _, _, _, _, _, _, ?_, s0.keep rfl, s1.keep rfl, Slot.new _ _ _, s3.keep rfl, s4.keep rfl, B5.keep (Off.refl _ wr) rfl rfl, hO⟩
          simp only [Act.put, List.setIfInBounds_toArray, List.set_cons_zero, List.set_cons_succ]
        · intro l a wr hI hl hd K' hK
          obtain ⟨u41, u42, u43, u44, u45, u12, b12, ha, s0, s1, s2, s3, s4, B5, hO⟩ := hI
          simp only [Act.put, List.setIfInBounds_toArray, List.set_cons_zero, List.set_cons_succ] at ha
          have q1 := s1 (hd 1 (by decide))
          have q2 := s2 (hd 2 (by decide))
          subst ha q1 q2
          go_simp
          refine (held_inv (FMc.out wr (HTW.out wr hO)) hO).mono ?_
          rintro e w1 ⟨rfl, hO1, hOW⟩
          go_wp2_with fail
          refine hK.out _ _ ⟨_, _, _, _, _, _, _, ?_, s0.keep rfl, s1.keep rfl, s2.keep rfl, Slot.new _ _ _, s4.keep rfl, B5.keep hOW rfl rfl, hO1⟩
          simp only [Act.put, List.setIfInBounds_toArray, List.set_cons_zero, List.set_cons_succ]
        · intro l a wr hI hl hd K' hK
          obtain ⟨u41, u42, u43, u44, u45, u12, b12, ha, s0, s1, s2, s3, s4, B5, hO⟩ := hI
          simp only [Act.put, List.setIfInBounds_toArray, List.set_cons_zero, List.set_cons_succ] at ha
          have q0 := s0 (hd 0 (by decide))
          have q3 := s3 (hd 3 (by decide))
          subst ha q0 q3
          go_simp
          refine (held_inv (FXu.out wr (HTW.out wr hO)) hO).mono ?_
          rintro e w1 ⟨rfl, hO1, hOW⟩
          go_wp2_with fail
          refine hK.out _ _ ⟨_, _, _, _, _, _, _, ?_, s0.keep rfl, s1.keep rfl, s2.keep rfl, s3.keep rfl, Slot.new _ _ _, B5.keep hOW rfl rfl, hO1⟩
          simp only [Act.put, List.setIfInBounds_toArray, List.set_cons_zero, List.set_cons_succ]
        · intro l a wr hI hl hd K' hK
          obtain ⟨u41, u42, u43, u44, u45, u12, b12, ha, s0, s1, s2, s3, s4, B5, hO⟩ := hI
          simp only [Act.put, List.setIfInBounds_toArray, List.set_cons_zero, List.set_cons_succ] at ha
          subst ha
          go_simp
          refine hK.out _ _ ⟨_, _, _, _, _, _, _, ?_, s0.keep rfl, s1.keep rfl, s2.keep rfl, s3.keep rfl, s4.keep rfl, B5.make hl rfl hO, hO.alloc _⟩
          simp only [Act.put, List.setIfInBounds_toArray, List.set_cons_zero, List.set_cons_succ]
        · intro l a wr hI hl hd K' hK
          obtain ⟨u41, u42, u43, u44, u45, u12, b12, ha, s0, s1, s2, s3, s4, B5, hO⟩ := hI
          simp only [Act.put, List.setIfInBounds_toArray, List.set_cons_zero, List.set_cons_succ] at ha
          have h5 := hd 5 (by decide)
          have q5 := B5.ptr h5
          have q4 := s4 (hd 4 (by decide))
          subst ha q5 q4
          obtain ⟨⟨m0, m1, m2, m3⟩, fz, lt⟩ := zero_cells (B5.was h5 hl)
          go_simp
          refine hK.out _ _ ⟨_, _, _, _, _, _, _, ?_, s0.keep rfl, s1.keep rfl, s2.keep rfl, s3.keep rfl, s4.keep rfl, B5.put hl h5 rfl rfl, setCells_in hO (fun c => absurd c (Nat.not_lt.2 (B5.new h5))) [.int .u64 (wd u 0 : Int), .int .u64 (wd u 1 : Int), .int .u64 (wd u 2 : Int), .int .u64 (wd u 3 : Int)]⟩
          simp only [Act.put, List.setIfInBounds_toArray, List.set_cons_zero, List.set_cons_succ]
        · intro l a wc hI hd
          obtain ⟨u41, u42, u43, u44, u45, u12, b12, ha, s0, s1, s2, s3, s4, B5, hO⟩ := hI
          simp only [Act.put, List.setIfInBounds_toArray, List.set_cons_zero, List.set_cons_succ] at ha
          have q0 := s0 (hd 0 (by decide))
          have q1 := s1 (hd 1 (by decide))
          have q2 := s2 (hd 2 (by decide))
          have q3 := s3 (hd 3 (by decide))
          have q4 := s4 (hd 4 (by decide))
          have q5 := B5.ptr (hd 5 (by decide))
          have n12 : wc.heap[b12]? = some (.cells #[.int .u64 (wd u 0 : Int), .int .u64 (wd u 1 : Int), .int .u64 (wd u 2 : Int), .int .u64 (wd u 3 : Int)] 24) := B5.now (hd 5 (by decide)) (hd 6 (by decide))
          have v12 := B5.new (hd 5 (by decide))
          subst ha q0 q1 q2 q3 q4 q5
          clear hd s0 s1 s2 s3 s4 B5
          obtain ⟨W4, hW4⟩ : ∃ W4, W4 = wc := ⟨_, rfl⟩
          subst hW4
          have HLy := Lib.hid (HLx.out.off hO (fun _ _ _ c => c))
          have HF4 := Lib.hid (hO.heap HFb.out (fun c => c))
          have HN4 := Lib.hid (hO.heap HNb.out (fun c => c))
          have HU4 := Lib.hid n12
          have HO4 := Lib.hid ((HOw.out.trans HOr.out (fun _ _ c => c)).trans hO (fun _ _ c => c))
          have hs34 := hO.size
          have hl4 := heap_lt n12
          have hlF := heap_lt HF4.out
          have hlN := heap_lt HN4.out
          clear n12 v12 hO HLx HK10 HTW HNb HFb
          go_wp2_with fail
          refine (new_tp _).mono ?_
          rintro e ua ⟨rfl, hT1, hOa⟩
          have HT1 := Lib.hid hT1
          have HOa := Lib.hid hOa
          have ha4 := HOa.out.size
          clear hT1 hOa
          go_wp2_with fail
          refine (new_tp _).mono ?_
          rintro e ub ⟨rfl, hT2, hOb⟩
          have HT2 := Lib.hid hT2
          have HOb := Lib.hid hOb
          have hab := hOb.size
          clear hT2 hOb
          go_wp2_with fail
          refine (new_tp _).mono ?_
          rintro e uc ⟨rfl, hT3, hOc⟩
          have hbc := hOc.size
          have HOac := Lib.hid ((HOa.out.trans HOb.out (fun _ _ c => c)).trans hOc (fun _ _ c => c))
          have HT1c := Lib.hid ((HT1.out.off0 HOb.out).off0 hOc)
          have HT2c := Lib.hid (HT2.out.off0 hOc)
          have HT3c := Lib.hid hT3
          have hFc := HOac.out.heap HF4.out (fun c => c)
          have hUc := HOac.out.heap HU4.out (fun c => c)
          have hNc := HOac.out.heap HN4.out (fun c => c)
          have HFc := Lib.hid hFc
          have HUc := Lib.hid hUc
          have HLc := Lib.hid (HLy.out.off HOac.out (fun _ _ _ c => c))
          obtain ⟨f0, f1, f2, f3, f4, f5, f6, f7, f8, f9, f10, f11, f12, f13⟩ := fv_cells hFc
          obtain ⟨y0, y1, y2, y3⟩ := cells4 hUc
          obtain ⟨m0, m1, m2, m3⟩ := cells4 hNc
          clear hT3 hOc hFc hUc hNc HT1 HT2 HOa HOb HF4 HU4 HN4 HLy
          go_wp2_with fail
          refine (FPw.out (some ⟨W4.heap.size, 0, none⟩) _ uc HT1c.out).mono ?_
          rintro e ud ⟨rfl, ⟨S1, hP1, hs1⟩, hOd⟩
          clear f0 f1 f2 f3 f4 f5 f6 f7 f8 f9 f10 f11 f12 f13 y0 y1 y2 y3 m0 m1 m2 m3
          rw [ext_new] at hP1
          have hcd := hOd.size
          have HP1 := Lib.hid hP1
          have hFc := hOd.heap HFc.out (fun c => by omega)
          have hUc := hOd.heap HUc.out (fun c => by omega)
          have HT2d := Lib.hid (HT2c.out.off hOd (fun k c d => by omega))
          have HT3d := Lib.hid (HT3c.out.off hOd (fun k c d => by omega))
          have HLd := Lib.hid (HLc.out.off hOd (fun k _ c d => by omega))
          have HFd := Lib.hid hFc
          have HOd := Lib.hid hOd
          obtain ⟨f0, f1, f2, f3, f4, f5, f6, f7, f8, f9, f10, f11, f12, f13⟩ := fv_cells hFc
          obtain ⟨y0, y1, y2, y3⟩ := cells4 hUc
          clear hP1 hOd hFc hUc HT1c HT2c HT3c HFc HUc HLc
          go_wp2_with fail
          refine (FIv.out (some ⟨ua.heap.size, 0, none⟩) _ ud HT2d.out).mono ?_
          rintro e ue ⟨rfl, ⟨S2, hP2, hs2⟩, hOe⟩
          clear f0 f1 f2 f3 f4 f5 f6 f7 f8 f9 f10 f11 f12 f13 y0 y1 y2 y3
          rw [ext_new] at hP2
          have hde := hOe.size
          have HP2 := Lib.hid hP2
          have HP1e := Lib.hid (HP1.out.off hOe (fun k c d => by rcases hs1 k d with h | h <;> omega))
          have hFc := hOe.heap HFd.out (fun c => by omega)
          have HT3e := Lib.hid (HT3d.out.off hOe (fun k c d => by omega))
          have HLe := Lib.hid (HLd.out.off hOe (fun k _ c d => by omega))
          have HOe := Lib.hid hOe
          obtain ⟨f0, f1, f2, f3, f4, f5, f6, f7, f8, f9, f10, f11, f12, f13⟩ := fv_cells hFc
          clear hP2 hOe hFc HT2d HT3d HFd HLd HP1
          go_wp2_with fail
          refine (FBa.out k vc va HLn.out (some ⟨ub.heap.size, 0, none⟩) _ _ ue HLe.out (fun b hb => ⟨by omega, fun c => by omega⟩) HT3e.out).mono ?_
          rintro e uf ⟨ga, gc, rfl, _, ⟨S3, hP3, hs3⟩, hOf⟩
          clear f0 f1 f2 f3 f4 f5 f6 f7 f8 f9 f10 f11 f12 f13
          rw [ext_new] at hP3
          have hef := hOf.size
          have HP3 := Lib.hid hP3
          have HP1f := Lib.hid (HP1e.out.off hOf (fun k c d => by rcases hs1 k d with h | h <;> omega))
          have HP2f := Lib.hid (HP2.out.off hOf (fun k c d => by rcases hs2 k d with h | h <;> omega))
          have HOf := Lib.hid ((((HO4.out.trans HOac.out (fun _ _ c => c)).trans HOd.out (fun k hk c => by omega)).trans HOe.out (fun k hk c => by omega)).trans hOf (fun k hk c => by omega))
          clear hP3 hOf HT3e HLe HP1e HP2 hs1 hs2 hs3
          go_wp2_with fail
          refine (powevents_any _).mono ?_
          rintro e ug ⟨pv, rfl, hpo, hOg⟩
          have HEv := Lib.hid (evs_of_own hpo)
          have HP1g := Lib.hid (HP1f.out.off0 hOg)
          have HP2g := Lib.hid (HP2f.out.off0 hOg)
          have HP3g := Lib.hid (HP3.out.off0 hOg)
          have HOg := Lib.hid (HOf.out.trans hOg (fun _ _ c => c))
          clear hpo hOg HP1f HP2f HP3 HOf
          go_wp2_with fail
          refine (FAL.out _ (hT.off HOg.out)).mono ?_
          rintro e uh ⟨rfl, hOh⟩
          have HEh := Lib.hid (HEv.out.off hOh (fun _ _ _ c => c))
          have HP1h := Lib.hid (HP1g.out.off0 hOh)
          have HP2h := Lib.hid (HP2g.out.off0 hOh)
          have HP3h := Lib.hid (HP3g.out.off0 hOh)
          have HOh := Lib.hid (HOg.out.trans hOh (fun _ _ c => c))
          clear hOh HEv HP1g HP2g HP3g HOg
          have hpl : (powE 64).length ≤ 90000 := by rw [powE_length]; omega
          have hbl : (batE k).length ≤ 90000 := by
            unfold batE
            split
            · simp
            · rw [List.length_append, List.length_append, coefU_length, coefD_length, powE_length, List.length_range]; omega
          have hps : decide (powE 64 = powE 64) = true := by simp
          have hbs : decide (batE k = batE k) = true := by simp
          go_wp2_with fail
          refine (events_any _ _ _ _ HP1h.out.1 hpl).mono ?_
          rintro e uj ⟨ev1, rfl, hE1, hOj⟩
          have hEj := HEh.out.off hOj (fun _ _ _ c => c)
          have HS1 := Lib.hid (same_any ev1 pv _ _ _ _ uj hE1 hEj (by omega) (by omega))
          have HEj := Lib.hid hEj
          have HP2j := Lib.hid (HP2h.out.off0 hOj)
          have HP3j := Lib.hid (HP3h.out.off0 hOj)
          have HOj := Lib.hid (HOh.out.trans hOj (fun _ _ c => c))
          clear hOj hE1 hEj HEh HP1h HP2h HP3h HOh
          go_wp2_with fail
          refine HS1.out.mono ?_
          rintro e uk ⟨rfl, hOk⟩
          rw [hps]
          have HEk := Lib.hid (HEj.out.off hOk (fun _ _ _ c => c))
          have HP2k := Lib.hid (HP2j.out.off0 hOk)
          have HP3k := Lib.hid (HP3j.out.off0 hOk)
          have HOk := Lib.hid (HOj.out.trans hOk (fun _ _ c => c))
          clear hOk HS1 HEj HP2j HP3j HOj
          go_wp2_with fail
          refine (events_any _ _ _ _ HP2k.out.1 hpl).mono ?_
          rintro e ul ⟨ev2, rfl, hE2, hOl⟩
          have hEl := HEk.out.off hOl (fun _ _ _ c => c)
          have HS2 := Lib.hid (same_any ev2 pv _ _ _ _ ul hE2 hEl (by omega) (by omega))
          have HP3l := Lib.hid (HP3k.out.off0 hOl)
          have HOl := Lib.hid (HOk.out.trans hOl (fun _ _ c => c))
          clear hOl hE2 hEl HEk HP2k HP3k HOk
          go_wp2_with fail
          refine HS2.out.mono ?_
          rintro e um ⟨rfl, hOm⟩
          rw [hps]
          have HP3m := Lib.hid (HP3l.out.off0 hOm)
          have HOm := Lib.hid (HOl.out.trans hOm (fun _ _ c => c))
          clear hOm HS2 HP3l HOl
          go_wp2_with fail
          refine (events_any _ _ _ _ HP3m.out.1 hbl).mono ?_
          rintro e un ⟨ev3, rfl, hE3, hOn⟩
          have HE3 := Lib.hid hE3
          have HOn := Lib.hid (HOm.out.trans hOn (fun _ _ c => c))
          clear hOn hE3 HP3m HOm
          go_wp2_with fail
          refine (batchevents_any k (by omega) _).mono ?_
          rintro e uo ⟨bv, rfl, hbo, hOo⟩
          have HS3 := Lib.hid (same_any ev3 bv _ _ _ _ uo (HE3.out.off hOo (fun _ _ _ c => c)) (evs_of_own hbo) (by omega) (by omega))
          have HOo := Lib.hid (HOn.out.trans hOo (fun _ _ c => c))
          clear hOo hbo HE3 HOn
          go_wp2_with fail
          refine HS3.out.mono ?_
          rintro e up ⟨rfl, hOp⟩
          rw [hbs]
          have HOp := Lib.hid (HOo.out.trans hOp (fun _ _ c => c))
          clear hOp HS3
          go_wp2
          go_ret
          exact ⟨rfl, HOp.out⟩

theorem door_met (os : Os) (args : Array Value) : laidMetH Tryd.prog [("sharecore/field.fields", Rows.laid_sharecore_field_fields)] ((World.doorLaid Tryd.prog 400 os).forCall (fun _ _ => 0) ⟨#[], args, []⟩).memory :=
  laidMetH_of_parts3 (fuel := 8) (laidMet_of_run' 8 (by kernel_rfl) (by kernel_rfl)) (by kernel_rfl) (by kernel_rfl)

set_option maxRecDepth 100000 in
theorem lifted (os : Os) (started : os.Started) (H : Type) (enc : TypeId × Value → H) :
    ReturnsInHanded {} Tryd.checked os 6 .any (fun w args => (Rows.powerEventsSpec.pre enc Tryd.prog Tryd.f6 [] false w args ∧ laidMetH Tryd.prog [("sharecore/field.fields", Rows.laid_sharecore_field_fields)] w) ∧ sizedMet enc Tryd.prog Tryd.f6 (OpenSpec.ofChange Rows.powerEventsSpec) false w args)
      (Rows.powerEventsSpec.post enc Tryd.prog Tryd.f6 false true false false) := by
  refine returnsInHanded_of_change_and (C := Tryd.checked) (X := fun w _ => laidMetH Tryd.prog [("sharecore/field.fields", Rows.laid_sharecore_field_fields)] w) (fun _ _ _ hh h => h.of_heap hh) own started (by kernel_rfl) Tryd.func6
    (ChangeSpec.witness_shaped (enc := enc) (C := Tryd.checked) (os := os) (X := fun w _ => laidMetH Tryd.prog [("sharecore/field.fields", Rows.laid_sharecore_field_fields)] w) false (World.doorLaid Tryd.prog 400 os) #[.bool false, .agg #[.int .u64 0, .int .u64 0, .int .u64 0, .int .u64 0], .slice none 0 0] 8 rfl (World.shaped_of_RefB (by kernel_rfl) (by kernel_rfl)) (by kernel_rfl) (by kernel_rfl) (by kernel_rfl) (door_met os _)) ?_
  intro W base args ds gs before hval0 hW _ _ hL _
  have hval : ∀ (j : Nat) t v, Tryd.f6.params[j]? = some t → args[j]? = some v → Value.okWide Tryd.prog W .any base t v := hval0
  have hW' := hW
  obtain ⟨p, q, hA0, hV, rfl, hfz, hnd⟩ := hW
  have hA : DataW.TrodAll enc Tryd.prog W 0 (fun _ => true) true Tryd.f6.params.toList args.toList ds p := hA0
  rw [Tryd.params6] at hA hval
  obtain ⟨v0, vs0, d0, ds0, p0, q0, hargs, rfl, rfl, h0, r0⟩ := trodAll_cons hA
  obtain ⟨v1, vs1, d1, ds1, p1, q1, rfl, rfl, rfl, h1, r1⟩ := trodAll_cons r0
  obtain ⟨v2, vs2, d2, ds2, p2, q2, rfl, rfl, rfl, h2, r2⟩ := trodAll_cons r1
  obtain ⟨rfl, rfl, rfl⟩ := trodAll_nil r2
  obtain rfl : args = #[v0, v1, v2] := by cases args; simp_all
  obtain ⟨rfl, rfl⟩ := trodVars_none hV
  obtain ⟨i0, rfl, rfl, rfl⟩ := open_bool Tryd.underlying4 (hval 0 4 v0 rfl rfl) h0
  have w0 := trivial
  have k1 := h1
  have lt1 : ∀ x ∈ p1, x.block < W.heap.size := by obtain ⟨m, hm⟩ := k1; exact DataW.trod_lt m _ _ _ hm
  obtain ⟨n1, w1, rfl⟩ := open_vec (hval 1 23 v1 rfl rfl) h1
  obtain ⟨a2, n2, cap2, rfl⟩ := okWide_slice Tryd.underlying37 (hval 2 37 v2 rfl rfl)
  have k2 := h2
  have lt2 : ∀ x ∈ p2, x.block < W.heap.size := by obtain ⟨m, hm⟩ := k2; exact DataW.trod_lt m _ _ _ hm
  obtain ⟨xs2, hn2, w2⟩ : ∃ xs, n2 = xs.length ∧ VsAt W (.slice a2 n2 cap2) xs (fun k => k < W.heap.size) := by
    obtain ⟨fuel, hf⟩ := h2
    exact vecs_of_trod hf
  have hT := tab_of_laid hL
  clear hA0 hval0
  refine (walk i0 n1 a2 n2 cap2 xs2 W w0 w1 hn2 w2 hT).mono fun e W' ⟨he, hoff⟩ => ?_
  have bel : Below W.heap.size W W' := hoff.below (Nat.le_refl _) (fun _ _ c => c)
  subst he
  exact ⟨_, rfl, _, _, _, [], _, [], hW', trodAll_mk1 (shut_bool Tryd.underlying4 _), (trodAll_cons_mk (shut_bool Tryd.underlying4 _) (trodAll_cons_mk (Below.trod laidOut (by kernel_rfl) (of_decide_eq_true (by kernel_rfl)) k1 bel lt1) (trodAll_cons_mk (Below.trod laidOut (by kernel_rfl) (of_decide_eq_true (by kernel_rfl)) k2 bel lt2) trodAll_mk0))), rfl, bel.frame _, fun h => by cases h⟩

theorem over : Rows.powerEventsRow.holds Tryd.pinned (OpenSpec.ofChange Rows.powerEventsSpec) :=
  OpenClaim.holds_of_wide 6 Tryd.f6 rfl rfl rfl rfl rfl rfl rfl ⟨rfl, rfl, rfl, rfl, rfl⟩ rfl rfl rfl rfl rfl (by kernel_rfl) Tryd.func6 (by kernel_rfl)
    (of_decide_eq_true (by kernel_rfl)) (by unfold Func.isWrapper; first | (rw [if_pos (by decide +kernel)]; kernel_rfl) | (rw [if_neg (by decide +kernel)]; exact ⟨rfl, rfl⟩))
    (fun os started H enc _ => lifted os started H enc)

theorem proved : Rows.PowerEventsCardSaid :=
  Claim7.holds_tied_plain_at .later [] [.data] true (true, "83b913165a27ef716bd447b61373d9eb70f4ac054efc4ed5ca269b7b66cbbef5") false
    over (fun _ h => by cases h) (by kernel_rfl) (fun _ h => by cases h) powerEvents_row_tie rfl ⟨rfl, rfl⟩ (by kernel_rfl) rfl
    (fun f fn hf hfn => by
      obtain rfl : f = 6 := Option.some.inj ((show Tryd.prog.funcNamed "sharecore/sharecorelaw06.PowerEvents" = some 6 by kernel_rfl).symm.trans hf) |>.symm
      obtain rfl : fn = Tryd.f6 := (Option.some.inj (Tryd.func6.symm.trans hfn)).symm
      exact ⟨by kernel_rfl, fun j t ht => by
        rw [Tryd.params6] at ht
        have hm : t ∈ [4, 23, 37] := by simpa using Array.mem_of_getElem? ht
        have hall : ([4, 23, 37].all fun u => !Tryd.prog.wantsStandIn u) = true := by kernel_rfl
        exact (show Tryd.prog.wantsStandIn t = false by simpa using List.all_eq_true.1 hall t hm)⟩)
    (by kernel_rfl)
#print axioms proved
end Go.Proofs.YtnegdlmpmmehmaaDoor.powerEvents
