/-
  For every field and all bytes, the examples of the chapter hold, and Wide of 64 bytes is the sum of Wide of their low and of their high half: the statement of P7.3. No condition.
-/
import Derived.Test.YtclknpkjnkgejaaDoorRows
import Derived.Test.YtclknpkjnkgejaaDoorTie
import Derived.Test.YtclknpkjnkgejaaDoorCards
import Derived.LaidMore
import Derived.LaidHandle
import Derived.SevenTiedAt
import Derived.Stop.Joined
import Derived.JoinedOf
import Derived.Test.YtclknpkjnkgejaaDoorLimbOpen
import Derived.Test.YtclknpkjnkgejaaDoorFieldTab
import Derived.Test.YtclknpkjnkgejaaDoorFieldHeld
import Derived.Test.YtclknpkjnkgejaaDoorBytOpen
import Derived.Test.YtclknpkjnkgejaaDoorBytAlive
import Derived.Test.YtclknpkjnkgejaaDoorBytRefs
import Derived.Test.YtclknpkjnkgejaaDoorInvMem
import Derived.Test.YtclknpkjnkgejaaDoorInvSel
import Derived.WalkKit
import Derived.ProofKit
import Derived.OpenShut
import Derived.ShutString
import Derived.ChangeOld
import Derived.Below
namespace Go.Proofs.YtclknpkjnkgejaaDoor.bytecodeAdds
open Go.ChangeShapes Go.WideShapes Go.ChangeAt Go.RowKit
set_option linter.unusedVariables false

theorem own : ownKnob Tryd.prog.godebug = none := by kernel_rfl
theorem laidOut : laidOutB Tryd.prog = true := by kernel_rfl

set_option maxRecDepth 100000 in
set_option maxHeartbeats 4000000 in
theorem walk (i0 : Bool) (a1 : Option Addr) (n1 cap1 : Nat) (bs1 : List Nat) (w : World) (w0 : True) (hn1 : n1 = bs1.length) (hc1 : n1 ≤ cap1) (hs1 : Small bs1) (w1 : BsAt w a1 bs1 (fun k => k < w.heap.size)) (hT : TabAt w) :
    Calls Tryd.prog 8 #[.bool i0, .slice a1 n1 cap1] w fun e w' => e = .returned (.bool true) ∧ Off (fun _ => False) w w' := by
  obtain ⟨id, p, i, r, s, hF, hid⟩ := fld_of i0
  have hp := hF.mp.lt
  have h1 := hF.mp.one
  have FG := Lib.hid (fun W hT => get7_any i0 hF hid W hT)
  have FAL : Hid (∀ W, TabAt W → Calls Tryd.prog 14 #[] W fun e w' => e = .returned (.bool true) ∧ Off (fun _ => False) W w') := Lib.hid (fun W hT => alive7_any W hT)
  by_cases h64 : n1 = 64
  · obtain ⟨bb, off, rfl, hSb, hcell⟩ := w1 (by omega)
    have hb0 : BsAt w (some ⟨bb, off, none⟩) bs1 (fun _ => True) := fun _ => ⟨bb, off, rfl, trivial, hcell⟩
    have hlo := numB_r256 (hs1.take 32) (by simp; omega)
    have hhi := numB_r256 (hs1.drop 32) (by simp; omega)
    have hsp := numB_split bs1 32 (by omega)
    have hW := fun W (h : Off (fun k => w.heap.size ≤ k) w W) => wide_any hF (some ⟨bb, off, none⟩) n1 cap1 bs1 _ W (hb0.later h) hn1 hs1 hc1
    rw [show wideV p bs1 = (fm p (numB bs1), 0) by unfold wideV; rw [if_pos (by omega)]] at hW
    obtain ⟨LB, hLB⟩ : ∃ LB, LB = bs1.take 32 ++ List.replicate 32 0 := ⟨_, rfl⟩
    obtain ⟨HB, hHB⟩ : ∃ HB, HB = List.replicate 32 0 ++ bs1.drop 32 := ⟨_, rfl⟩
    have hLl : LB.length = 64 := by rw [hLB]; simp; omega
    have hHl : HB.length = 64 := by rw [hHB]; simp; omega
    have hLs : Small LB := by rw [hLB]; exact (hs1.take 32).pad 32
    have hHs : Small HB := by
      rw [hHB]
      intro x hx
      rcases List.mem_append.1 hx with h | h
      · rw [(List.mem_replicate.1 h).2]; decide
      · exact hs1.drop 32 x h
    have hLn : numB LB = numB (bs1.take 32) := by rw [hLB]; exact numB_pad _ _
    have hHn : numB HB = 256 ^ 32 * numB (bs1.drop 32) := by rw [hHB, numB_append, numB_zeros, List.length_replicate, Nat.zero_add]
    have hWL := fun W b (h : ByBlk W b 5 LB) => wide_any hF (some ⟨b, 0, none⟩) 64 64 LB _ W (BsAt.of_blk (S := fun _ => True) h trivial) hLl.symm hLs (Nat.le_refl _)
    have hWH := fun W b (h : ByBlk W b 5 HB) => wide_any hF (some ⟨b, 0, none⟩) 64 64 HB _ W (BsAt.of_blk (S := fun _ => True) h trivial) hHl.symm hHs (Nat.le_refl _)
    rw [show wideV p LB = (fm p (numB (bs1.take 32)), 0) by unfold wideV; rw [if_pos hLl, hLn]] at hWL
    rw [show wideV p HB = (fm p (256 ^ 32 * numB (bs1.drop 32)), 0) by unfold wideV; rw [if_pos hHl, hHn]] at hWH
    have hNr := fun W (h : Off (fun k => w.heap.size ≤ k) w W) => refnumber_any (some ⟨bb, off, none⟩) 32 cap1 (bs1.take 32) _ W ((hb0.later h).take 32) (by simp; omega) (hs1.take 32) (by omega)
    have FcL := Lib.hid (fun W (h : Off (fun k => w.heap.size ≤ k) w W) => show BsAt W (some ⟨bb, off, none⟩) (bs1.take 32) _ from (hb0.later h).take 32)
    have FcH := Lib.hid (fun W (h : Off (fun k => w.heap.size ≤ k) w W) => show BsAt W (some ⟨bb, off + 32, none⟩) (bs1.drop 32) _ from (hb0.later h).drop 32)
    have hTl : (32 : Nat) = (bs1.take 32).length := by simp; omega
    have hDl : (32 : Nat) = (bs1.drop 32).length := by simp; omega
    obtain ⟨lo, hlo2⟩ : ∃ lo, lo = numB (bs1.take 32) := ⟨_, rfl⟩
    obtain ⟨hi, hhi2⟩ : ∃ hi, hi = 256 ^ 32 * numB (bs1.drop 32) := ⟨_, rfl⟩
    rw [← hlo2] at hWL hNr hlo hsp
    rw [← hhi2] at hWH hsp
    rw [hsp] at hW
    have hy : fm p lo < p := fm_lt (by omega) _
    have hz : fm p hi < p := fm_lt (by omega) _
    have hsum : (fm p lo + fm p hi) % p = fm p (lo + hi) := by rw [fm_add, fm_mod]
    have hMl := fun W => mod_mod p lo hp h1 hlo W
    have hX := fun W => form7_any p (lo % p) hp h1 (by have := Nat.mod_lt lo (show 0 < p by omega); omega) W
    rw [fm_mod] at hX
    obtain ⟨y, hyy⟩ : ∃ y, y = fm p lo := ⟨_, rfl⟩
    obtain ⟨z, hzz⟩ : ∃ z, z = fm p hi := ⟨_, rfl⟩
    obtain ⟨el, hx⟩ : ∃ el, el = fm p (lo + hi) := ⟨_, rfl⟩
    rw [← hyy] at hWL hy hsum hX
    rw [← hzz] at hWH hz hsum
    rw [← hx] at hW hsum
    have hMy := fun W => mod_mod p y hp h1 (by omega) W
    have hMz := fun W => mod_mod p z hp h1 (by omega) W
    have hA := fun W => mod_add p y z hp hy hz W
    rw [Nat.mod_eq_of_lt hy] at hMy
    rw [Nat.mod_eq_of_lt hz] at hMz
    rw [hsum] at hA
    obtain ⟨lm, hlm⟩ : ∃ lm, lm = lo % p := ⟨_, rfl⟩
    rw [← hlm] at hMl hX
    have hs1' : ∀ W, (Instr.slice 30 (.slice (some ⟨bb, off, none⟩) 64 cap1) none (some (.int .i64 32)) none).run Tryd.prog W = .ok (.slice (some ⟨bb, off, none⟩) 32 cap1) W := fun W => slice_hi bb off 64 cap1 32 (by omega) W
    have hs2' : ∀ W, (Instr.slice 30 (.slice (some ⟨bb, off, none⟩) 64 cap1) (some (.int .i64 32)) none none).run Tryd.prog W = .ok (.slice (some ⟨bb, off + 32, none⟩) 32 (cap1 - 32)) W := fun W => slice_lo bb off 64 cap1 32 (by omega) (by omega) W
    have hs3 : (32 : Int) ≤ (cap1 : Int) := by omega
    have hs4 : cap1 ≠ 32 := by omega
    have hmk : ∀ W, (Instr.makeSlice 30 (.int .i64 64) (.int .i64 64)).run Tryd.prog W = .ok (.slice (some ⟨W.heap.size, 0, none⟩) 64 64) (W.alloc (.cells ((List.replicate 64 0).map u8v).toArray 5)) := run_make_by 64 (by omega)
    obtain ⟨Z, hZ⟩ : ∃ Z, Z = ((List.replicate 64 0).map u8v).toArray := ⟨_, rfl⟩
    rw [← hZ] at hmk
    have HZ := Lib.hid hZ
    have HTL := Lib.hid hTl
    have HDL := Lib.hid hDl
    have HLB := Lib.hid hLB
    have HHB := Lib.hid hHB
    have FW : Hid (∀ W, Off (fun k => w.heap.size ≤ k) w W → Calls Tryd.prog 18 #[FV id p i r s, .slice (some ⟨bb, off, none⟩) n1 cap1] W fun e w' => e = .returned (.tuple #[V el, .int .i64 0]) ∧ Off (fun _ => False) W w') := Lib.hid hW
    have FWL : Hid (∀ W b, ByBlk W b 5 LB → Calls Tryd.prog 18 #[FV id p i r s, .slice (some ⟨b, 0, none⟩) 64 64] W fun e w' => e = .returned (.tuple #[V y, .int .i64 0]) ∧ Off (fun _ => False) W w') := Lib.hid hWL
    have FWH : Hid (∀ W b, ByBlk W b 5 HB → Calls Tryd.prog 18 #[FV id p i r s, .slice (some ⟨b, 0, none⟩) 64 64] W fun e w' => e = .returned (.tuple #[V z, .int .i64 0]) ∧ Off (fun _ => False) W w') := Lib.hid hWH
    have FN := Lib.hid hNr
    have FMl := Lib.hid hMl
    have FMy := Lib.hid hMy
    have FMz := Lib.hid hMz
    have FA := Lib.hid hA
    have FX := Lib.hid hX
    clear hW hWL hWH hNr hMl hMy hMz hA hX hZ hTl hDl hLB hHB hlm hx hzz hyy hy hz hsum hsp hlo hhi hlo2 hhi2 hLl hHl hLs hHs hLn hHn hb0 hcell hSb hF hid hp h1 hs1 hc1 hn1 w1
    subst h64
    have e1 := equalIn_elem_same
    have e2 := equalIn_same
    go_enter Tryd.func8, Tryd.ntmps8
    go_wp2_with fail
    refine (FG.out _ hT).mono ?_
    rintro e u0 ⟨rfl, hO⟩
    have HOw := Lib.hid (Off.refl (fun _ => False) w)
    have HTw := Lib.hid hT
    obtain ⟨W1, eW1⟩ : ∃ W1, W1 = (((u0).alloc (.cells #[.int .i64 id, .int .u64 (wd p 0 : Int), .int .u64 (wd p 1 : Int), .int .u64 (wd p 2 : Int), .int .u64 (wd p 3 : Int), .int .u64 (i : Int), .int .u64 (wd r 0 : Int), .int .u64 (wd r 1 : Int), .int .u64 (wd r 2 : Int), .int .u64 (wd r 3 : Int), .int .u64 (wd s 0 : Int), .int .u64 (wd s 1 : Int), .int .u64 (wd s 2 : Int), .int .u64 (wd s 3 : Int)] 26)).alloc (.cells #[.int .u64 (wd p 0 : Int), .int .u64 (wd p 1 : Int), .int .u64 (wd p 2 : Int), .int .u64 (wd p 3 : Int)] 23)) := ⟨_, rfl⟩
    have oW1 : Off (fun _ => False) u0 W1 := by rw [eW1]; exact ((Off.refl _ u0).alloc _).alloc _
    have Fc : W1.heap[u0.heap.size]? = some (.cells #[.int .i64 id, .int .u64 (wd p 0 : Int), .int .u64 (wd p 1 : Int), .int .u64 (wd p 2 : Int), .int .u64 (wd p 3 : Int), .int .u64 (i : Int), .int .u64 (wd r 0 : Int), .int .u64 (wd r 1 : Int), .int .u64 (wd r 2 : Int), .int .u64 (wd r 3 : Int), .int .u64 (wd s 0 : Int), .int .u64 (wd s 1 : Int), .int .u64 (wd s 2 : Int), .int .u64 (wd s 3 : Int)] 26) := by rw [eW1]; exact heap_old' (heap_new' rfl _) _
    have Pc : W1.heap[u0.heap.size + 1]? = some (.cells #[.int .u64 (wd p 0 : Int), .int .u64 (wd p 1 : Int), .int .u64 (wd p 2 : Int), .int .u64 (wd p 3 : Int)] 23) := by rw [eW1]; exact heap_new' (by simp) _
    have hOx := hO.trans oW1 (fun _ _ c => c)
    have HOW1 := Lib.hid (HOw.out.trans hOx (fun _ _ c => c))
    have HTW1 := Lib.hid (HTw.out.off hOx)
    have HFcW1 := Lib.hid Fc
    have HPcW1 := Lib.hid Pc
    have HWW1 := Lib.hid eW1
    clear hO oW1 hOx eW1 HOw HTw  Fc Pc
    go_upto_region 4 with fail
    rw [← HWW1.out]
    refine wp_region_inv (fun a0 l a' w' => ∃ (u25 : Value) (u26 : Value) (u7 : Value) (u8 : Value) (b25 : Nat) (b26 : Nat), a' = (Act.put (Act.put (Act.put (Act.put a0 (some 25) u25) (some 26) u26) (some 7) u7) (some 8) u8) ∧ Slot l 2 u7 (.slice (some ⟨b25, 0, none⟩) 64 64) ∧ Slot l 3 u8 (.slice (some ⟨b26, 0, none⟩) 64 64) ∧ Dep l 0 2 ∧ Dep l 1 3 ∧ MkB l 0 u25 b25 64 W1 w' (.cells Z 5) ∧ MkB l 1 u26 b26 64 W1 w' (.cells Z 5) ∧ Dif l 0 1 b25 b26 ∧ Off (fun _ => False) W1 w') (by kernel_rfl) (by kernel_rfl) ?_ ⟨?_, ?_, ?_, ?_, trivial⟩ ?_
    · refine ⟨?z25, ?z26, ?z7, ?z8, 0, 0, ?fr, Slot.start _ _ _, Slot.start _ _ _, Dep.start _ _, Dep.start _ _, MkB.start _ _ _ _ _ _ _, MkB.start _ _ _ _ _ _ _, Dif.start _ _ _ _, (Off.refl _ W1).drew⟩
      case fr => first | (simp only [Act.put, List.setIfInBounds_toArray, List.set_cons_zero, List.set_cons_succ]; rfl) | simp only [Act.put, List.setIfInBounds_toArray, List.set_cons_zero, List.set_cons_succ]
    · intro l a wr hI hl hd K' hK
      obtain ⟨u25, u26, u7, u8, b25, b26, ha, s2, s3, V0_2, V1_3, E0, E1, G0_1, hO⟩ := hI
      simp only [Act.put, List.setIfInBounds_toArray, List.set_cons_zero, List.set_cons_succ] at ha
      subst ha
      go_simp
      refine hK.out _ _ ⟨_, _, _, _, _, _, ?_, Slot.void (u := u7) (V0_2 hl) rfl, s3.keep rfl, V0_2.keep rfl, V1_3.keep rfl, MkB.make hO, E1.keep ((Off.refl _ wr).alloc _) rfl, E1.difL rfl, hO.alloc _⟩
      simp only [Act.put, List.setIfInBounds_toArray, List.set_cons_zero, List.set_cons_succ]
    · intro l a wr hI hl hd K' hK
      obtain ⟨u25, u26, u7, u8, b25, b26, ha, s2, s3, V0_2, V1_3, E0, E1, G0_1, hO⟩ := hI
      simp only [Act.put, List.setIfInBounds_toArray, List.set_cons_zero, List.set_cons_succ] at ha
      subst ha
      go_simp
      refine hK.out _ _ ⟨_, _, _, _, _, _, ?_, s2.keep rfl, Slot.void (u := u8) (V1_3 hl) rfl, V0_2.keep rfl, V1_3.keep rfl, E0.keep ((Off.refl _ wr).alloc _) rfl, MkB.make hO, E0.difR rfl, hO.alloc _⟩
      simp only [Act.put, List.setIfInBounds_toArray, List.set_cons_zero, List.set_cons_succ]
    · intro l a wr hI hl hd K' hK
      obtain ⟨u25, u26, u7, u8, b25, b26, ha, s2, s3, V0_2, V1_3, E0, E1, G0_1, hO⟩ := hI
      simp only [Act.put, List.setIfInBounds_toArray, List.set_cons_zero, List.set_cons_succ] at ha
      have q0 := E0.ptr (hd 0 (by decide))
      subst ha q0
      go_simp
      refine hK.out _ _ ⟨_, _, _, _, _, _, ?_, Slot.new _ _ _, s3.keep rfl, Dep.at (hd 0 (by decide)), V1_3.keep rfl, E0.keep (Off.refl _ wr) rfl, E1.keep (Off.refl _ wr) rfl, G0_1.keep rfl rfl, hO⟩
      simp only [Act.put, List.setIfInBounds_toArray, List.set_cons_zero, List.set_cons_succ]
    · intro l a wr hI hl hd K' hK
      obtain ⟨u25, u26, u7, u8, b25, b26, ha, s2, s3, V0_2, V1_3, E0, E1, G0_1, hO⟩ := hI
      simp only [Act.put, List.setIfInBounds_toArray, List.set_cons_zero, List.set_cons_succ] at ha
      have q1 := E1.ptr (hd 1 (by decide))
      subst ha q1
      go_simp
      refine hK.out _ _ ⟨_, _, _, _, _, _, ?_, s2.keep rfl, Slot.new _ _ _, V0_2.keep rfl, Dep.at (hd 1 (by decide)), E0.keep (Off.refl _ wr) rfl, E1.keep (Off.refl _ wr) rfl, G0_1.keep rfl rfl, hO⟩
      simp only [Act.put, List.setIfInBounds_toArray, List.set_cons_zero, List.set_cons_succ]
    · intro l a wc hI hd
      obtain ⟨u25, u26, u7, u8, b25, b26, ha, s2, s3, V0_2, V1_3, E0, E1, G0_1, hO⟩ := hI
      simp only [Act.put, List.setIfInBounds_toArray, List.set_cons_zero, List.set_cons_succ] at ha
      have q2 := s2 (hd 2 (by decide))
      have q3 := s3 (hd 3 (by decide))
      have q0 := E0.ptr (hd 0 (by decide))
      have n25 := E0.now (hd 0 (by decide))
      have l25 := E0.new (hd 0 (by decide))
      have q1 := E1.ptr (hd 1 (by decide))
      have n26 := E1.now (hd 1 (by decide))
      have l26 := E1.new (hd 1 (by decide))
      have d25_26 := G0_1 (hd 0 (by decide)) (hd 1 (by decide))
      subst ha q0 q1 q2 q3
      clear hd s2 s3 V0_2 V1_3 E0 E1 G0_1
      obtain ⟨W2, hW2⟩ : ∃ W2, W2 = wc := ⟨_, rfl⟩
      subst hW2
      have hO2 : Off (fun _ => False) w W2 := HOW1.out.trans hO (fun _ _ c => c)
      have hT2 : TabAt W2 := HTW1.out.off hO
      have hF2 := hO.heap HFcW1.out (fun c => c)
      have hP2 := hO.heap HPcW1.out (fun c => c)
      have k25 : u0.heap.size + 1 < b25 := Nat.lt_of_lt_of_le (heap_lt HPcW1.out) l25
      have k26 : u0.heap.size + 1 < b26 := Nat.lt_of_lt_of_le (heap_lt HPcW1.out) l26
      have kw := HOW1.out.size
      obtain ⟨ZL, hZL⟩ : ∃ ZL, ZL = List.replicate 64 0 := ⟨_, rfl⟩
      have hZl : ZL.length = 64 := by rw [hZL, List.length_replicate]
      have hZ := HZ.out
      rw [← hZL] at hZ
      have hb25 : ByBlk W2 b25 5 ZL := ByBlk.of n25 hZ
      have hb26 : ByBlk W2 b26 5 ZL := ByBlk.of n26 hZ
      obtain ⟨W3, hcp, hB3, hO3⟩ := copy_bytes Tryd.underlying30 (dLen := 64) (dCap := 64) (c := cap1) (off := 0) (FcL.out W2 (hO2.mono (fun _ _ c => c.elim))) HTL.out hb25 (by omega) (by omega)
      rw [show ZL.take 0 ++ bs1.take 32 ++ ZL.drop (0 + 32) = LB by rw [HLB.out, hZL, List.take_zero, List.nil_append, List.drop_replicate]] at hB3
      have hO3w : Off (fun _ => False) w W3 := hO2.trans hO3 (fun k hk e => by omega)
      have n26b : ByBlk W3.drew b26 5 ZL := ByBlk.off (w' := W3) hb26 hO3 (fun e => d25_26 e.symm)
      have hs5 : ∀ W, (Instr.slice 30 (.slice (some ⟨b26, 0, none⟩) 64 64) (some (.int .i64 32)) none none).run Tryd.prog W = .ok (.slice (some ⟨b26, 32, none⟩) 32 32) W := fun W => by have h := slice_lo b26 0 64 64 32 (by omega) (by omega) W; rw [Nat.zero_add] at h; exact h
      obtain ⟨W4, hcp2, hB4, hO4⟩ := copy_bytes Tryd.underlying30 (dLen := 32) (dCap := 32) (c := cap1 - 32) (off := 32) (FcH.out W3.drew (hO3w.drew.mono (fun _ _ c => c.elim))) HDL.out n26b (by omega) (by omega)
      rw [show ZL.take 32 ++ bs1.drop 32 ++ ZL.drop (32 + 32) = HB by rw [HHB.out, hZL, List.take_replicate, List.drop_replicate]; simp] at hB4
      have HL4 := Lib.hid (show ByBlk W4 b25 5 LB from ByBlk.off (w := W3.drew) hB3 hO4 (fun e => d25_26 e))
      have HH4 := Lib.hid hB4
      have HO4 := Lib.hid (show Off (fun _ => False) w W4 from hO3w.drew.trans hO4 (fun k hk e => by omega))
      have hF3 := hO3.heap hF2 (by omega)
      have hP3 := hO3.heap hP2 (by omega)
      have HF4 := Lib.hid (show W4.heap[u0.heap.size]? = some (.cells #[.int .i64 id, .int .u64 (wd p 0 : Int), .int .u64 (wd p 1 : Int), .int .u64 (wd p 2 : Int), .int .u64 (wd p 3 : Int), .int .u64 (i : Int), .int .u64 (wd r 0 : Int), .int .u64 (wd r 1 : Int), .int .u64 (wd r 2 : Int), .int .u64 (wd r 3 : Int), .int .u64 (wd s 0 : Int), .int .u64 (wd s 1 : Int), .int .u64 (wd s 2 : Int), .int .u64 (wd s 3 : Int)] 26) from hO4.heap (show W3.drew.heap[u0.heap.size]? = _ from hF3) (by omega))
      have HP4 := Lib.hid (show W4.heap[u0.heap.size + 1]? = some (.cells #[.int .u64 (wd p 0 : Int), .int .u64 (wd p 1 : Int), .int .u64 (wd p 2 : Int), .int .u64 (wd p 3 : Int)] 23) from hO4.heap (show W3.drew.heap[u0.heap.size + 1]? = _ from hP3) (by omega))
      have HT4 := Lib.hid (hT.off HO4.out)
      clear hO2 hT2 hF2 hP2 hZ hZL hZl hb25 hb26 n25 n26 hB3 hO3 hO3w n26b hB4 hO4 hF3 hP3 hO HOW1 HTW1 HFcW1 HPcW1 FcL FcH HTL HDL HLB HHB HZ hmk HWW1 hT l25 l26
      go_upto_region 6 with fail
      go_region
      obtain ⟨f0, f1, f2, f3, f4, f5, f6, f7, f8, f9, f10, f11, f12, f13⟩ := fv_cells HF4.out
      have lf := heap_lt HF4.out
      go_wp2_with fail
      refine (FW.out _ (HO4.out.mono (S' := fun k => w.heap.size ≤ k) (fun _ _ c => c.elim))).mono ?_
      rintro e u5 ⟨rfl, hO⟩
      clear f0 f1 f2 f3 f4 f5 f6 f7 f8 f9 f10 f11 f12 f13 lf
      obtain ⟨W5, eW5⟩ : ∃ W5, W5 = ((u5).alloc (.cells #[.int .u64 (wd el 0 : Int), .int .u64 (wd el 1 : Int), .int .u64 (wd el 2 : Int), .int .u64 (wd el 3 : Int)] 24)) := ⟨_, rfl⟩
      have oW5 : Off (fun _ => False) u5 W5 := by rw [eW5]; exact (Off.refl _ u5).alloc _
      have Xc : W5.heap[u5.heap.size]? = some (.cells #[.int .u64 (wd el 0 : Int), .int .u64 (wd el 1 : Int), .int .u64 (wd el 2 : Int), .int .u64 (wd el 3 : Int)] 24) := by rw [eW5]; exact heap_new' rfl _
      have hOx := hO.trans oW5 (fun _ _ c => c)
      have hHF4k := hOx.heap HF4.out (fun c => c)
      have hHP4k := hOx.heap HP4.out (fun c => c)
      have hHL4k := hOx.heap HL4.out (fun c => c)
      have hHH4k := hOx.heap HH4.out (fun c => c)
      have HOW5 := Lib.hid (HO4.out.trans hOx (fun _ _ c => c))
      have HTW5 := Lib.hid (HT4.out.off hOx)
      have HF4W5 := Lib.hid hHF4k
      have HP4W5 := Lib.hid hHP4k
      have HL4W5 := Lib.hid hHL4k
      have HH4W5 := Lib.hid hHH4k
      have HXcW5 := Lib.hid Xc
      obtain ⟨f0, f1, f2, f3, f4, f5, f6, f7, f8, f9, f10, f11, f12, f13⟩ := fv_cells hHF4k
      have lf := heap_lt hHF4k
      have HWW5 := Lib.hid eW5
      clear hO oW5 hOx eW5 HO4 HT4 hHF4k HF4 hHP4k HP4 hHL4k HL4 hHH4k HH4 Xc
      go_upto_region 8 with fail
      rw [← HWW5.out]
      go_wp2_with fail
      refine (FWL.out _ _ HL4W5.out).mono ?_
      rintro e u6 ⟨rfl, hO⟩
      clear f0 f1 f2 f3 f4 f5 f6 f7 f8 f9 f10 f11 f12 f13 lf
      obtain ⟨W6, eW6⟩ : ∃ W6, W6 = ((u6).alloc (.cells #[.int .u64 (wd y 0 : Int), .int .u64 (wd y 1 : Int), .int .u64 (wd y 2 : Int), .int .u64 (wd y 3 : Int)] 24)) := ⟨_, rfl⟩
      have oW6 : Off (fun _ => False) u6 W6 := by rw [eW6]; exact (Off.refl _ u6).alloc _
      have Yc : W6.heap[u6.heap.size]? = some (.cells #[.int .u64 (wd y 0 : Int), .int .u64 (wd y 1 : Int), .int .u64 (wd y 2 : Int), .int .u64 (wd y 3 : Int)] 24) := by rw [eW6]; exact heap_new' rfl _
      have hOx := hO.trans oW6 (fun _ _ c => c)
      have hHF4W5k := hOx.heap HF4W5.out (fun c => c)
      have hHP4W5k := hOx.heap HP4W5.out (fun c => c)
      have hHH4W5k := hOx.heap HH4W5.out (fun c => c)
      have hHXcW5k := hOx.heap HXcW5.out (fun c => c)
      have HOW6 := Lib.hid (HOW5.out.trans hOx (fun _ _ c => c))
      have HTW6 := Lib.hid (HTW5.out.off hOx)
      have HF4W5W6 := Lib.hid hHF4W5k
      have HP4W5W6 := Lib.hid hHP4W5k
      have HH4W5W6 := Lib.hid hHH4W5k
      have HXcW5W6 := Lib.hid hHXcW5k
      have HYcW6 := Lib.hid Yc
      obtain ⟨f0, f1, f2, f3, f4, f5, f6, f7, f8, f9, f10, f11, f12, f13⟩ := fv_cells hHF4W5k
      have lf := heap_lt hHF4W5k
      have HWW6 := Lib.hid eW6
      clear hO oW6 hOx eW6 HOW5 HTW5 hHF4W5k HF4W5 hHP4W5k HP4W5 hHH4W5k HH4W5 hHXcW5k HXcW5 Yc
      go_upto_region 9 with fail
      rw [← HWW6.out]
      go_wp2_with fail
      refine (FWH.out _ _ HH4W5W6.out).mono ?_
      rintro e u7 ⟨rfl, hO⟩
      clear f0 f1 f2 f3 f4 f5 f6 f7 f8 f9 f10 f11 f12 f13 lf
      obtain ⟨W7, eW7⟩ : ∃ W7, W7 = ((u7).alloc (.cells #[.int .u64 (wd z 0 : Int), .int .u64 (wd z 1 : Int), .int .u64 (wd z 2 : Int), .int .u64 (wd z 3 : Int)] 24)) := ⟨_, rfl⟩
      have oW7 : Off (fun _ => False) u7 W7 := by rw [eW7]; exact (Off.refl _ u7).alloc _
      have Zc : W7.heap[u7.heap.size]? = some (.cells #[.int .u64 (wd z 0 : Int), .int .u64 (wd z 1 : Int), .int .u64 (wd z 2 : Int), .int .u64 (wd z 3 : Int)] 24) := by rw [eW7]; exact heap_new' rfl _
      have hOx := hO.trans oW7 (fun _ _ c => c)
      have hHP4W5W6k := hOx.heap HP4W5W6.out (fun c => c)
      have hHXcW5W6k := hOx.heap HXcW5W6.out (fun c => c)
      have hHYcW6k := hOx.heap HYcW6.out (fun c => c)
      have HOW7 := Lib.hid (HOW6.out.trans hOx (fun _ _ c => c))
      have HTW7 := Lib.hid (HTW6.out.off hOx)
      have HP4W5W6W7 := Lib.hid hHP4W5W6k
      have HXcW5W6W7 := Lib.hid hHXcW5W6k
      have HYcW6W7 := Lib.hid hHYcW6k
      have HZcW7 := Lib.hid Zc
      have HWW7 := Lib.hid eW7
      clear hO oW7 hOx eW7 HOW6 HTW6 hHP4W5W6k HP4W5W6 hHXcW5W6k HXcW5W6 hHYcW6k HYcW6 Zc
      have HK10 : Hid (∀ W, Off (fun _ => False) W7 W → (W.cell? ⟨(u0.heap.size + 1), 0, none⟩ = some (.int .u64 (wd p 0 : Int)) ∧ W.cell? ⟨(u0.heap.size + 1), 1, none⟩ = some (.int .u64 (wd p 1 : Int)) ∧ W.cell? ⟨(u0.heap.size + 1), 2, none⟩ = some (.int .u64 (wd p 2 : Int)) ∧ W.cell? ⟨(u0.heap.size + 1), 3, none⟩ = some (.int .u64 (wd p 3 : Int))) ∧ (W.cell? ⟨u6.heap.size, 0, none⟩ = some (.int .u64 (wd y 0 : Int)) ∧ W.cell? ⟨u6.heap.size, 1, none⟩ = some (.int .u64 (wd y 1 : Int)) ∧ W.cell? ⟨u6.heap.size, 2, none⟩ = some (.int .u64 (wd y 2 : Int)) ∧ W.cell? ⟨u6.heap.size, 3, none⟩ = some (.int .u64 (wd y 3 : Int))) ∧ (W.cell? ⟨u7.heap.size, 0, none⟩ = some (.int .u64 (wd z 0 : Int)) ∧ W.cell? ⟨u7.heap.size, 1, none⟩ = some (.int .u64 (wd z 1 : Int)) ∧ W.cell? ⟨u7.heap.size, 2, none⟩ = some (.int .u64 (wd z 2 : Int)) ∧ W.cell? ⟨u7.heap.size, 3, none⟩ = some (.int .u64 (wd z 3 : Int))) ∧ Off (fun _ => False) W7 W) := Lib.hid (fun W h => ⟨cells4 (h.heap HP4W5W6W7.out (fun c => c)), cells4 (h.heap HYcW6W7.out (fun c => c)), cells4 (h.heap HZcW7.out (fun c => c)), h⟩)
      go_upto_region 10 with fail
      rw [← HWW7.out]
      refine wp_region_inv (fun a0 l a' w' => ∃ (u54 : Value) (u55 : Value) (u56 : Value) (u57 : Value) (u58 : Value) (u59 : Value) (u60 : Value) (u61 : Value) (u15 : Value) (b15 : Nat), a' = (Act.put (Act.put (Act.put (Act.put (Act.put (Act.put (Act.put (Act.put (Act.put a0 (some 54) u54) (some 55) u55) (some 56) u56) (some 57) u57) (some 58) u58) (some 59) u59) (some 60) u60) (some 61) u61) (some 15) u15) ∧ Slot l 0 u54 (V p) ∧ Slot l 1 u55 (V p) ∧ Slot l 2 u56 (V y) ∧ Slot l 3 u57 (V y) ∧ Slot l 4 u58 (V p) ∧ Slot l 5 u59 (V z) ∧ Slot l 6 u60 (V z) ∧ Slot l 7 u61 (V el) ∧ Blk l 8 9 u15 b15 W7 w' (.cells #[.int .u64 0, .int .u64 0, .int .u64 0, .int .u64 0] 23) (.cells #[.int .u64 (wd el 0 : Int), .int .u64 (wd el 1 : Int), .int .u64 (wd el 2 : Int), .int .u64 (wd el 3 : Int)] 23) ∧ Off (fun _ => False) W7 w') (by kernel_rfl) (by kernel_rfl) ?_ ⟨?_, ?_, ?_, ?_, ?_, ?_, ?_, ?_, ?_, ?_, trivial⟩ ?_
      · refine ⟨?z54, ?z55, ?z56, ?z57, ?z58, ?z59, ?z60, ?z61, ?z15, 0, ?fr, Slot.start _ _ _, Slot.start _ _ _, Slot.start _ _ _, Slot.start _ _ _, Slot.start _ _ _, Slot.start _ _ _, Slot.start _ _ _, Slot.start _ _ _, Blk.start _ _ _ _ _ _ _ _, (Off.refl _ W7).drew⟩
        case fr => first | (simp only [Act.put, List.setIfInBounds_toArray, List.set_cons_zero, List.set_cons_succ]; rfl) | simp only [Act.put, List.setIfInBounds_toArray, List.set_cons_zero, List.set_cons_succ]
      · intro l a wr hI hl hd K' hK
        obtain ⟨u54, u55, u56, u57, u58, u59, u60, u61, u15, b15, ha, s0, s1, s2, s3, s4, s5, s6, s7, B8, hO⟩ := hI
        simp only [Act.put, List.setIfInBounds_toArray, List.set_cons_zero, List.set_cons_succ] at ha
        subst ha
        have hc := HK10.out wr hO
        have p0 := hc.1.1
        have p1 := hc.1.2.1
        have p2 := hc.1.2.2.1
        have p3 := hc.1.2.2.2
        clear hc
        go_simp
        refine hK.out _ _ ⟨_, _, _, _, _, _, _, _, _, _, ?_, Slot.new _ _ _, s1.keep rfl, s2.keep rfl, s3.keep rfl, s4.keep rfl, s5.keep rfl, s6.keep rfl, s7.keep rfl, B8.keep (Off.refl _ wr) rfl rfl, hO⟩
        simp only [Act.put, List.setIfInBounds_toArray, List.set_cons_zero, List.set_cons_succ]
      · intro l a wr hI hl hd K' hK
        obtain ⟨u54, u55, u56, u57, u58, u59, u60, u61, u15, b15, ha, s0, s1, s2, s3, s4, s5, s6, s7, B8, hO⟩ := hI
        simp only [Act.put, List.setIfInBounds_toArray, List.set_cons_zero, List.set_cons_succ] at ha
        subst ha
        have hc := HK10.out wr hO
        have p0 := hc.1.1
        have p1 := hc.1.2.1
        have p2 := hc.1.2.2.1
        have p3 := hc.1.2.2.2
        clear hc
        go_simp
        refine hK.out _ _ ⟨_, _, _, _, _, _, _, _, _, _, ?_, s0.keep rfl, Slot.new _ _ _, s2.keep rfl, s3.keep rfl, s4.keep rfl, s5.keep rfl, s6.keep rfl, s7.keep rfl, B8.keep (Off.refl _ wr) rfl rfl, hO⟩
        simp only [Act.put, List.setIfInBounds_toArray, List.set_cons_zero, List.set_cons_succ]
      · intro l a wr hI hl hd K' hK
        obtain ⟨u54, u55, u56, u57, u58, u59, u60, u61, u15, b15, ha, s0, s1, s2, s3, s4, s5, s6, s7, B8, hO⟩ := hI
        simp only [Act.put, List.setIfInBounds_toArray, List.set_cons_zero, List.set_cons_succ] at ha
        subst ha
        have hc := HK10.out wr hO
        have p0 := hc.2.1.1
        have p1 := hc.2.1.2.1
        have p2 := hc.2.1.2.2.1
        have p3 := hc.2.1.2.2.2
        clear hc
        go_simp
        refine hK.out _ _ ⟨_, _, _, _, _, _, _, _, _, _, ?_, s0.keep rfl, s1.keep rfl, Slot.new _ _ _, s3.keep rfl, s4.keep rfl, s5.keep rfl, s6.keep rfl, s7.keep rfl, B8.keep (Off.refl _ wr) rfl rfl, hO⟩
        simp only [Act.put, List.setIfInBounds_toArray, List.set_cons_zero, List.set_cons_succ]
      · intro l a wr hI hl hd K' hK
        obtain ⟨u54, u55, u56, u57, u58, u59, u60, u61, u15, b15, ha, s0, s1, s2, s3, s4, s5, s6, s7, B8, hO⟩ := hI
        simp only [Act.put, List.setIfInBounds_toArray, List.set_cons_zero, List.set_cons_succ] at ha
        have q1 := s1 (hd 1 (by decide))
        have q2 := s2 (hd 2 (by decide))
        subst ha q1 q2
        go_simp
        refine (held_inv (FMy.out wr) hO).mono ?_
        rintro e w1 ⟨rfl, hO1, hOW⟩
        go_wp2_with fail
        refine hK.out _ _ ⟨_, _, _, _, _, _, _, _, _, _, ?_, s0.keep rfl, s1.keep rfl, s2.keep rfl, Slot.new _ _ _, s4.keep rfl, s5.keep rfl, s6.keep rfl, s7.keep rfl, B8.keep hOW rfl rfl, hO1⟩
        simp only [Act.put, List.setIfInBounds_toArray, List.set_cons_zero, List.set_cons_succ]
      · intro l a wr hI hl hd K' hK
        obtain ⟨u54, u55, u56, u57, u58, u59, u60, u61, u15, b15, ha, s0, s1, s2, s3, s4, s5, s6, s7, B8, hO⟩ := hI
        simp only [Act.put, List.setIfInBounds_toArray, List.set_cons_zero, List.set_cons_succ] at ha
        subst ha
        have hc := HK10.out wr hO
        have p0 := hc.1.1
        have p1 := hc.1.2.1
        have p2 := hc.1.2.2.1
        have p3 := hc.1.2.2.2
        clear hc
        go_simp
        refine hK.out _ _ ⟨_, _, _, _, _, _, _, _, _, _, ?_, s0.keep rfl, s1.keep rfl, s2.keep rfl, s3.keep rfl, Slot.new _ _ _, s5.keep rfl, s6.keep rfl, s7.keep rfl, B8.keep (Off.refl _ wr) rfl rfl, hO⟩
        simp only [Act.put, List.setIfInBounds_toArray, List.set_cons_zero, List.set_cons_succ]
      · intro l a wr hI hl hd K' hK
        obtain ⟨u54, u55, u56, u57, u58, u59, u60, u61, u15, b15, ha, s0, s1, s2, s3, s4, s5, s6, s7, B8, hO⟩ := hI
        simp only [Act.put, List.setIfInBounds_toArray, List.set_cons_zero, List.set_cons_succ] at ha
        subst ha
        have hc := HK10.out wr hO
        have p0 := hc.2.2.1.1
        have p1 := hc.2.2.1.2.1
        have p2 := hc.2.2.1.2.2.1
        have p3 := hc.2.2.1.2.2.2
        clear hc
        go_simp
        refine hK.out _ _ ⟨_, _, _, _, _, _, _, _, _, _, ?_, s0.keep rfl, s1.keep rfl, s2.keep rfl, s3.keep rfl, s4.keep rfl, Slot.new _ _ _, s6.keep rfl, s7.keep rfl, B8.keep (Off.refl _ wr) rfl rfl, hO⟩
        simp only [Act.put, List.setIfInBounds_toArray, List.set_cons_zero, List.set_cons_succ]
      · intro l a wr hI hl hd K' hK
        obtain ⟨u54, u55, u56, u57, u58, u59, u60, u61, u15, b15, ha, s0, s1, s2, s3, s4, s5, s6, s7, B8, hO⟩ := hI
        simp only [Act.put, List.setIfInBounds_toArray, List.set_cons_zero, List.set_cons_succ] at ha
        have q4 := s4 (hd 4 (by decide))
        have q5 := s5 (hd 5 (by decide))
        subst ha q4 q5
        go_simp
        refine (held_inv (FMz.out wr) hO).mono ?_
        rintro e w1 ⟨rfl, hO1, hOW⟩
        go_wp2_with fail
        refine hK.out _ _ ⟨_, _, _, _, _, _, _, _, _, _, ?_, s0.keep rfl, s1.keep rfl, s2.keep rfl, s3.keep rfl, s4.keep rfl, s5.keep rfl, Slot.new _ _ _, s7.keep rfl, B8.keep hOW rfl rfl, hO1⟩
        simp only [Act.put, List.setIfInBounds_toArray, List.set_cons_zero, List.set_cons_succ]
      · intro l a wr hI hl hd K' hK
        obtain ⟨u54, u55, u56, u57, u58, u59, u60, u61, u15, b15, ha, s0, s1, s2, s3, s4, s5, s6, s7, B8, hO⟩ := hI
        simp only [Act.put, List.setIfInBounds_toArray, List.set_cons_zero, List.set_cons_succ] at ha
        have q0 := s0 (hd 0 (by decide))
        have q3 := s3 (hd 3 (by decide))
        have q6 := s6 (hd 6 (by decide))
        subst ha q0 q3 q6
        go_simp
        refine (held_inv (FA.out wr) hO).mono ?_
        rintro e w1 ⟨rfl, hO1, hOW⟩
        go_wp2_with fail
        refine hK.out _ _ ⟨_, _, _, _, _, _, _, _, _, _, ?_, s0.keep rfl, s1.keep rfl, s2.keep rfl, s3.keep rfl, s4.keep rfl, s5.keep rfl, s6.keep rfl, Slot.new _ _ _, B8.keep hOW rfl rfl, hO1⟩
        simp only [Act.put, List.setIfInBounds_toArray, List.set_cons_zero, List.set_cons_succ]
      · intro l a wr hI hl hd K' hK
        obtain ⟨u54, u55, u56, u57, u58, u59, u60, u61, u15, b15, ha, s0, s1, s2, s3, s4, s5, s6, s7, B8, hO⟩ := hI
        simp only [Act.put, List.setIfInBounds_toArray, List.set_cons_zero, List.set_cons_succ] at ha
        subst ha
        go_simp
        refine hK.out _ _ ⟨_, _, _, _, _, _, _, _, _, _, ?_, s0.keep rfl, s1.keep rfl, s2.keep rfl, s3.keep rfl, s4.keep rfl, s5.keep rfl, s6.keep rfl, s7.keep rfl, B8.make hl rfl hO, hO.alloc _⟩
        simp only [Act.put, List.setIfInBounds_toArray, List.set_cons_zero, List.set_cons_succ]
      · intro l a wr hI hl hd K' hK
        obtain ⟨u54, u55, u56, u57, u58, u59, u60, u61, u15, b15, ha, s0, s1, s2, s3, s4, s5, s6, s7, B8, hO⟩ := hI
        simp only [Act.put, List.setIfInBounds_toArray, List.set_cons_zero, List.set_cons_succ] at ha
        have h8 := hd 8 (by decide)
        have q8 := B8.ptr h8
        have q7 := s7 (hd 7 (by decide))
        subst ha q8 q7
        obtain ⟨⟨m0, m1, m2, m3⟩, fz, lt⟩ := zero_cells (B8.was h8 hl)
        go_simp
        refine hK.out _ _ ⟨_, _, _, _, _, _, _, _, _, _, ?_, s0.keep rfl, s1.keep rfl, s2.keep rfl, s3.keep rfl, s4.keep rfl, s5.keep rfl, s6.keep rfl, s7.keep rfl, B8.put hl h8 rfl rfl, setCells_in hO (fun c => absurd c (Nat.not_lt.2 (B8.new h8))) [.int .u64 (wd el 0 : Int), .int .u64 (wd el 1 : Int), .int .u64 (wd el 2 : Int), .int .u64 (wd el 3 : Int)]⟩
        simp only [Act.put, List.setIfInBounds_toArray, List.set_cons_zero, List.set_cons_succ]
      · intro l a wc hI hd
        obtain ⟨u54, u55, u56, u57, u58, u59, u60, u61, u15, b15, ha, s0, s1, s2, s3, s4, s5, s6, s7, B8, hO⟩ := hI
        simp only [Act.put, List.setIfInBounds_toArray, List.set_cons_zero, List.set_cons_succ] at ha
        have q0 := s0 (hd 0 (by decide))
        have q1 := s1 (hd 1 (by decide))
        have q2 := s2 (hd 2 (by decide))
        have q3 := s3 (hd 3 (by decide))
        have q4 := s4 (hd 4 (by decide))
        have q5 := s5 (hd 5 (by decide))
        have q6 := s6 (hd 6 (by decide))
        have q7 := s7 (hd 7 (by decide))
        have q8 := B8.ptr (hd 8 (by decide))
        have n15 : wc.heap[b15]? = some (.cells #[.int .u64 (wd el 0 : Int), .int .u64 (wd el 1 : Int), .int .u64 (wd el 2 : Int), .int .u64 (wd el 3 : Int)] 23) := B8.now (hd 8 (by decide)) (hd 9 (by decide))
        have v15 := B8.new (hd 8 (by decide))
        subst ha q0 q1 q2 q3 q4 q5 q6 q7 q8
        clear hd s0 s1 s2 s3 s4 s5 s6 s7 B8
        obtain ⟨W8, hW8⟩ : ∃ W8, W8 = wc := ⟨_, rfl⟩
        subst hW8
        have HP4W5W6W7W8 := Lib.hid (hO.heap HP4W5W6W7.out (fun c => c))
        have HXcW5W6W7W8 := Lib.hid (hO.heap HXcW5W6W7.out (fun c => c))
        have HYcW6W7W8 := Lib.hid (hO.heap HYcW6W7.out (fun c => c))
        have HSc := Lib.hid n15
        have HO3 := Lib.hid (HOW7.out.trans hO (fun _ _ c => c))
        have HT8 := Lib.hid (HTW7.out.off hO)
        clear n15 v15 hO HK10 HOW7 HTW7 HWW7 HP4W5W6W7 HXcW5W6W7 HYcW6W7 HZcW7 FMy FMz FA FW FWL FWH
        have HK11 : Hid (∀ W, Off (fun _ => False) W8 W → (W.cell? ⟨(u0.heap.size + 1), 0, none⟩ = some (.int .u64 (wd p 0 : Int)) ∧ W.cell? ⟨(u0.heap.size + 1), 1, none⟩ = some (.int .u64 (wd p 1 : Int)) ∧ W.cell? ⟨(u0.heap.size + 1), 2, none⟩ = some (.int .u64 (wd p 2 : Int)) ∧ W.cell? ⟨(u0.heap.size + 1), 3, none⟩ = some (.int .u64 (wd p 3 : Int))) ∧ (W.cell? ⟨u5.heap.size, 0, none⟩ = some (.int .u64 (wd el 0 : Int)) ∧ W.cell? ⟨u5.heap.size, 1, none⟩ = some (.int .u64 (wd el 1 : Int)) ∧ W.cell? ⟨u5.heap.size, 2, none⟩ = some (.int .u64 (wd el 2 : Int)) ∧ W.cell? ⟨u5.heap.size, 3, none⟩ = some (.int .u64 (wd el 3 : Int))) ∧ (W.cell? ⟨b15, 0, none⟩ = some (.int .u64 (wd el 0 : Int)) ∧ W.cell? ⟨b15, 1, none⟩ = some (.int .u64 (wd el 1 : Int)) ∧ W.cell? ⟨b15, 2, none⟩ = some (.int .u64 (wd el 2 : Int)) ∧ W.cell? ⟨b15, 3, none⟩ = some (.int .u64 (wd el 3 : Int))) ∧ (W.cell? ⟨u6.heap.size, 0, none⟩ = some (.int .u64 (wd y 0 : Int)) ∧ W.cell? ⟨u6.heap.size, 1, none⟩ = some (.int .u64 (wd y 1 : Int)) ∧ W.cell? ⟨u6.heap.size, 2, none⟩ = some (.int .u64 (wd y 2 : Int)) ∧ W.cell? ⟨u6.heap.size, 3, none⟩ = some (.int .u64 (wd y 3 : Int))) ∧ Off (fun _ => False) W8 W) := Lib.hid (fun W h => ⟨cells4 (h.heap HP4W5W6W7W8.out (fun c => c)), cells4 (h.heap HXcW5W6W7W8.out (fun c => c)), cells4 (h.heap HSc.out (fun c => c)), cells4 (h.heap HYcW6W7W8.out (fun c => c)), h⟩)
        have HTX := Lib.hid (fun W (h : Off (fun _ => False) W8 W) => HT8.out.off h)
        have HNX := Lib.hid (fun W (h : Off (fun _ => False) W8 W) => FN.out W (((HO3.out.trans h (fun _ _ c => c))).mono (S' := fun k => w.heap.size ≤ k) (fun _ _ c => c.elim)))
        clear HT8 FN
        go_upto_region 11 with fail
        obtain ⟨x62, hx⟩ : ∃ x : Value, x = .bool true := ⟨_, rfl⟩
        have X62 := Lib.hid hx
        clear hx
        obtain ⟨x63, hx⟩ : ∃ x : Value, x = .bool true := ⟨_, rfl⟩
        have X63 := Lib.hid hx
        clear hx
        obtain ⟨x64, hx⟩ : ∃ x : Value, x = .int .i64 0 := ⟨_, rfl⟩
        have X64 := Lib.hid hx
        clear hx
        obtain ⟨x65, hx⟩ : ∃ x : Value, x = .bool true := ⟨_, rfl⟩
        have X65 := Lib.hid hx
        clear hx
        obtain ⟨x66, hx⟩ : ∃ x : Value, x = .bool true := ⟨_, rfl⟩
        have X66 := Lib.hid hx
        clear hx
        obtain ⟨x67, hx⟩ : ∃ x : Value, x = .bool true := ⟨_, rfl⟩
        have X67 := Lib.hid hx
        clear hx
        obtain ⟨x68, hx⟩ : ∃ x : Value, x = .int .i64 0 := ⟨_, rfl⟩
        have X68 := Lib.hid hx
        clear hx
        obtain ⟨x69, hx⟩ : ∃ x : Value, x = .bool true := ⟨_, rfl⟩
        have X69 := Lib.hid hx
        clear hx
        obtain ⟨x70, hx⟩ : ∃ x : Value, x = .bool true := ⟨_, rfl⟩
        have X70 := Lib.hid hx
        clear hx
        obtain ⟨x71, hx⟩ : ∃ x : Value, x = .bool true := ⟨_, rfl⟩
        have X71 := Lib.hid hx
        clear hx
        obtain ⟨x72, hx⟩ : ∃ x : Value, x = .int .i64 0 := ⟨_, rfl⟩
        have X72 := Lib.hid hx
        clear hx
        obtain ⟨x73, hx⟩ : ∃ x : Value, x = .bool true := ⟨_, rfl⟩
        have X73 := Lib.hid hx
        clear hx
        obtain ⟨x74, hx⟩ : ∃ x : Value, x = .bool true := ⟨_, rfl⟩
        have X74 := Lib.hid hx
        clear hx
        obtain ⟨x75, hx⟩ : ∃ x : Value, x = .bool true := ⟨_, rfl⟩
        have X75 := Lib.hid hx
        clear hx
        obtain ⟨x76, hx⟩ : ∃ x : Value, x = V el := ⟨_, rfl⟩
        have X76 := Lib.hid hx
        clear hx
        obtain ⟨x77, hx⟩ : ∃ x : Value, x = V el := ⟨_, rfl⟩
        have X77 := Lib.hid hx
        clear hx
        obtain ⟨x78, hx⟩ : ∃ x : Value, x = .bool true := ⟨_, rfl⟩
        have X78 := Lib.hid hx
        clear hx
        obtain ⟨x79, hx⟩ : ∃ x : Value, x = .bool true := ⟨_, rfl⟩
        have X79 := Lib.hid hx
        clear hx
        obtain ⟨x80, hx⟩ : ∃ x : Value, x = .bool true := ⟨_, rfl⟩
        have X80 := Lib.hid hx
        clear hx
        obtain ⟨x81, hx⟩ : ∃ x : Value, x = V y := ⟨_, rfl⟩
        have X81 := Lib.hid hx
        clear hx
        obtain ⟨x82, hx⟩ : ∃ x : Value, x = V p := ⟨_, rfl⟩
        have X82 := Lib.hid hx
        clear hx
        obtain ⟨x83, hx⟩ : ∃ x : Value, x = V p := ⟨_, rfl⟩
        have X83 := Lib.hid hx
        clear hx
        obtain ⟨x84, hx⟩ : ∃ x : Value, x = .slice (some ⟨bb, off, none⟩) 64 cap1 := ⟨_, rfl⟩
        have X84 := Lib.hid hx
        clear hx
        obtain ⟨x85, hx⟩ : ∃ x : Value, x = .slice (some ⟨bb, off, none⟩) 32 cap1 := ⟨_, rfl⟩
        have X85 := Lib.hid hx
        clear hx
        obtain ⟨x86, hx⟩ : ∃ x : Value, x = V lo := ⟨_, rfl⟩
        have X86 := Lib.hid hx
        clear hx
        obtain ⟨x87, hx⟩ : ∃ x : Value, x = V lm := ⟨_, rfl⟩
        have X87 := Lib.hid hx
        clear hx
        obtain ⟨x88, hx⟩ : ∃ x : Value, x = V y := ⟨_, rfl⟩
        have X88 := Lib.hid hx
        clear hx
        obtain ⟨x89, hx⟩ : ∃ x : Value, x = .bool true := ⟨_, rfl⟩
        have X89 := Lib.hid hx
        clear hx
        obtain ⟨x90, hx⟩ : ∃ x : Value, x = .bool true := ⟨_, rfl⟩
        have X90 := Lib.hid hx
        clear hx
        obtain ⟨x4, hx⟩ : ∃ x : Value, x = .bool true := ⟨_, rfl⟩
        have X4 := Lib.hid hx
        clear hx
        refine wp_region_inv (fun a0 l a' w' => a' = (Act.put (fill a0 62 [sel (l 0) x62 undef, sel (l 1) x63 undef, sel (l 2) x64 undef, sel (l 3) x65 undef, sel (l 4) x66 undef, sel (l 5) x67 undef, sel (l 6) x68 undef, sel (l 7) x69 undef, sel (l 8) x70 undef, sel (l 9) x71 undef, sel (l 10) x72 undef, sel (l 11) x73 undef, sel (l 12) x74 undef, sel (l 13) x75 undef, sel (l 14) x76 undef, sel (l 15) x77 undef, sel (l 16) x78 undef, sel (l 17) x79 undef, sel (l 18) x80 undef, sel (l 19) x81 undef, sel (l 20) x82 undef, sel (l 21) x83 undef, sel (l 22) x84 undef, sel (l 23) x85 undef, sel (l 24) x86 undef, sel (l 25) x87 undef, sel (l 26) x88 undef, sel (l 27) x89 undef, sel (l 28) x90 undef]) (some 4) (sel (l 29) x4 (.bool false))) ∧ Off (fun _ => False) W8 w') (by kernel_rfl) (by kernel_rfl) ?_ ⟨?_, ?_, ?_, ?_, ?_, ?_, ?_, ?_, ?_, ?_, ?_, ?_, ?_, ?_, ?_, ?_, ?_, ?_, ?_, ?_, ?_, ?_, ?_, ?_, ?_, ?_, ?_, ?_, ?_, ?_, trivial⟩ ?_
        · refine ⟨?_, (Off.refl _ W8).drew⟩
          simp only [fill_eq, List.take_succ_cons, List.take_zero, List.cons_append, List.nil_append, Act.put, List.setIfInBounds_toArray, List.set_cons_zero, List.set_cons_succ, sel_start]
        · as_aux_lemma =>
            rintro l a wr ⟨ha, hO⟩ hl hd K' hK
            have hx := X62.out; subst hx
            simp only [fill_eq, List.take_succ_cons, List.take_zero, List.cons_append, List.nil_append, Act.put, List.setIfInBounds_toArray, List.set_cons_zero, List.set_cons_succ] at ha
            subst ha
            rw [if_pos (by rfl)]
            go_simp
            refine (held_inv (FAL.out wr (HTX.out wr hO)) hO).mono ?_
            rintro e w1 ⟨rfl, hO1, hOW⟩
            go_wp2_with fail
            refine hK.out _ _ ⟨?_, hO1⟩
            simp only [fill_eq, List.take_succ_cons, List.take_zero, List.cons_append, List.nil_append, Act.put, List.setIfInBounds_toArray, List.set_cons_zero, List.set_cons_succ, sel_new]
            rfl
        · as_aux_lemma =>
            rintro l a wr ⟨ha, hO⟩ hl hd K' hK
            have d0 := hd 0 (by decide)
            have hx := X62.out; subst hx
            have hx := X63.out; subst hx
            simp only [fill_eq, List.take_succ_cons, List.take_zero, List.cons_append, List.nil_append, Act.put, List.setIfInBounds_toArray, List.set_cons_zero, List.set_cons_succ, sel_of d0] at ha
            subst ha
            rw [if_pos (by rfl)]
            go_simp
            refine hK.out _ _ ⟨?_, hO⟩
            simp only [fill_eq, List.take_succ_cons, List.take_zero, List.cons_append, List.nil_append, Act.put, List.setIfInBounds_toArray, List.set_cons_zero, List.set_cons_succ, sel_new, sel_dep d0]
            rfl
        · as_aux_lemma =>
            rintro l a wr ⟨ha, hO⟩ hl hd K' hK
            have d1 := hd 1 (by decide)
            have hx := X63.out; subst hx
            have hx := X64.out; subst hx
            simp only [fill_eq, List.take_succ_cons, List.take_zero, List.cons_append, List.nil_append, Act.put, List.setIfInBounds_toArray, List.set_cons_zero, List.set_cons_succ, sel_of d1] at ha
            subst ha
            rw [if_pos (by rfl)]
            go_simp
            refine hK.out _ _ ⟨?_, hO⟩
            simp only [fill_eq, List.take_succ_cons, List.take_zero, List.cons_append, List.nil_append, Act.put, List.setIfInBounds_toArray, List.set_cons_zero, List.set_cons_succ, sel_new, sel_dep d1]
            rfl
        · as_aux_lemma =>
            rintro l a wr ⟨ha, hO⟩ hl hd K' hK
            have d1 := hd 1 (by decide)
            have d2 := hd 2 (by decide)
            have hx := X63.out; subst hx
            have hx := X64.out; subst hx
            have hx := X65.out; subst hx
            simp only [fill_eq, List.take_succ_cons, List.take_zero, List.cons_append, List.nil_append, Act.put, List.setIfInBounds_toArray, List.set_cons_zero, List.set_cons_succ, sel_of d1, sel_of d2] at ha
            subst ha
            rw [if_pos (by rfl)]
            go_simp
            refine hK.out _ _ ⟨?_, hO⟩
            simp only [fill_eq, List.take_succ_cons, List.take_zero, List.cons_append, List.nil_append, Act.put, List.setIfInBounds_toArray, List.set_cons_zero, List.set_cons_succ, sel_new, sel_dep d1, sel_dep d2]
            rfl
        · as_aux_lemma =>
            rintro l a wr ⟨ha, hO⟩ hl hd K' hK
            have d1 := hd 1 (by decide)
            have d3 := hd 3 (by decide)
            have hx := X63.out; subst hx
            have hx := X65.out; subst hx
            have hx := X66.out; subst hx
            simp only [fill_eq, List.take_succ_cons, List.take_zero, List.cons_append, List.nil_append, Act.put, List.setIfInBounds_toArray, List.set_cons_zero, List.set_cons_succ, sel_of d1, sel_of d3] at ha
            subst ha
            rw [if_pos (by rfl)]
            go_simp
            refine hK.out _ _ ⟨?_, hO⟩
            simp only [fill_eq, List.take_succ_cons, List.take_zero, List.cons_append, List.nil_append, Act.put, List.setIfInBounds_toArray, List.set_cons_zero, List.set_cons_succ, sel_new, sel_dep d1, sel_dep d3]
            rfl
        · as_aux_lemma =>
            rintro l a wr ⟨ha, hO⟩ hl hd K' hK
            have d4 := hd 4 (by decide)
            have hx := X66.out; subst hx
            have hx := X67.out; subst hx
            simp only [fill_eq, List.take_succ_cons, List.take_zero, List.cons_append, List.nil_append, Act.put, List.setIfInBounds_toArray, List.set_cons_zero, List.set_cons_succ, sel_of d4] at ha
            subst ha
            rw [if_pos (by rfl)]
            go_simp
            refine hK.out _ _ ⟨?_, hO⟩
            simp only [fill_eq, List.take_succ_cons, List.take_zero, List.cons_append, List.nil_append, Act.put, List.setIfInBounds_toArray, List.set_cons_zero, List.set_cons_succ, sel_new, sel_dep d4]
            rfl
        · as_aux_lemma =>
            rintro l a wr ⟨ha, hO⟩ hl hd K' hK
            have d5 := hd 5 (by decide)
            have hx := X67.out; subst hx
            have hx := X68.out; subst hx
            simp only [fill_eq, List.take_succ_cons, List.take_zero, List.cons_append, List.nil_append, Act.put, List.setIfInBounds_toArray, List.set_cons_zero, List.set_cons_succ, sel_of d5] at ha
            subst ha
            rw [if_pos (by rfl)]
            go_simp
            refine hK.out _ _ ⟨?_, hO⟩
            simp only [fill_eq, List.take_succ_cons, List.take_zero, List.cons_append, List.nil_append, Act.put, List.setIfInBounds_toArray, List.set_cons_zero, List.set_cons_succ, sel_new, sel_dep d5]
            rfl
        · as_aux_lemma =>
            rintro l a wr ⟨ha, hO⟩ hl hd K' hK
            have d5 := hd 5 (by decide)
            have d6 := hd 6 (by decide)
            have hx := X67.out; subst hx
            have hx := X68.out; subst hx
            have hx := X69.out; subst hx
            simp only [fill_eq, List.take_succ_cons, List.take_zero, List.cons_append, List.nil_append, Act.put, List.setIfInBounds_toArray, List.set_cons_zero, List.set_cons_succ, sel_of d5, sel_of d6] at ha
            subst ha
            rw [if_pos (by rfl)]
            go_simp
            refine hK.out _ _ ⟨?_, hO⟩
            simp only [fill_eq, List.take_succ_cons, List.take_zero, List.cons_append, List.nil_append, Act.put, List.setIfInBounds_toArray, List.set_cons_zero, List.set_cons_succ, sel_new, sel_dep d5, sel_dep d6]
            rfl
        · as_aux_lemma =>
            rintro l a wr ⟨ha, hO⟩ hl hd K' hK
            have d5 := hd 5 (by decide)
            have d7 := hd 7 (by decide)
            have hx := X67.out; subst hx
            have hx := X69.out; subst hx
            have hx := X70.out; subst hx
            simp only [fill_eq, List.take_succ_cons, List.take_zero, List.cons_append, List.nil_append, Act.put, List.setIfInBounds_toArray, List.set_cons_zero, List.set_cons_succ, sel_of d5, sel_of d7] at ha
            subst ha
            rw [if_pos (by rfl)]
            go_simp
            refine hK.out _ _ ⟨?_, hO⟩
            simp only [fill_eq, List.take_succ_cons, List.take_zero, List.cons_append, List.nil_append, Act.put, List.setIfInBounds_toArray, List.set_cons_zero, List.set_cons_succ, sel_new, sel_dep d5, sel_dep d7]
            rfl
        · as_aux_lemma =>
            rintro l a wr ⟨ha, hO⟩ hl hd K' hK
            have d8 := hd 8 (by decide)
            have hx := X70.out; subst hx
            have hx := X71.out; subst hx
            simp only [fill_eq, List.take_succ_cons, List.take_zero, List.cons_append, List.nil_append, Act.put, List.setIfInBounds_toArray, List.set_cons_zero, List.set_cons_succ, sel_of d8] at ha
            subst ha
            rw [if_pos (by rfl)]
            go_simp
            refine hK.out _ _ ⟨?_, hO⟩
            simp only [fill_eq, List.take_succ_cons, List.take_zero, List.cons_append, List.nil_append, Act.put, List.setIfInBounds_toArray, List.set_cons_zero, List.set_cons_succ, sel_new, sel_dep d8]
            rfl
        · as_aux_lemma =>
            rintro l a wr ⟨ha, hO⟩ hl hd K' hK
            have d9 := hd 9 (by decide)
            have hx := X71.out; subst hx
            have hx := X72.out; subst hx
            simp only [fill_eq, List.take_succ_cons, List.take_zero, List.cons_append, List.nil_append, Act.put, List.setIfInBounds_toArray, List.set_cons_zero, List.set_cons_succ, sel_of d9] at ha
            subst ha
            rw [if_pos (by rfl)]
            go_simp
            refine hK.out _ _ ⟨?_, hO⟩
            simp only [fill_eq, List.take_succ_cons, List.take_zero, List.cons_append, List.nil_append, Act.put, List.setIfInBounds_toArray, List.set_cons_zero, List.set_cons_succ, sel_new, sel_dep d9]
            rfl
        · as_aux_lemma =>
            rintro l a wr ⟨ha, hO⟩ hl hd K' hK
            have d9 := hd 9 (by decide)
            have d10 := hd 10 (by decide)
            have hx := X71.out; subst hx
            have hx := X72.out; subst hx
            have hx := X73.out; subst hx
            simp only [fill_eq, List.take_succ_cons, List.take_zero, List.cons_append, List.nil_append, Act.put, List.setIfInBounds_toArray, List.set_cons_zero, List.set_cons_succ, sel_of d9, sel_of d10] at ha
            subst ha
            rw [if_pos (by rfl)]
            go_simp
            refine hK.out _ _ ⟨?_, hO⟩
            simp only [fill_eq, List.take_succ_cons, List.take_zero, List.cons_append, List.nil_append, Act.put, List.setIfInBounds_toArray, List.set_cons_zero, List.set_cons_succ, sel_new, sel_dep d9, sel_dep d10]
            rfl
        · as_aux_lemma =>
            rintro l a wr ⟨ha, hO⟩ hl hd K' hK
            have d9 := hd 9 (by decide)
            have d11 := hd 11 (by decide)
            have hx := X71.out; subst hx
            have hx := X73.out; subst hx
            have hx := X74.out; subst hx
            simp only [fill_eq, List.take_succ_cons, List.take_zero, List.cons_append, List.nil_append, Act.put, List.setIfInBounds_toArray, List.set_cons_zero, List.set_cons_succ, sel_of d9, sel_of d11] at ha
            subst ha
            rw [if_pos (by rfl)]
            go_simp
            refine hK.out _ _ ⟨?_, hO⟩
            simp only [fill_eq, List.take_succ_cons, List.take_zero, List.cons_append, List.nil_append, Act.put, List.setIfInBounds_toArray, List.set_cons_zero, List.set_cons_succ, sel_new, sel_dep d9, sel_dep d11]
            rfl
        · as_aux_lemma =>
            rintro l a wr ⟨ha, hO⟩ hl hd K' hK
            have d12 := hd 12 (by decide)
            have hx := X74.out; subst hx
            have hx := X75.out; subst hx
            simp only [fill_eq, List.take_succ_cons, List.take_zero, List.cons_append, List.nil_append, Act.put, List.setIfInBounds_toArray, List.set_cons_zero, List.set_cons_succ, sel_of d12] at ha
            subst ha
            rw [if_pos (by rfl)]
            go_simp
            refine hK.out _ _ ⟨?_, hO⟩
            simp only [fill_eq, List.take_succ_cons, List.take_zero, List.cons_append, List.nil_append, Act.put, List.setIfInBounds_toArray, List.set_cons_zero, List.set_cons_succ, sel_new, sel_dep d12]
            rfl
        · as_aux_lemma =>
            rintro l a wr ⟨ha, hO⟩ hl hd K' hK
            have d13 := hd 13 (by decide)
            have hx := X75.out; subst hx
            have hx := X76.out; subst hx
            simp only [fill_eq, List.take_succ_cons, List.take_zero, List.cons_append, List.nil_append, Act.put, List.setIfInBounds_toArray, List.set_cons_zero, List.set_cons_succ, sel_of d13] at ha
            subst ha
            have hc := HK11.out wr hO
            have p0 := hc.2.1.1
            have p1 := hc.2.1.2.1
            have p2 := hc.2.1.2.2.1
            have p3 := hc.2.1.2.2.2
            clear hc
            rw [if_pos (by rfl)]
            go_simp
            refine hK.out _ _ ⟨?_, hO⟩
            simp only [fill_eq, List.take_succ_cons, List.take_zero, List.cons_append, List.nil_append, Act.put, List.setIfInBounds_toArray, List.set_cons_zero, List.set_cons_succ, sel_new, sel_dep d13]
            rfl
        · as_aux_lemma =>
            rintro l a wr ⟨ha, hO⟩ hl hd K' hK
            have d13 := hd 13 (by decide)
            have hx := X75.out; subst hx
            have hx := X77.out; subst hx
            simp only [fill_eq, List.take_succ_cons, List.take_zero, List.cons_append, List.nil_append, Act.put, List.setIfInBounds_toArray, List.set_cons_zero, List.set_cons_succ, sel_of d13] at ha
            subst ha
            have hc := HK11.out wr hO
            have p0 := hc.2.2.1.1
            have p1 := hc.2.2.1.2.1
            have p2 := hc.2.2.1.2.2.1
            have p3 := hc.2.2.1.2.2.2
            clear hc
            rw [if_pos (by rfl)]
            go_simp
            refine hK.out _ _ ⟨?_, hO⟩
            simp only [fill_eq, List.take_succ_cons, List.take_zero, List.cons_append, List.nil_append, Act.put, List.setIfInBounds_toArray, List.set_cons_zero, List.set_cons_succ, sel_new, sel_dep d13]
            rfl
        · as_aux_lemma =>
            rintro l a wr ⟨ha, hO⟩ hl hd K' hK
            have d13 := hd 13 (by decide)
            have d14 := hd 14 (by decide)
            have d15 := hd 15 (by decide)
            have hx := X75.out; subst hx
            have hx := X76.out; subst hx
            have hx := X77.out; subst hx
            have hx := X78.out; subst hx
            simp only [fill_eq, List.take_succ_cons, List.take_zero, List.cons_append, List.nil_append, Act.put, List.setIfInBounds_toArray, List.set_cons_zero, List.set_cons_succ, sel_of d13, sel_of d14, sel_of d15] at ha
            subst ha
            rw [if_pos (by rfl)]
            go_simp
            refine hK.out _ _ ⟨?_, hO⟩
            simp only [fill_eq, List.take_succ_cons, List.take_zero, List.cons_append, List.nil_append, Act.put, List.setIfInBounds_toArray, List.set_cons_zero, List.set_cons_succ, sel_new, sel_dep d13, sel_dep d14, sel_dep d15]
            rfl
        · as_aux_lemma =>
            rintro l a wr ⟨ha, hO⟩ hl hd K' hK
            have d13 := hd 13 (by decide)
            have d16 := hd 16 (by decide)
            have hx := X75.out; subst hx
            have hx := X78.out; subst hx
            have hx := X79.out; subst hx
            simp only [fill_eq, List.take_succ_cons, List.take_zero, List.cons_append, List.nil_append, Act.put, List.setIfInBounds_toArray, List.set_cons_zero, List.set_cons_succ, sel_of d13, sel_of d16] at ha
            subst ha
            rw [if_pos (by rfl)]
            go_simp
            refine hK.out _ _ ⟨?_, hO⟩
            simp only [fill_eq, List.take_succ_cons, List.take_zero, List.cons_append, List.nil_append, Act.put, List.setIfInBounds_toArray, List.set_cons_zero, List.set_cons_succ, sel_new, sel_dep d13, sel_dep d16]
            rfl
        · as_aux_lemma =>
            rintro l a wr ⟨ha, hO⟩ hl hd K' hK
            have d17 := hd 17 (by decide)
            have hx := X79.out; subst hx
            have hx := X80.out; subst hx
            simp only [fill_eq, List.take_succ_cons, List.take_zero, List.cons_append, List.nil_append, Act.put, List.setIfInBounds_toArray, List.set_cons_zero, List.set_cons_succ, sel_of d17] at ha
            subst ha
            rw [if_pos (by rfl)]
            go_simp
            refine hK.out _ _ ⟨?_, hO⟩
            simp only [fill_eq, List.take_succ_cons, List.take_zero, List.cons_append, List.nil_append, Act.put, List.setIfInBounds_toArray, List.set_cons_zero, List.set_cons_succ, sel_new, sel_dep d17]
            rfl
        · as_aux_lemma =>
            rintro l a wr ⟨ha, hO⟩ hl hd K' hK
            have d18 := hd 18 (by decide)
            have hx := X80.out; subst hx
            have hx := X81.out; subst hx
            simp only [fill_eq, List.take_succ_cons, List.take_zero, List.cons_append, List.nil_append, Act.put, List.setIfInBounds_toArray, List.set_cons_zero, List.set_cons_succ, sel_of d18] at ha
            subst ha
            have hc := HK11.out wr hO
            have p0 := hc.2.2.2.1.1
            have p1 := hc.2.2.2.1.2.1
            have p2 := hc.2.2.2.1.2.2.1
            have p3 := hc.2.2.2.1.2.2.2
            clear hc
            rw [if_pos (by rfl)]
            go_simp
            refine hK.out _ _ ⟨?_, hO⟩
            simp only [fill_eq, List.take_succ_cons, List.take_zero, List.cons_append, List.nil_append, Act.put, List.setIfInBounds_toArray, List.set_cons_zero, List.set_cons_succ, sel_new, sel_dep d18]
            rfl
        · as_aux_lemma =>
            rintro l a wr ⟨ha, hO⟩ hl hd K' hK
            have d18 := hd 18 (by decide)
            have hx := X80.out; subst hx
            have hx := X82.out; subst hx
            simp only [fill_eq, List.take_succ_cons, List.take_zero, List.cons_append, List.nil_append, Act.put, List.setIfInBounds_toArray, List.set_cons_zero, List.set_cons_succ, sel_of d18] at ha
            subst ha
            have hc := HK11.out wr hO
            have p0 := hc.1.1
            have p1 := hc.1.2.1
            have p2 := hc.1.2.2.1
            have p3 := hc.1.2.2.2
            clear hc
            rw [if_pos (by rfl)]
            go_simp
            refine hK.out _ _ ⟨?_, hO⟩
            simp only [fill_eq, List.take_succ_cons, List.take_zero, List.cons_append, List.nil_append, Act.put, List.setIfInBounds_toArray, List.set_cons_zero, List.set_cons_succ, sel_new, sel_dep d18]
            rfl
        · as_aux_lemma =>
            rintro l a wr ⟨ha, hO⟩ hl hd K' hK
            have d18 := hd 18 (by decide)
            have hx := X80.out; subst hx
            have hx := X83.out; subst hx
            simp only [fill_eq, List.take_succ_cons, List.take_zero, List.cons_append, List.nil_append, Act.put, List.setIfInBounds_toArray, List.set_cons_zero, List.set_cons_succ, sel_of d18] at ha
            subst ha
            have hc := HK11.out wr hO
            have p0 := hc.1.1
            have p1 := hc.1.2.1
            have p2 := hc.1.2.2.1
            have p3 := hc.1.2.2.2
            clear hc
            rw [if_pos (by rfl)]
            go_simp
            refine hK.out _ _ ⟨?_, hO⟩
            simp only [fill_eq, List.take_succ_cons, List.take_zero, List.cons_append, List.nil_append, Act.put, List.setIfInBounds_toArray, List.set_cons_zero, List.set_cons_succ, sel_new, sel_dep d18]
            rfl
        · as_aux_lemma =>
            rintro l a wr ⟨ha, hO⟩ hl hd K' hK
            have d18 := hd 18 (by decide)
            have hx := X80.out; subst hx
            have hx := X84.out; subst hx
            simp only [fill_eq, List.take_succ_cons, List.take_zero, List.cons_append, List.nil_append, Act.put, List.setIfInBounds_toArray, List.set_cons_zero, List.set_cons_succ, sel_of d18] at ha
            subst ha
            rw [if_pos (by rfl)]
            go_simp
            refine hK.out _ _ ⟨?_, hO⟩
            simp only [fill_eq, List.take_succ_cons, List.take_zero, List.cons_append, List.nil_append, Act.put, List.setIfInBounds_toArray, List.set_cons_zero, List.set_cons_succ, sel_new, sel_dep d18]
            rfl
        · as_aux_lemma =>
            rintro l a wr ⟨ha, hO⟩ hl hd K' hK
            have d18 := hd 18 (by decide)
            have d22 := hd 22 (by decide)
            have hx := X80.out; subst hx
            have hx := X84.out; subst hx
            have hx := X85.out; subst hx
            simp only [fill_eq, List.take_succ_cons, List.take_zero, List.cons_append, List.nil_append, Act.put, List.setIfInBounds_toArray, List.set_cons_zero, List.set_cons_succ, sel_of d18, sel_of d22] at ha
            subst ha
            rw [if_pos (by rfl)]
            go_simp
            refine hK.out _ _ ⟨?_, hO⟩
            simp only [fill_eq, List.take_succ_cons, List.take_zero, List.cons_append, List.nil_append, Act.put, List.setIfInBounds_toArray, List.set_cons_zero, List.set_cons_succ, sel_new, sel_dep d18, sel_dep d22]
            rfl
        · as_aux_lemma =>
            rintro l a wr ⟨ha, hO⟩ hl hd K' hK
            have d18 := hd 18 (by decide)
            have d23 := hd 23 (by decide)
            have hx := X80.out; subst hx
            have hx := X85.out; subst hx
            have hx := X86.out; subst hx
            simp only [fill_eq, List.take_succ_cons, List.take_zero, List.cons_append, List.nil_append, Act.put, List.setIfInBounds_toArray, List.set_cons_zero, List.set_cons_succ, sel_of d18, sel_of d23] at ha
            subst ha
            rw [if_pos (by rfl)]
            go_simp
            refine (held_inv (HNX.out wr hO) hO).mono ?_
            rintro e w1 ⟨rfl, hO1, hOW⟩
            go_wp2_with fail
            refine hK.out _ _ ⟨?_, hO1⟩
            simp only [fill_eq, List.take_succ_cons, List.take_zero, List.cons_append, List.nil_append, Act.put, List.setIfInBounds_toArray, List.set_cons_zero, List.set_cons_succ, sel_new, sel_dep d18, sel_dep d23]
            rfl
        · as_aux_lemma =>
            rintro l a wr ⟨ha, hO⟩ hl hd K' hK
            have d18 := hd 18 (by decide)
            have d21 := hd 21 (by decide)
            have d24 := hd 24 (by decide)
            have hx := X80.out; subst hx
            have hx := X83.out; subst hx
            have hx := X86.out; subst hx
            have hx := X87.out; subst hx
            simp only [fill_eq, List.take_succ_cons, List.take_zero, List.cons_append, List.nil_append, Act.put, List.setIfInBounds_toArray, List.set_cons_zero, List.set_cons_succ, sel_of d18, sel_of d21, sel_of d24] at ha
            subst ha
            rw [if_pos (by rfl)]
            go_simp
            refine (held_inv (FMl.out wr) hO).mono ?_
            rintro e w1 ⟨rfl, hO1, hOW⟩
            go_wp2_with fail
            refine hK.out _ _ ⟨?_, hO1⟩
            simp only [fill_eq, List.take_succ_cons, List.take_zero, List.cons_append, List.nil_append, Act.put, List.setIfInBounds_toArray, List.set_cons_zero, List.set_cons_succ, sel_new, sel_dep d18, sel_dep d21, sel_dep d24]
            rfl
        · as_aux_lemma =>
            rintro l a wr ⟨ha, hO⟩ hl hd K' hK
            have d18 := hd 18 (by decide)
            have d20 := hd 20 (by decide)
            have d25 := hd 25 (by decide)
            have hx := X80.out; subst hx
            have hx := X82.out; subst hx
            have hx := X87.out; subst hx
            have hx := X88.out; subst hx
            simp only [fill_eq, List.take_succ_cons, List.take_zero, List.cons_append, List.nil_append, Act.put, List.setIfInBounds_toArray, List.set_cons_zero, List.set_cons_succ, sel_of d18, sel_of d20, sel_of d25] at ha
            subst ha
            rw [if_pos (by rfl)]
            go_simp
            refine (held_inv (FX.out wr) hO).mono ?_
            rintro e w1 ⟨rfl, hO1, hOW⟩
            go_wp2_with fail
            refine hK.out _ _ ⟨?_, hO1⟩
            simp only [fill_eq, List.take_succ_cons, List.take_zero, List.cons_append, List.nil_append, Act.put, List.setIfInBounds_toArray, List.set_cons_zero, List.set_cons_succ, sel_new, sel_dep d18, sel_dep d20, sel_dep d25]
            rfl
        · as_aux_lemma =>
            rintro l a wr ⟨ha, hO⟩ hl hd K' hK
            have d18 := hd 18 (by decide)
            have d19 := hd 19 (by decide)
            have d26 := hd 26 (by decide)
            have hx := X80.out; subst hx
            have hx := X81.out; subst hx
            have hx := X88.out; subst hx
            have hx := X89.out; subst hx
            simp only [fill_eq, List.take_succ_cons, List.take_zero, List.cons_append, List.nil_append, Act.put, List.setIfInBounds_toArray, List.set_cons_zero, List.set_cons_succ, sel_of d18, sel_of d19, sel_of d26] at ha
            subst ha
            rw [if_pos (by rfl)]
            go_simp
            refine hK.out _ _ ⟨?_, hO⟩
            simp only [fill_eq, List.take_succ_cons, List.take_zero, List.cons_append, List.nil_append, Act.put, List.setIfInBounds_toArray, List.set_cons_zero, List.set_cons_succ, sel_new, sel_dep d18, sel_dep d19, sel_dep d26]
            rfl
        · as_aux_lemma =>
            rintro l a wr ⟨ha, hO⟩ hl hd K' hK
            have d18 := hd 18 (by decide)
            have d27 := hd 27 (by decide)
            have hx := X80.out; subst hx
            have hx := X89.out; subst hx
            have hx := X90.out; subst hx
            simp only [fill_eq, List.take_succ_cons, List.take_zero, List.cons_append, List.nil_append, Act.put, List.setIfInBounds_toArray, List.set_cons_zero, List.set_cons_succ, sel_of d18, sel_of d27] at ha
            subst ha
            rw [if_pos (by rfl)]
            go_simp
            refine hK.out _ _ ⟨?_, hO⟩
            simp only [fill_eq, List.take_succ_cons, List.take_zero, List.cons_append, List.nil_append, Act.put, List.setIfInBounds_toArray, List.set_cons_zero, List.set_cons_succ, sel_new, sel_dep d18, sel_dep d27]
            rfl
        · as_aux_lemma =>
            rintro l a wr ⟨ha, hO⟩ hl hd K' hK
            have d28 := hd 28 (by decide)
            have hx := X90.out; subst hx
            have hx := X4.out; subst hx
            simp only [fill_eq, List.take_succ_cons, List.take_zero, List.cons_append, List.nil_append, Act.put, List.setIfInBounds_toArray, List.set_cons_zero, List.set_cons_succ, sel_of d28] at ha
            subst ha
            rw [if_pos (by rfl)]
            go_simp
            refine hK.out _ _ ⟨?_, hO⟩
            simp only [fill_eq, List.take_succ_cons, List.take_zero, List.cons_append, List.nil_append, Act.put, List.setIfInBounds_toArray, List.set_cons_zero, List.set_cons_succ, sel_new, sel_dep d28]
            rfl
        · rintro l a wz ⟨ha, hO⟩ hd
          simp only [fill_eq, List.take_succ_cons, List.take_zero, List.cons_append, List.nil_append, Act.put, List.setIfInBounds_toArray, List.set_cons_zero, List.set_cons_succ, sel_of (hd 0 (by decide)), sel_of (hd 1 (by decide)), sel_of (hd 2 (by decide)), sel_of (hd 3 (by decide)), sel_of (hd 4 (by decide)), sel_of (hd 5 (by decide)), sel_of (hd 6 (by decide)), sel_of (hd 7 (by decide)), sel_of (hd 8 (by decide)), sel_of (hd 9 (by decide)), sel_of (hd 10 (by decide)), sel_of (hd 11 (by decide)), sel_of (hd 12 (by decide)), sel_of (hd 13 (by decide)), sel_of (hd 14 (by decide)), sel_of (hd 15 (by decide)), sel_of (hd 16 (by decide)), sel_of (hd 17 (by decide)), sel_of (hd 18 (by decide)), sel_of (hd 19 (by decide)), sel_of (hd 20 (by decide)), sel_of (hd 21 (by decide)), sel_of (hd 22 (by decide)), sel_of (hd 23 (by decide)), sel_of (hd 24 (by decide)), sel_of (hd 25 (by decide)), sel_of (hd 26 (by decide)), sel_of (hd 27 (by decide)), sel_of (hd 28 (by decide)), sel_of (hd 29 (by decide))] at ha
          subst ha
          have hx := X4.out; subst hx
          have HOf := Lib.hid ((HO3.out).trans hO (fun _ _ c => c))
          clear hO hd
          go_wp2
          go_ret
          exact ⟨rfl, HOf.out⟩
  · have j1 : ¬ ((n1 : Int) = 64) := by omega
    clear FG hF hid hp h1 hs1 hc1 w1
    go_enter Tryd.func8, Tryd.ntmps8
    go_wp2_with fail
    refine (FAL.out _ hT).mono ?_
    rintro e u ⟨rfl, hO⟩
    have HOf := Lib.hid hO
    clear hO
    go_wp2
    go_ret
    exact ⟨rfl, HOf.out⟩

theorem door_met (os : Os) (args : Array Value) : laidMetH Tryd.prog [("sharecore/field.fields", Rows.laid_sharecore_field_fields)] ((World.doorLaid Tryd.prog 400 os).forCall (fun _ _ => 0) ⟨#[], args, []⟩).memory :=
  laidMetH_of_parts3 (fuel := 8) (laidMet_of_run' 8 (by kernel_rfl) (by kernel_rfl)) (by kernel_rfl) (by kernel_rfl)

set_option maxRecDepth 100000 in
theorem lifted (os : Os) (started : os.Started) (H : Type) (enc : TypeId × Value → H) :
    ReturnsInHanded {} Tryd.checked os 8 .any (fun w args => (Rows.bytecodeAddsSpec.pre enc Tryd.prog Tryd.f8 [] false w args ∧ laidMetH Tryd.prog [("sharecore/field.fields", Rows.laid_sharecore_field_fields)] w) ∧ sizedMet enc Tryd.prog Tryd.f8 (OpenSpec.ofChange Rows.bytecodeAddsSpec) false w args)
      (Rows.bytecodeAddsSpec.post enc Tryd.prog Tryd.f8 false true false false) := by
  refine returnsInHanded_of_change_and (C := Tryd.checked) (X := fun w _ => laidMetH Tryd.prog [("sharecore/field.fields", Rows.laid_sharecore_field_fields)] w) (fun _ _ _ hh h => h.of_heap hh) own started (by kernel_rfl) Tryd.func8
    (ChangeSpec.witness_shaped (enc := enc) (C := Tryd.checked) (os := os) (X := fun w _ => laidMetH Tryd.prog [("sharecore/field.fields", Rows.laid_sharecore_field_fields)] w) false (World.doorLaid Tryd.prog 400 os) #[.bool false, .slice none 0 0] 8 rfl (World.shaped_of_RefB (by kernel_rfl) (by kernel_rfl)) (by kernel_rfl) (by kernel_rfl) (by kernel_rfl) (door_met os _)) ?_
  intro W base args ds gs before hval0 hW _ _ hL _
  have hval : ∀ (j : Nat) t v, Tryd.f8.params[j]? = some t → args[j]? = some v → Value.okWide Tryd.prog W .any base t v := hval0
  have hW' := hW
  obtain ⟨p, q, hA0, hV, rfl, hfz, hnd⟩ := hW
  have hA : DataW.TrodAll enc Tryd.prog W 0 (fun _ => true) true Tryd.f8.params.toList args.toList ds p := hA0
  rw [Tryd.params8] at hA hval
  obtain ⟨v0, vs0, d0, ds0, p0, q0, hargs, rfl, rfl, h0, r0⟩ := trodAll_cons hA
  obtain ⟨v1, vs1, d1, ds1, p1, q1, rfl, rfl, rfl, h1, r1⟩ := trodAll_cons r0
  obtain ⟨rfl, rfl, rfl⟩ := trodAll_nil r1
  obtain rfl : args = #[v0, v1] := by cases args; simp_all
  obtain ⟨rfl, rfl⟩ := trodVars_none hV
  obtain ⟨i0, rfl, rfl, rfl⟩ := open_bool Tryd.underlying4 (hval 0 4 v0 rfl rfl) h0
  have w0 := trivial
  obtain ⟨a1, n1, cap1, rfl⟩ := okWide_slice Tryd.underlying30 (hval 1 30 v1 rfl rfl)
  have k1 := h1
  have lt1 : ∀ x ∈ p1, x.block < W.heap.size := by obtain ⟨m, hm⟩ := k1; exact DataW.trod_lt m _ _ _ hm
  obtain ⟨bs1, hn1, hc1, hs1, w1⟩ : ∃ bs, n1 = bs.length ∧ n1 ≤ cap1 ∧ Small bs ∧ BsAt W a1 bs (fun k => k < W.heap.size) := by
    obtain ⟨fuel, hf⟩ := h1
    exact bytes_of_trod hf
  have hT := tab_of_laid hL
  clear hA0 hval0
  refine (walk i0 a1 n1 cap1 bs1 W w0 hn1 hc1 hs1 w1 hT).mono fun e W' ⟨he, hoff⟩ => ?_
  have bel : Below W.heap.size W W' := hoff.below (Nat.le_refl _) (fun _ _ c => c)
  subst he
  exact ⟨_, rfl, _, _, _, [], _, [], hW', trodAll_mk1 (shut_bool Tryd.underlying4 _), (trodAll_cons_mk (shut_bool Tryd.underlying4 _) (trodAll_cons_mk (Below.trod laidOut (by kernel_rfl) (of_decide_eq_true (by kernel_rfl)) k1 bel lt1) trodAll_mk0)), rfl, bel.frame _, fun h => by cases h⟩

theorem over : Rows.bytecodeAddsRow.holds Tryd.pinned (OpenSpec.ofChange Rows.bytecodeAddsSpec) :=
  OpenClaim.holds_of_wide 8 Tryd.f8 rfl rfl rfl rfl rfl rfl rfl ⟨rfl, rfl, rfl, rfl, rfl⟩ rfl rfl rfl rfl rfl (by kernel_rfl) Tryd.func8 (by kernel_rfl)
    (of_decide_eq_true (by kernel_rfl)) (by unfold Func.isWrapper; first | (rw [if_pos (by decide +kernel)]; kernel_rfl) | (rw [if_neg (by decide +kernel)]; exact ⟨rfl, rfl⟩))
    (fun os started H enc _ => lifted os started H enc)

theorem proved : Rows.BytecodeAddsCardSaid :=
  Claim7.holds_tied_plain_at .later [] [.data] true (true, "0501a0b72a99cfb9ca1ff1f7e0f7f908ab47c28911e2dcee8a79923f14811295") false
    over (fun _ h => by cases h) (by kernel_rfl) (fun _ h => by cases h) bytecodeAdds_row_tie rfl ⟨rfl, rfl⟩ (by kernel_rfl) rfl
    (fun f fn hf hfn => by
      obtain rfl : f = 8 := Option.some.inj ((show Tryd.prog.funcNamed "sharecore/sharecorelaw07.BytecodeAdds" = some 8 by kernel_rfl).symm.trans hf) |>.symm
      obtain rfl : fn = Tryd.f8 := (Option.some.inj (Tryd.func8.symm.trans hfn)).symm
      exact ⟨by kernel_rfl, fun j t ht => by
        rw [Tryd.params8] at ht
        have hm : t ∈ [4, 30] := by simpa using Array.mem_of_getElem? ht
        have hall : ([4, 30].all fun u => !Tryd.prog.wantsStandIn u) = true := by kernel_rfl
        exact (show Tryd.prog.wantsStandIn t = false by simpa using List.all_eq_true.1 hall t hm)⟩)
    (by kernel_rfl)
#print axioms proved
end Go.Proofs.YtclknpkjnkgejaaDoor.bytecodeAdds
