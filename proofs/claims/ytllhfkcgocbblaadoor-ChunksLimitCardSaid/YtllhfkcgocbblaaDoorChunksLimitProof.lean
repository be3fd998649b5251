/-
  For every field and every byte, the examples of the chapter hold, and Split of 65530 to 65539 times this byte returns as many elements as Count says, or the error for a secret that is too long: the statement of P13.1 and P13.2. No condition.
-/
import Derived.Test.YtllhfkcgocbblaaDoorRows
import Derived.Test.YtllhfkcgocbblaaDoorTie
import Derived.Test.YtllhfkcgocbblaaDoorCards
import Derived.LaidMore
import Derived.LaidHandle
import Derived.SevenTiedAt
import Derived.Stop.Joined
import Derived.JoinedOf
import Derived.Test.YtllhfkcgocbblaaDoorLimbOpen
import Derived.Test.YtllhfkcgocbblaaDoorFieldTab
import Derived.Test.YtllhfkcgocbblaaDoorChkAlive
import Derived.Test.YtllhfkcgocbblaaDoorRepBy
import Derived.Test.YtllhfkcgocbblaaDoorBytReg
import Derived.WalkKit
import Derived.ProofKit
import Derived.OpenShut
import Derived.ShutString
import Derived.ChangeOld
import Derived.Below
namespace Go.Proofs.YtllhfkcgocbblaaDoor.chunksLimit
open Go.ChangeShapes Go.WideShapes Go.ChangeAt Go.RowKit
set_option linter.unusedVariables false

theorem own : ownKnob Tryd.prog.godebug = none := by kernel_rfl
theorem laidOut : laidOutB Tryd.prog = true := by kernel_rfl

theorem wf_i64 {d : Nat} (h : d ≤ 100000) : (Lit.int .i64 (d : Int)).wf = true := by
  simp [Lit.wf, IntKind.min, IntKind.max, IntKind.signed, IntKind.bits]
  omega
theorem repeat_val (x n : Nat) (h0 : 8192 < n) (hn : n ≤ 70000) (b : Nat) (w : World) (hb : w.heap[b]? = some (.cells #[.int .u8 (x : Int)] 5)) :
    Calls Tryd.prog 21 #[.slice (some ⟨b, 0, none⟩) 1 1, .int .i64 (n : Int)] w fun e w' => ∃ u, e = .returned u ∧ SvAt w' u (List.replicate n x) ∧ Off (fun _ => False) w w' := by
  have h1 : BsAt w (some ⟨b, 0, none⟩) [x] (fun _ => True) := fun _ => ⟨b, 0, rfl, trivial, fun j y hj => by
    have h6 : j < 1 := (List.getElem?_eq_some_iff.1 hj).1
    obtain rfl : j = 0 := by omega
    rw [Nat.zero_add, cell_of_heap hb]
    simp at hj
    subst hj
    rfl⟩
  refine (repeat_by x n h0 hn _ 1 _ w h1).mono ?_
  rintro e w' ⟨g, rfl, _, h2, hO⟩
  exact ⟨_, rfl, ⟨_, _, _, rfl, by simp, Nat.le_refl _, h2.mono (fun _ _ _ => trivial)⟩, hO⟩
theorem split_long {id : Int} {p i r s n c : Nat} (hF : Fld id p i r s) (h : 65535 < n) (h2 : n ≤ 65539) {W : World} {v : Value} (hV : SvAt W v (List.replicate n c)) :
    Calls Tryd.prog 14 #[FV id p i r s, v] W fun e w' => e = .returned (.tuple #[.slice none 0 0, .int .i64 6]) ∧ Off (fun _ => False) W w' := by
  obtain ⟨a, m, cap, rfl, hm, hc, hb⟩ := hV
  rw [List.length_replicate] at hm
  subst hm
  exact split_over hF a m cap W h (wf_i64 (by omega))
theorem split_fit {id : Int} {p i r s n c : Nat} (hF : Fld id p i r s) (hs : Small (List.replicate n c)) (h : n ≤ 65535) {W : World} {v : Value} (hV : SvAt W v (List.replicate n c)) :
    Calls Tryd.prog 14 #[FV id p i r s, v] W fun e w' => ∃ u, e = .returned (.tuple #[u, .int .i64 0]) ∧ Ls w' u ((splitV (List.replicate n c)).map (fm p)) ∧ Off (fun _ => False) W w' := by
  obtain ⟨a, m, cap, rfl, hm, hc, hb⟩ := hV
  refine (split_any hF a m cap _ _ W hb hm hc hs (by rw [List.length_replicate] at hm; omega)).mono ?_
  rintro e w' ⟨a2, c2, rfl, hl, hO⟩
  exact ⟨_, rfl, hl, hO⟩
set_option maxRecDepth 100000 in
set_option maxHeartbeats 4000000 in
theorem walk (i0 : Bool) (i1 : Int) (i2 : Int) (w : World) (w0 : True) (w1 : (Lit.int .u8 i1).wf = true) (w2 : (Lit.int .u8 i2).wf = true) (hT : TabAt w) :
    Calls Tryd.prog 8 #[.bool i0, .int .u8 i1, .int .u8 i2] w fun e w' => e = .returned (.bool true) ∧ Off (fun _ => False) w w' := by
  obtain ⟨id, p, i, r, s, hF, hid⟩ := fld_of i0
  have hp := hF.mp.lt
  have h1 := hF.mp.one
  have FG := Lib.hid (fun W hT => get13_any i0 hF hid W hT)
  have FAL : Hid (∀ W, TabAt W → Calls Tryd.prog 9 #[] W fun e w' => e = .returned (.bool true) ∧ Off (fun _ => False) W w') := Lib.hid (fun W hT => alive13_any W hT)
  have HT := Lib.hid hT
  clear hT hid
  obtain ⟨o, rfl⟩ : ∃ o : Nat, i1 = (o : Int) := Int.eq_ofNat_of_zero_le (bounds_u8 w1).1
  obtain ⟨c, rfl⟩ : ∃ c : Nat, i2 = (c : Int) := Int.eq_ofNat_of_zero_le (bounds_u8 w2).1
  have ho := (bounds_u8 w1).2
  have hc := (bounds_u8 w2).2
  obtain ⟨n, hn⟩ : ∃ n, n = 65530 + o % 10 := ⟨_, rfl⟩
  have hnl : 65530 ≤ n ∧ n ≤ 65539 := by omega
  have q3 : IntKind.i64.wrap (65530 + (o : Int) % 10) = (n : Int) := by rw [IntKind.wrap_i64, hn]; omega
  have hsr : Small (List.replicate n c) := fun x h => by rw [(List.mem_replicate.1 h).2]; omega
  have FR := Lib.hid (fun (W : World) (b : Nat) (hb : W.heap[b]? = some (.cells #[.int .u8 (c : Int)] 5)) => repeat_val c n (by omega) (by omega) b W hb)
  have FCn := Lib.hid (fun W => count_any (n : Int) (wf_i64 (by omega)) W)
  have HNL := Lib.hid hnl
  by_cases hbig : 65535 < n
  · have FS := Lib.hid (fun (W : World) (v : Value) (hV : SvAt W v (List.replicate n c)) => (show Calls Tryd.prog 14 #[FV id p i r s, v] W fun e w' => e = .returned (.tuple #[.slice none 0 0, .int .i64 6]) ∧ Off (fun _ => False) W w' from split_long hF hbig (by omega) hV))
    have HCn : Hid (cntI (n : Int) = 0) := Lib.hid (by unfold cntI; rw [if_neg (by omega)])
    rw [HCn.out] at FCn
    have i9 : (65535 : Int) < (n : Int) := by omega
    clear hF hp h1 w1 w2 ho hc hsr hbig
    go_enter Tryd.func8, Tryd.ntmps8
    go_wp2_with fail
    refine (FG.out _ HT.out).mono ?_
    rintro e u0 ⟨rfl, hO⟩
    have HK : Hid (∀ W, Off (fun _ => False) ((u0.alloc (.cells #[.int .i64 id, .int .u64 (wd p 0 : Int), .int .u64 (wd p 1 : Int), .int .u64 (wd p 2 : Int), .int .u64 (wd p 3 : Int), .int .u64 (i : Int), .int .u64 (wd r 0 : Int), .int .u64 (wd r 1 : Int), .int .u64 (wd r 2 : Int), .int .u64 (wd r 3 : Int), .int .u64 (wd s 0 : Int), .int .u64 (wd s 1 : Int), .int .u64 (wd s 2 : Int), .int .u64 (wd s 3 : Int)] 30)).alloc (.cells #[.int .u64 (wd p 0 : Int), .int .u64 (wd p 1 : Int), .int .u64 (wd p 2 : Int), .int .u64 (wd p 3 : Int)] 27)) W → W.heap[u0.heap.size]? = some (.cells #[.int .i64 id, .int .u64 (wd p 0 : Int), .int .u64 (wd p 1 : Int), .int .u64 (wd p 2 : Int), .int .u64 (wd p 3 : Int), .int .u64 (i : Int), .int .u64 (wd r 0 : Int), .int .u64 (wd r 1 : Int), .int .u64 (wd r 2 : Int), .int .u64 (wd r 3 : Int), .int .u64 (wd s 0 : Int), .int .u64 (wd s 1 : Int), .int .u64 (wd s 2 : Int), .int .u64 (wd s 3 : Int)] 30) ∧ W.heap[u0.heap.size + 1]? = some (.cells #[.int .u64 (wd p 0 : Int), .int .u64 (wd p 1 : Int), .int .u64 (wd p 2 : Int), .int .u64 (wd p 3 : Int)] 27)) := Lib.hid (fun W h => ⟨h.heap (heap_old' (heap_new' rfl _) _) (fun c => c), h.heap (heap_new' (by simp) _) (fun c => c)⟩)
    have HO0 : Hid (∀ W, Off (fun _ => False) ((u0.alloc (.cells #[.int .i64 id, .int .u64 (wd p 0 : Int), .int .u64 (wd p 1 : Int), .int .u64 (wd p 2 : Int), .int .u64 (wd p 3 : Int), .int .u64 (i : Int), .int .u64 (wd r 0 : Int), .int .u64 (wd r 1 : Int), .int .u64 (wd r 2 : Int), .int .u64 (wd r 3 : Int), .int .u64 (wd s 0 : Int), .int .u64 (wd s 1 : Int), .int .u64 (wd s 2 : Int), .int .u64 (wd s 3 : Int)] 30)).alloc (.cells #[.int .u64 (wd p 0 : Int), .int .u64 (wd p 1 : Int), .int .u64 (wd p 2 : Int), .int .u64 (wd p 3 : Int)] 27)) W → Off (fun _ => False) w W) := Lib.hid (fun W h => (hO.trans (((Off.refl (fun _ => False) u0).alloc _).alloc _) (fun _ _ c => c)).trans h (fun _ _ c => c))
    obtain ⟨b0, hb0⟩ : ∃ b0, b0 = u0.heap.size := ⟨_, rfl⟩
    clear hO FG
    obtain ⟨W0, hW0⟩ : ∃ W0, W0 = ((u0.alloc (.cells #[.int .i64 id, .int .u64 (wd p 0 : Int), .int .u64 (wd p 1 : Int), .int .u64 (wd p 2 : Int), .int .u64 (wd p 3 : Int), .int .u64 (i : Int), .int .u64 (wd r 0 : Int), .int .u64 (wd r 1 : Int), .int .u64 (wd r 2 : Int), .int .u64 (wd r 3 : Int), .int .u64 (wd s 0 : Int), .int .u64 (wd s 1 : Int), .int .u64 (wd s 2 : Int), .int .u64 (wd s 3 : Int)] 30)).alloc (.cells #[.int .u64 (wd p 0 : Int), .int .u64 (wd p 1 : Int), .int .u64 (wd p 2 : Int), .int .u64 (wd p 3 : Int)] 27)) := ⟨_, rfl⟩
    have HW0 := Lib.hid hW0
    rw [← hW0] at HK HO0
    clear hW0
    have HKc : Hid (∀ A, Off (fun _ => False) W0 A → (A.cell? ⟨u0.heap.size, 0, none⟩ = some (.int .i64 id) ∧ A.cell? ⟨u0.heap.size, 1, none⟩ = some (.int .u64 (wd p 0 : Int)) ∧ A.cell? ⟨u0.heap.size, 2, none⟩ = some (.int .u64 (wd p 1 : Int)) ∧ A.cell? ⟨u0.heap.size, 3, none⟩ = some (.int .u64 (wd p 2 : Int)) ∧ A.cell? ⟨u0.heap.size, 4, none⟩ = some (.int .u64 (wd p 3 : Int)) ∧ A.cell? ⟨u0.heap.size, 5, none⟩ = some (.int .u64 (i : Int)) ∧ A.cell? ⟨u0.heap.size, 6, none⟩ = some (.int .u64 (wd r 0 : Int)) ∧ A.cell? ⟨u0.heap.size, 7, none⟩ = some (.int .u64 (wd r 1 : Int)) ∧ A.cell? ⟨u0.heap.size, 8, none⟩ = some (.int .u64 (wd r 2 : Int)) ∧ A.cell? ⟨u0.heap.size, 9, none⟩ = some (.int .u64 (wd r 3 : Int)) ∧ A.cell? ⟨u0.heap.size, 10, none⟩ = some (.int .u64 (wd s 0 : Int)) ∧ A.cell? ⟨u0.heap.size, 11, none⟩ = some (.int .u64 (wd s 1 : Int)) ∧ A.cell? ⟨u0.heap.size, 12, none⟩ = some (.int .u64 (wd s 2 : Int)) ∧ A.cell? ⟨u0.heap.size, 13, none⟩ = some (.int .u64 (wd s 3 : Int))) ∧ Off (fun _ => False) W0 A) := Lib.hid (fun A h => ⟨fv_cells (HK.out _ h).1, h⟩)
    go_upto_region 3 with fail
    rw [← HW0.out]
    try rw [show 65530 + (o : Int) % 10 = (n : Int) by omega]
    clear q3 hn hnl
    refine wp_region_inv (fun a0 l a' w' => ∃ (u22 : Value) (u23 : Value) (u24 : Value) (u25 : Value) (u26 : Value) (u27 : Value) (u21 : Value) (u28 : Value) (u29 : Value) (u10 : Value) (u11 : Value) (b24 : Nat), a' = (Act.put (Act.put (Act.put (Act.put (Act.put (Act.put (Act.put (Act.put (Act.put (Act.put (Act.put a0 (some 22) u22) (some 23) u23) (some 24) u24) (some 25) u25) (some 26) u26) (some 27) u27) (some 21) u21) (some 28) u28) (some 29) u29) (some 10) u10) (some 11) u11) ∧ Slot l 0 u22 (FV id p i r s) ∧ Slot l 1 u23 (.int .u8 (c : Int)) ∧ Slot l 3 u25 (.int .i64 (n : Int)) ∧ Slot l 5 u27 (.tuple #[.slice none 0 0, .int .i64 6]) ∧ Slot l 6 u21 (.tuple #[.slice none 0 0, .int .i64 6]) ∧ Slot l 7 u28 (.slice none 0 0) ∧ Slot l 8 u29 (.int .i64 6) ∧ Slot l 9 u10 (.slice none 0 0) ∧ Slot l 10 u11 (.int .i64 6) ∧ Mk l 4 u26 w' (List.replicate n c) ∧ MkB l 2 u24 b24 1 W0 w' (.cells #[.int .u8 (c : Int)] 5) ∧ Off (fun _ => False) W0 w') (by kernel_rfl) (by kernel_rfl) ?_ ⟨?_, ?_, ?_, ?_, ?_, ?_, ?_, ?_, ?_, ?_, ?_, trivial⟩ ?_
    · refine ⟨?z22, ?z23, ?z24, ?z25, ?z26, ?z27, ?z21, ?z28, ?z29, ?z10, ?z11, 0, ?fr, Slot.start _ _ _, Slot.start _ _ _, Slot.start _ _ _, Slot.start _ _ _, Slot.start _ _ _, Slot.start _ _ _, Slot.start _ _ _, Slot.start _ _ _, Slot.start _ _ _, Mk.start _ _ _ _, MkB.start _ _ _ _ _ _ _, (Off.refl _ W0).drew⟩
      case fr => first | (simp only [Act.put, List.setIfInBounds_toArray, List.set_cons_zero, List.set_cons_succ]; rfl) | simp only [Act.put, List.setIfInBounds_toArray, List.set_cons_zero, List.set_cons_succ]
    · intro l a wr hI hl hd K' hK
      obtain ⟨u22, u23, u24, u25, u26, u27, u21, u28, u29, u10, u11, b24, ha, s0, s1, s3, s5, s6, s7, s8, s9, s10, M4, E2, hO⟩ := hI
      simp only [Act.put, List.setIfInBounds_toArray, List.set_cons_zero, List.set_cons_succ] at ha
      subst ha
      have hc := HKc.out wr hO
      have p0 := hc.1.1
      have p1 := hc.1.2.1
      have p2 := hc.1.2.2.1
      have p3 := hc.1.2.2.2.1
      have p4 := hc.1.2.2.2.2.1
      have p5 := hc.1.2.2.2.2.2.1
      have p6 := hc.1.2.2.2.2.2.2.1
      have p7 := hc.1.2.2.2.2.2.2.2.1
      have p8 := hc.1.2.2.2.2.2.2.2.2.1
      have p9 := hc.1.2.2.2.2.2.2.2.2.2.1
      have p10 := hc.1.2.2.2.2.2.2.2.2.2.2.1
      have p11 := hc.1.2.2.2.2.2.2.2.2.2.2.2.1
      have p12 := hc.1.2.2.2.2.2.2.2.2.2.2.2.2.1
      have p13 := hc.1.2.2.2.2.2.2.2.2.2.2.2.2.2
      clear hc
      go_simp
      refine hK.out _ _ ⟨_, _, _, _, _, _, _, _, _, _, _, _, ?_, Slot.new _ _ _, s1.keep rfl, s3.keep rfl, s5.keep rfl, s6.keep rfl, s7.keep rfl, s8.keep rfl, s9.keep rfl, s10.keep rfl, M4.keep (Off.refl _ wr) rfl, E2.keep (Off.refl _ wr) rfl, hO⟩
      simp only [Act.put, List.setIfInBounds_toArray, List.set_cons_zero, List.set_cons_succ]
    · intro l a wr hI hl hd K' hK
      obtain ⟨u22, u23, u24, u25, u26, u27, u21, u28, u29, u10, u11, b24, ha, s0, s1, s3, s5, s6, s7, s8, s9, s10, M4, E2, hO⟩ := hI
      simp only [Act.put, List.setIfInBounds_toArray, List.set_cons_zero, List.set_cons_succ] at ha
      subst ha
      go_simp
      refine hK.out _ _ ⟨_, _, _, _, _, _, _, _, _, _, _, _, ?_, s0.keep rfl, Slot.new _ _ _, s3.keep rfl, s5.keep rfl, s6.keep rfl, s7.keep rfl, s8.keep rfl, s9.keep rfl, s10.keep rfl, M4.keep (Off.refl _ wr) rfl, E2.keep (Off.refl _ wr) rfl, hO⟩
      simp only [Act.put, List.setIfInBounds_toArray, List.set_cons_zero, List.set_cons_succ]
    · intro l a wr hI hl hd K' hK
      obtain ⟨u22, u23, u24, u25, u26, u27, u21, u28, u29, u10, u11, b24, ha, s0, s1, s3, s5, s6, s7, s8, s9, s10, M4, E2, hO⟩ := hI
      simp only [Act.put, List.setIfInBounds_toArray, List.set_cons_zero, List.set_cons_succ] at ha
      have q1 := s1 (hd 1 (by decide))
      subst ha q1
      go_simp
      refine hK.out _ _ ⟨_, _, _, _, _, _, _, _, _, _, _, _, ?_, s0.keep rfl, s1.keep rfl, s3.keep rfl, s5.keep rfl, s6.keep rfl, s7.keep rfl, s8.keep rfl, s9.keep rfl, s10.keep rfl, M4.keep ((Off.refl _ wr).alloc _) rfl, MkB.make hO, hO.alloc _⟩
      simp only [Act.put, List.setIfInBounds_toArray, List.set_cons_zero, List.set_cons_succ]
    · intro l a wr hI hl hd K' hK
      obtain ⟨u22, u23, u24, u25, u26, u27, u21, u28, u29, u10, u11, b24, ha, s0, s1, s3, s5, s6, s7, s8, s9, s10, M4, E2, hO⟩ := hI
      simp only [Act.put, List.setIfInBounds_toArray, List.set_cons_zero, List.set_cons_succ] at ha
      subst ha
      go_simp
      refine hK.out _ _ ⟨_, _, _, _, _, _, _, _, _, _, _, _, ?_, s0.keep rfl, s1.keep rfl, Slot.new _ _ _, s5.keep rfl, s6.keep rfl, s7.keep rfl, s8.keep rfl, s9.keep rfl, s10.keep rfl, M4.keep (Off.refl _ wr) rfl, E2.keep (Off.refl _ wr) rfl, hO⟩
      simp only [Act.put, List.setIfInBounds_toArray, List.set_cons_zero, List.set_cons_succ]
    · intro l a wr hI hl hd K' hK
      obtain ⟨u22, u23, u24, u25, u26, u27, u21, u28, u29, u10, u11, b24, ha, s0, s1, s3, s5, s6, s7, s8, s9, s10, M4, E2, hO⟩ := hI
      simp only [Act.put, List.setIfInBounds_toArray, List.set_cons_zero, List.set_cons_succ] at ha
      have q2 := E2.ptr (hd 2 (by decide))
      have q3 := s3 (hd 3 (by decide))
      subst ha q2 q3
      go_simp
      refine (FR.out wr _ (E2.now (hd 2 (by decide)))).mono ?_
      rintro e w1 ⟨uv, rfl, hm, hOW⟩
      have hO1 := hO.trans hOW (fun _ _ c => c.elim)
      go_wp2_with fail
      refine hK.out _ _ ⟨_, _, _, _, _, _, _, _, _, _, _, _, ?_, s0.keep rfl, s1.keep rfl, s3.keep rfl, s5.keep rfl, s6.keep rfl, s7.keep rfl, s8.keep rfl, s9.keep rfl, s10.keep rfl, Mk.new hm, E2.keep hOW rfl, hO1⟩
      simp only [Act.put, List.setIfInBounds_toArray, List.set_cons_zero, List.set_cons_succ]
    · intro l a wr hI hl hd K' hK
      obtain ⟨u22, u23, u24, u25, u26, u27, u21, u28, u29, u10, u11, b24, ha, s0, s1, s3, s5, s6, s7, s8, s9, s10, M4, E2, hO⟩ := hI
      simp only [Act.put, List.setIfInBounds_toArray, List.set_cons_zero, List.set_cons_succ] at ha
      have q0 := s0 (hd 0 (by decide))
      have m4 := M4 (hd 4 (by decide))
      subst ha q0
      go_simp
      refine (held_inv (FS.out wr _ m4) hO).mono ?_
      rintro e w1 ⟨rfl, hO1, hOW⟩
      go_wp2_with fail
      refine hK.out _ _ ⟨_, _, _, _, _, _, _, _, _, _, _, _, ?_, s0.keep rfl, s1.keep rfl, s3.keep rfl, Slot.new _ _ _, s6.keep rfl, s7.keep rfl, s8.keep rfl, s9.keep rfl, s10.keep rfl, M4.keep hOW rfl, E2.keep hOW rfl, hO1⟩
      simp only [Act.put, List.setIfInBounds_toArray, List.set_cons_zero, List.set_cons_succ]
    · intro l a wr hI hl hd K' hK
      obtain ⟨u22, u23, u24, u25, u26, u27, u21, u28, u29, u10, u11, b24, ha, s0, s1, s3, s5, s6, s7, s8, s9, s10, M4, E2, hO⟩ := hI
      simp only [Act.put, List.setIfInBounds_toArray, List.set_cons_zero, List.set_cons_succ] at ha
      have q5 := s5 (hd 5 (by decide))
      subst ha q5
      go_simp
      refine hK.out _ _ ⟨_, _, _, _, _, _, _, _, _, _, _, _, ?_, s0.keep rfl, s1.keep rfl, s3.keep rfl, s5.keep rfl, Slot.new _ _ _, s7.keep rfl, s8.keep rfl, s9.keep rfl, s10.keep rfl, M4.keep (Off.refl _ wr) rfl, E2.keep (Off.refl _ wr) rfl, hO⟩
      simp only [Act.put, List.setIfInBounds_toArray, List.set_cons_zero, List.set_cons_succ]
    · intro l a wr hI hl hd K' hK
      obtain ⟨u22, u23, u24, u25, u26, u27, u21, u28, u29, u10, u11, b24, ha, s0, s1, s3, s5, s6, s7, s8, s9, s10, M4, E2, hO⟩ := hI
      simp only [Act.put, List.setIfInBounds_toArray, List.set_cons_zero, List.set_cons_succ] at ha
      have q6 := s6 (hd 6 (by decide))
      subst ha q6
      go_simp
      refine hK.out _ _ ⟨_, _, _, _, _, _, _, _, _, _, _, _, ?_, s0.keep rfl, s1.keep rfl, s3.keep rfl, s5.keep rfl, s6.keep rfl, Slot.new _ _ _, s8.keep rfl, s9.keep rfl, s10.keep rfl, M4.keep (Off.refl _ wr) rfl, E2.keep (Off.refl _ wr) rfl, hO⟩
      simp only [Act.put, List.setIfInBounds_toArray, List.set_cons_zero, List.set_cons_succ]
    · intro l a wr hI hl hd K' hK
      obtain ⟨u22, u23, u24, u25, u26, u27, u21, u28, u29, u10, u11, b24, ha, s0, s1, s3, s5, s6, s7, s8, s9, s10, M4, E2, hO⟩ := hI
      simp only [Act.put, List.setIfInBounds_toArray, List.set_cons_zero, List.set_cons_succ] at ha
      have q6 := s6 (hd 6 (by decide))
      subst ha q6
      go_simp
      refine hK.out _ _ ⟨_, _, _, _, _, _, _, _, _, _, _, _, ?_, s0.keep rfl, s1.keep rfl, s3.keep rfl, s5.keep rfl, s6.keep rfl, s7.keep rfl, Slot.new _ _ _, s9.keep rfl, s10.keep rfl, M4.keep (Off.refl _ wr) rfl, E2.keep (Off.refl _ wr) rfl, hO⟩
      simp only [Act.put, List.setIfInBounds_toArray, List.set_cons_zero, List.set_cons_succ]
    · intro l a wr hI hl hd K' hK
      obtain ⟨u22, u23, u24, u25, u26, u27, u21, u28, u29, u10, u11, b24, ha, s0, s1, s3, s5, s6, s7, s8, s9, s10, M4, E2, hO⟩ := hI
      simp only [Act.put, List.setIfInBounds_toArray, List.set_cons_zero, List.set_cons_succ] at ha
      have q7 := s7 (hd 7 (by decide))
      subst ha q7
      go_simp
      refine hK.out _ _ ⟨_, _, _, _, _, _, _, _, _, _, _, _, ?_, s0.keep rfl, s1.keep rfl, s3.keep rfl, s5.keep rfl, s6.keep rfl, s7.keep rfl, s8.keep rfl, Slot.new _ _ _, s10.keep rfl, M4.keep (Off.refl _ wr) rfl, E2.keep (Off.refl _ wr) rfl, hO⟩
      simp only [Act.put, List.setIfInBounds_toArray, List.set_cons_zero, List.set_cons_succ]
    · intro l a wr hI hl hd K' hK
      obtain ⟨u22, u23, u24, u25, u26, u27, u21, u28, u29, u10, u11, b24, ha, s0, s1, s3, s5, s6, s7, s8, s9, s10, M4, E2, hO⟩ := hI
      simp only [Act.put, List.setIfInBounds_toArray, List.set_cons_zero, List.set_cons_succ] at ha
      have q8 := s8 (hd 8 (by decide))
      subst ha q8
      go_simp
      refine hK.out _ _ ⟨_, _, _, _, _, _, _, _, _, _, _, _, ?_, s0.keep rfl, s1.keep rfl, s3.keep rfl, s5.keep rfl, s6.keep rfl, s7.keep rfl, s8.keep rfl, s9.keep rfl, Slot.new _ _ _, M4.keep (Off.refl _ wr) rfl, E2.keep (Off.refl _ wr) rfl, hO⟩
      simp only [Act.put, List.setIfInBounds_toArray, List.set_cons_zero, List.set_cons_succ]
    · intro l a wc hI hd
      obtain ⟨u22, u23, u24, u25, u26, u27, u21, u28, u29, u10, u11, b24, ha, s0, s1, s3, s5, s6, s7, s8, s9, s10, M4, E2, hO⟩ := hI
      simp only [Act.put, List.setIfInBounds_toArray, List.set_cons_zero, List.set_cons_succ] at ha
      have q0 := s0 (hd 0 (by decide))
      have q1 := s1 (hd 1 (by decide))
      have q3 := s3 (hd 3 (by decide))
      have q5 := s5 (hd 5 (by decide))
      have q6 := s6 (hd 6 (by decide))
      have q7 := s7 (hd 7 (by decide))
      have q8 := s8 (hd 8 (by decide))
      have q9 := s9 (hd 9 (by decide))
      have q10 := s10 (hd 10 (by decide))
      have q2 := E2.ptr (hd 2 (by decide))
      have n24 := E2.now (hd 2 (by decide))
      have l24 := E2.new (hd 2 (by decide))
      have m26 := M4 (hd 4 (by decide))
      subst ha q0 q1 q2 q3 q5 q6 q7 q8 q9 q10
      clear hd s0 s1 s3 s5 s6 s7 s8 s9 s10 M4 E2
      have HO1 := Lib.hid hO
      clear hO m26 n24 l24
      go_wp2_with fail
      refine (FAL.out _ (HT.out.off (HO0.out _ HO1.out))).mono ?_
      rintro e u4 ⟨rfl, hO4⟩
      have HO4 := Lib.hid (HO1.out.trans hO4 (fun _ _ c => c))
      clear hO4
      go_wp2_with fail
      refine (FCn.out _).mono ?_
      rintro e u5 ⟨rfl, hO5⟩
      have HO5 := Lib.hid (HO4.out.trans hO5 (fun _ _ c => c))
      clear hO5
      go_wp2
      go_ret
      exact ⟨rfl, HO0.out _ HO5.out⟩
  · obtain ⟨XS, hXS⟩ : ∃ XS, XS = (splitV (List.replicate n c)).map (fm p) := ⟨_, rfl⟩
    have hXl : XS.length = cntN n := by rw [hXS, List.length_map, splitV_length, List.length_replicate]
    have FS := Lib.hid (fun (W : World) (v : Value) (hV : SvAt W v (List.replicate n c)) => (show Calls Tryd.prog 14 #[FV id p i r s, v] W fun e w' => ∃ u, e = .returned (.tuple #[u, .int .i64 0]) ∧ Ls w' u XS ∧ Off (fun _ => False) W w' from by rw [hXS]; exact split_fit hF hsr (by omega) hV))
    clear hXS
    obtain ⟨q, hq⟩ : ∃ q, q = cntN n := ⟨_, rfl⟩
    rw [← hq] at hXl
    have HXl := Lib.hid hXl
    clear hXl
    have HCn : Hid (cntI (n : Int) = q) := Lib.hid (by unfold cntI; rw [if_pos (by omega), Int.toNat_natCast, hq])
    rw [HCn.out] at FCn
    have i9 : ¬ (65535 : Int) < (n : Int) := by omega
    have w8 : IntKind.i64.wrap ((n : Int) + 30) = (n : Int) + 30 := by rw [IntKind.wrap_i64]; omega
    have w7 : Int.tdiv ((n : Int) + 30) 31 = (q : Int) := by
      rw [hq]; unfold cntN
      rw [Int.tdiv_eq_ediv_of_nonneg (by omega)]
      omega
    have w6 : IntKind.i64.wrap (q : Int) = (q : Int) := by rw [IntKind.wrap_i64, hq]; unfold cntN; omega
    clear hq
    clear hF hp h1 w1 w2 ho hc hsr hbig
    go_enter Tryd.func8, Tryd.ntmps8
    go_wp2_with fail
    refine (FG.out _ HT.out).mono ?_
    rintro e u0 ⟨rfl, hO⟩
    have HK : Hid (∀ W, Off (fun _ => False) ((u0.alloc (.cells #[.int .i64 id, .int .u64 (wd p 0 : Int), .int .u64 (wd p 1 : Int), .int .u64 (wd p 2 : Int), .int .u64 (wd p 3 : Int), .int .u64 (i : Int), .int .u64 (wd r 0 : Int), .int .u64 (wd r 1 : Int), .int .u64 (wd r 2 : Int), .int .u64 (wd r 3 : Int), .int .u64 (wd s 0 : Int), .int .u64 (wd s 1 : Int), .int .u64 (wd s 2 : Int), .int .u64 (wd s 3 : Int)] 30)).alloc (.cells #[.int .u64 (wd p 0 : Int), .int .u64 (wd p 1 : Int), .int .u64 (wd p 2 : Int), .int .u64 (wd p 3 : Int)] 27)) W → W.heap[u0.heap.size]? = some (.cells #[.int .i64 id, .int .u64 (wd p 0 : Int), .int .u64 (wd p 1 : Int), .int .u64 (wd p 2 : Int), .int .u64 (wd p 3 : Int), .int .u64 (i : Int), .int .u64 (wd r 0 : Int), .int .u64 (wd r 1 : Int), .int .u64 (wd r 2 : Int), .int .u64 (wd r 3 : Int), .int .u64 (wd s 0 : Int), .int .u64 (wd s 1 : Int), .int .u64 (wd s 2 : Int), .int .u64 (wd s 3 : Int)] 30) ∧ W.heap[u0.heap.size + 1]? = some (.cells #[.int .u64 (wd p 0 : Int), .int .u64 (wd p 1 : Int), .int .u64 (wd p 2 : Int), .int .u64 (wd p 3 : Int)] 27)) := Lib.hid (fun W h => ⟨h.heap (heap_old' (heap_new' rfl _) _) (fun c => c), h.heap (heap_new' (by simp) _) (fun c => c)⟩)
    have HO0 : Hid (∀ W, Off (fun _ => False) ((u0.alloc (.cells #[.int .i64 id, .int .u64 (wd p 0 : Int), .int .u64 (wd p 1 : Int), .int .u64 (wd p 2 : Int), .int .u64 (wd p 3 : Int), .int .u64 (i : Int), .int .u64 (wd r 0 : Int), .int .u64 (wd r 1 : Int), .int .u64 (wd r 2 : Int), .int .u64 (wd r 3 : Int), .int .u64 (wd s 0 : Int), .int .u64 (wd s 1 : Int), .int .u64 (wd s 2 : Int), .int .u64 (wd s 3 : Int)] 30)).alloc (.cells #[.int .u64 (wd p 0 : Int), .int .u64 (wd p 1 : Int), .int .u64 (wd p 2 : Int), .int .u64 (wd p 3 : Int)] 27)) W → Off (fun _ => False) w W) := Lib.hid (fun W h => (hO.trans (((Off.refl (fun _ => False) u0).alloc _).alloc _) (fun _ _ c => c)).trans h (fun _ _ c => c))
    obtain ⟨b0, hb0⟩ : ∃ b0, b0 = u0.heap.size := ⟨_, rfl⟩
    clear hO FG
    obtain ⟨W0, hW0⟩ : ∃ W0, W0 = ((u0.alloc (.cells #[.int .i64 id, .int .u64 (wd p 0 : Int), .int .u64 (wd p 1 : Int), .int .u64 (wd p 2 : Int), .int .u64 (wd p 3 : Int), .int .u64 (i : Int), .int .u64 (wd r 0 : Int), .int .u64 (wd r 1 : Int), .int .u64 (wd r 2 : Int), .int .u64 (wd r 3 : Int), .int .u64 (wd s 0 : Int), .int .u64 (wd s 1 : Int), .int .u64 (wd s 2 : Int), .int .u64 (wd s 3 : Int)] 30)).alloc (.cells #[.int .u64 (wd p 0 : Int), .int .u64 (wd p 1 : Int), .int .u64 (wd p 2 : Int), .int .u64 (wd p 3 : Int)] 27)) := ⟨_, rfl⟩
    have HW0 := Lib.hid hW0
    rw [← hW0] at HK HO0
    clear hW0
    have HKc : Hid (∀ A, Off (fun _ => False) W0 A → (A.cell? ⟨u0.heap.size, 0, none⟩ = some (.int .i64 id) ∧ A.cell? ⟨u0.heap.size, 1, none⟩ = some (.int .u64 (wd p 0 : Int)) ∧ A.cell? ⟨u0.heap.size, 2, none⟩ = some (.int .u64 (wd p 1 : Int)) ∧ A.cell? ⟨u0.heap.size, 3, none⟩ = some (.int .u64 (wd p 2 : Int)) ∧ A.cell? ⟨u0.heap.size, 4, none⟩ = some (.int .u64 (wd p 3 : Int)) ∧ A.cell? ⟨u0.heap.size, 5, none⟩ = some (.int .u64 (i : Int)) ∧ A.cell? ⟨u0.heap.size, 6, none⟩ = some (.int .u64 (wd r 0 : Int)) ∧ A.cell? ⟨u0.heap.size, 7, none⟩ = some (.int .u64 (wd r 1 : Int)) ∧ A.cell? ⟨u0.heap.size, 8, none⟩ = some (.int .u64 (wd r 2 : Int)) ∧ A.cell? ⟨u0.heap.size, 9, none⟩ = some (.int .u64 (wd r 3 : Int)) ∧ A.cell? ⟨u0.heap.size, 10, none⟩ = some (.int .u64 (wd s 0 : Int)) ∧ A.cell? ⟨u0.heap.size, 11, none⟩ = some (.int .u64 (wd s 1 : Int)) ∧ A.cell? ⟨u0.heap.size, 12, none⟩ = some (.int .u64 (wd s 2 : Int)) ∧ A.cell? ⟨u0.heap.size, 13, none⟩ = some (.int .u64 (wd s 3 : Int))) ∧ Off (fun _ => False) W0 A) := Lib.hid (fun A h => ⟨fv_cells (HK.out _ h).1, h⟩)
    go_upto_region 3 with fail
    rw [← HW0.out]
    try rw [show 65530 + (o : Int) % 10 = (n : Int) by omega]
    clear q3 hn hnl
    refine wp_region_inv (fun a0 l a' w' => ∃ (u22 : Value) (u23 : Value) (u24 : Value) (u25 : Value) (u26 : Value) (u27 : Value) (u21 : Value) (u28 : Value) (u29 : Value) (u10 : Value) (u11 : Value) (v27 : Value) (b24 : Nat), a' = (Act.put (Act.put (Act.put (Act.put (Act.put (Act.put (Act.put (Act.put (Act.put (Act.put (Act.put a0 (some 22) u22) (some 23) u23) (some 24) u24) (some 25) u25) (some 26) u26) (some 27) u27) (some 21) u21) (some 28) u28) (some 29) u29) (some 10) u10) (some 11) u11) ∧ Slot l 0 u22 (FV id p i r s) ∧ Slot l 1 u23 (.int .u8 (c : Int)) ∧ Slot l 3 u25 (.int .i64 (n : Int)) ∧ Slot l 5 u27 (.tuple #[v27, .int .i64 0]) ∧ Slot l 6 u21 (.tuple #[v27, .int .i64 0]) ∧ Slot l 7 u28 (v27) ∧ Slot l 8 u29 (.int .i64 0) ∧ Slot l 9 u10 (v27) ∧ Slot l 10 u11 (.int .i64 0) ∧ Mk l 4 u26 w' (List.replicate n c) ∧ Lk l 5 v27 w' (XS) ∧ Dep l 5 6 ∧ Dep l 5 7 ∧ Dep l 5 9 ∧ MkB l 2 u24 b24 1 W0 w' (.cells #[.int .u8 (c : Int)] 5) ∧ Off (fun _ => False) W0 w') (by kernel_rfl) (by kernel_rfl) ?_ ⟨?_, ?_, ?_, ?_, ?_, ?_, ?_, ?_, ?_, ?_, ?_, trivial⟩ ?_
    · refine ⟨?z22, ?z23, ?z24, ?z25, ?z26, ?z27, ?z21, ?z28, ?z29, ?z10, ?z11, undef, 0, ?fr, Slot.start _ _ _, Slot.start _ _ _, Slot.start _ _ _, Slot.start _ _ _, Slot.start _ _ _, Slot.start _ _ _, Slot.start _ _ _, Slot.start _ _ _, Slot.start _ _ _, Mk.start _ _ _ _, Lk.start _ _ _ _, Dep.start _ _, Dep.start _ _, Dep.start _ _, MkB.start _ _ _ _ _ _ _, (Off.refl _ W0).drew⟩
      case fr => first | (simp only [Act.put, List.setIfInBounds_toArray, List.set_cons_zero, List.set_cons_succ]; rfl) | simp only [Act.put, List.setIfInBounds_toArray, List.set_cons_zero, List.set_cons_succ]
    · intro l a wr hI hl hd K' hK
      obtain ⟨u22, u23, u24, u25, u26, u27, u21, u28, u29, u10, u11, v27, b24, ha, s0, s1, s3, s5, s6, s7, s8, s9, s10, M4, M5, V5_6, V5_7, V5_9, E2, hO⟩ := hI
      simp only [Act.put, List.setIfInBounds_toArray, List.set_cons_zero, List.set_cons_succ] at ha
      subst ha
      have hc := HKc.out wr hO
      have p0 := hc.1.1
      have p1 := hc.1.2.1
      have p2 := hc.1.2.2.1
      have p3 := hc.1.2.2.2.1
      have p4 := hc.1.2.2.2.2.1
      have p5 := hc.1.2.2.2.2.2.1
      have p6 := hc.1.2.2.2.2.2.2.1
      have p7 := hc.1.2.2.2.2.2.2.2.1
      have p8 := hc.1.2.2.2.2.2.2.2.2.1
      have p9 := hc.1.2.2.2.2.2.2.2.2.2.1
      have p10 := hc.1.2.2.2.2.2.2.2.2.2.2.1
      have p11 := hc.1.2.2.2.2.2.2.2.2.2.2.2.1
      have p12 := hc.1.2.2.2.2.2.2.2.2.2.2.2.2.1
      have p13 := hc.1.2.2.2.2.2.2.2.2.2.2.2.2.2
      clear hc
      go_simp
      refine hK.out _ _ ⟨_, _, _, _, _, _, _, _, _, _, _, v27, _, ?_, Slot.new _ _ _, s1.keep rfl, s3.keep rfl, s5.keep rfl, s6.keep rfl, s7.keep rfl, s8.keep rfl, s9.keep rfl, s10.keep rfl, M4.keep (Off.refl _ wr) rfl, M5.keep (Off.refl _ wr) rfl, V5_6.keep rfl, V5_7.keep rfl, V5_9.keep rfl, E2.keep (Off.refl _ wr) rfl, hO⟩
      simp only [Act.put, List.setIfInBounds_toArray, List.set_cons_zero, List.set_cons_succ]
    · intro l a wr hI hl hd K' hK
      obtain ⟨u22, u23, u24, u25, u26, u27, u21, u28, u29, u10, u11, v27, b24, ha, s0, s1, s3, s5, s6, s7, s8, s9, s10, M4, M5, V5_6, V5_7, V5_9, E2, hO⟩ := hI
      simp only [Act.put, List.setIfInBounds_toArray, List.set_cons_zero, List.set_cons_succ] at ha
      subst ha
      go_simp
      refine hK.out _ _ ⟨_, _, _, _, _, _, _, _, _, _, _, v27, _, ?_, s0.keep rfl, Slot.new _ _ _, s3.keep rfl, s5.keep rfl, s6.keep rfl, s7.keep rfl, s8.keep rfl, s9.keep rfl, s10.keep rfl, M4.keep (Off.refl _ wr) rfl, M5.keep (Off.refl _ wr) rfl, V5_6.keep rfl, V5_7.keep rfl, V5_9.keep rfl, E2.keep (Off.refl _ wr) rfl, hO⟩
      simp only [Act.put, List.setIfInBounds_toArray, List.set_cons_zero, List.set_cons_succ]
    · intro l a wr hI hl hd K' hK
      obtain ⟨u22, u23, u24, u25, u26, u27, u21, u28, u29, u10, u11, v27, b24, ha, s0, s1, s3, s5, s6, s7, s8, s9, s10, M4, M5, V5_6, V5_7, V5_9, E2, hO⟩ := hI
      simp only [Act.put, List.setIfInBounds_toArray, List.set_cons_zero, List.set_cons_succ] at ha
      have q1 := s1 (hd 1 (by decide))
      subst ha q1
      go_simp
      refine hK.out _ _ ⟨_, _, _, _, _, _, _, _, _, _, _, v27, _, ?_, s0.keep rfl, s1.keep rfl, s3.keep rfl, s5.keep rfl, s6.keep rfl, s7.keep rfl, s8.keep rfl, s9.keep rfl, s10.keep rfl, M4.keep ((Off.refl _ wr).alloc _) rfl, M5.keep ((Off.refl _ wr).alloc _) rfl, V5_6.keep rfl, V5_7.keep rfl, V5_9.keep rfl, MkB.make hO, hO.alloc _⟩
      simp only [Act.put, List.setIfInBounds_toArray, List.set_cons_zero, List.set_cons_succ]
    · intro l a wr hI hl hd K' hK
      obtain ⟨u22, u23, u24, u25, u26, u27, u21, u28, u29, u10, u11, v27, b24, ha, s0, s1, s3, s5, s6, s7, s8, s9, s10, M4, M5, V5_6, V5_7, V5_9, E2, hO⟩ := hI
      simp only [Act.put, List.setIfInBounds_toArray, List.set_cons_zero, List.set_cons_succ] at ha
      subst ha
      go_simp
      refine hK.out _ _ ⟨_, _, _, _, _, _, _, _, _, _, _, v27, _, ?_, s0.keep rfl, s1.keep rfl, Slot.new _ _ _, s5.keep rfl, s6.keep rfl, s7.keep rfl, s8.keep rfl, s9.keep rfl, s10.keep rfl, M4.keep (Off.refl _ wr) rfl, M5.keep (Off.refl _ wr) rfl, V5_6.keep rfl, V5_7.keep rfl, V5_9.keep rfl, E2.keep (Off.refl _ wr) rfl, hO⟩
      simp only [Act.put, List.setIfInBounds_toArray, List.set_cons_zero, List.set_cons_succ]
    · intro l a wr hI hl hd K' hK
      obtain ⟨u22, u23, u24, u25, u26, u27, u21, u28, u29, u10, u11, v27, b24, ha, s0, s1, s3, s5, s6, s7, s8, s9, s10, M4, M5, V5_6, V5_7, V5_9, E2, hO⟩ := hI
      simp only [Act.put, List.setIfInBounds_toArray, List.set_cons_zero, List.set_cons_succ] at ha
      have q2 := E2.ptr (hd 2 (by decide))
      have q3 := s3 (hd 3 (by decide))
      subst ha q2 q3
      go_simp
      refine (FR.out wr _ (E2.now (hd 2 (by decide)))).mono ?_
      rintro e w1 ⟨uv, rfl, hm, hOW⟩
      have hO1 := hO.trans hOW (fun _ _ c => c.elim)
      go_wp2_with fail
      refine hK.out _ _ ⟨_, _, _, _, _, _, _, _, _, _, _, v27, _, ?_, s0.keep rfl, s1.keep rfl, s3.keep rfl, s5.keep rfl, s6.keep rfl, s7.keep rfl, s8.keep rfl, s9.keep rfl, s10.keep rfl, Mk.new hm, M5.keep hOW rfl, V5_6.keep rfl, V5_7.keep rfl, V5_9.keep rfl, E2.keep hOW rfl, hO1⟩
      simp only [Act.put, List.setIfInBounds_toArray, List.set_cons_zero, List.set_cons_succ]
    · intro l a wr hI hl hd K' hK
      obtain ⟨u22, u23, u24, u25, u26, u27, u21, u28, u29, u10, u11, v27, b24, ha, s0, s1, s3, s5, s6, s7, s8, s9, s10, M4, M5, V5_6, V5_7, V5_9, E2, hO⟩ := hI
      simp only [Act.put, List.setIfInBounds_toArray, List.set_cons_zero, List.set_cons_succ] at ha
      have q0 := s0 (hd 0 (by decide))
      have m4 := M4 (hd 4 (by decide))
      subst ha q0
      go_simp
      refine (FS.out wr _ m4).mono ?_
      rintro e w1 ⟨uv, rfl, hm, hOW⟩
      have hO1 := hO.trans hOW (fun _ _ c => c.elim)
      go_wp2_with fail
      refine hK.out _ _ ⟨_, _, _, _, _, _, _, _, _, _, _, uv, _, ?_, s0.keep rfl, s1.keep rfl, s3.keep rfl, Slot.new _ _ _, Slot.void (u := u21) (V5_6 hl) rfl, Slot.void (u := u28) (V5_7 hl) rfl, s8.keep rfl, Slot.void (u := u10) (V5_9 hl) rfl, s10.keep rfl, M4.keep hOW rfl, Lk.new hm, V5_6.keep rfl, V5_7.keep rfl, V5_9.keep rfl, E2.keep hOW rfl, hO1⟩
      simp only [Act.put, List.setIfInBounds_toArray, List.set_cons_zero, List.set_cons_succ]
    · intro l a wr hI hl hd K' hK
      obtain ⟨u22, u23, u24, u25, u26, u27, u21, u28, u29, u10, u11, v27, b24, ha, s0, s1, s3, s5, s6, s7, s8, s9, s10, M4, M5, V5_6, V5_7, V5_9, E2, hO⟩ := hI
      simp only [Act.put, List.setIfInBounds_toArray, List.set_cons_zero, List.set_cons_succ] at ha
      have q5 := s5 (hd 5 (by decide))
      subst ha q5
      go_simp
      refine hK.out _ _ ⟨_, _, _, _, _, _, _, _, _, _, _, v27, _, ?_, s0.keep rfl, s1.keep rfl, s3.keep rfl, s5.keep rfl, Slot.new _ _ _, s7.keep rfl, s8.keep rfl, s9.keep rfl, s10.keep rfl, M4.keep (Off.refl _ wr) rfl, M5.keep (Off.refl _ wr) rfl, Dep.at (hd 5 (by decide)), V5_7.keep rfl, V5_9.keep rfl, E2.keep (Off.refl _ wr) rfl, hO⟩
      simp only [Act.put, List.setIfInBounds_toArray, List.set_cons_zero, List.set_cons_succ]
    · intro l a wr hI hl hd K' hK
      obtain ⟨u22, u23, u24, u25, u26, u27, u21, u28, u29, u10, u11, v27, b24, ha, s0, s1, s3, s5, s6, s7, s8, s9, s10, M4, M5, V5_6, V5_7, V5_9, E2, hO⟩ := hI
      simp only [Act.put, List.setIfInBounds_toArray, List.set_cons_zero, List.set_cons_succ] at ha
      have q6 := s6 (hd 6 (by decide))
      subst ha q6
      go_simp
      refine hK.out _ _ ⟨_, _, _, _, _, _, _, _, _, _, _, v27, _, ?_, s0.keep rfl, s1.keep rfl, s3.keep rfl, s5.keep rfl, s6.keep rfl, Slot.new _ _ _, s8.keep rfl, s9.keep rfl, s10.keep rfl, M4.keep (Off.refl _ wr) rfl, M5.keep (Off.refl _ wr) rfl, V5_6.keep rfl, Dep.at (V5_6.via (hd 6 (by decide))), V5_9.keep rfl, E2.keep (Off.refl _ wr) rfl, hO⟩
      simp only [Act.put, List.setIfInBounds_toArray, List.set_cons_zero, List.set_cons_succ]
    · intro l a wr hI hl hd K' hK
      obtain ⟨u22, u23, u24, u25, u26, u27, u21, u28, u29, u10, u11, v27, b24, ha, s0, s1, s3, s5, s6, s7, s8, s9, s10, M4, M5, V5_6, V5_7, V5_9, E2, hO⟩ := hI
      simp only [Act.put, List.setIfInBounds_toArray, List.set_cons_zero, List.set_cons_succ] at ha
      have q6 := s6 (hd 6 (by decide))
      subst ha q6
      go_simp
      refine hK.out _ _ ⟨_, _, _, _, _, _, _, _, _, _, _, v27, _, ?_, s0.keep rfl, s1.keep rfl, s3.keep rfl, s5.keep rfl, s6.keep rfl, s7.keep rfl, Slot.new _ _ _, s9.keep rfl, s10.keep rfl, M4.keep (Off.refl _ wr) rfl, M5.keep (Off.refl _ wr) rfl, V5_6.keep rfl, V5_7.keep rfl, V5_9.keep rfl, E2.keep (Off.refl _ wr) rfl, hO⟩
      simp only [Act.put, List.setIfInBounds_toArray, List.set_cons_zero, List.set_cons_succ]
    · intro l a wr hI hl hd K' hK
      obtain ⟨u22, u23, u24, u25, u26, u27, u21, u28, u29, u10, u11, v27, b24, ha, s0, s1, s3, s5, s6, s7, s8, s9, s10, M4, M5, V5_6, V5_7, V5_9, E2, hO⟩ := hI
      simp only [Act.put, List.setIfInBounds_toArray, List.set_cons_zero, List.set_cons_succ] at ha
      have q7 := (s7 (hd 7 (by decide))).symm
      subst ha q7
      go_simp
      refine hK.out _ _ ⟨_, _, _, _, _, _, _, _, _, _, _, v27, _, ?_, s0.keep rfl, s1.keep rfl, s3.keep rfl, s5.keep rfl, s6.keep rfl, s7.keep rfl, s8.keep rfl, Slot.new _ _ _, s10.keep rfl, M4.keep (Off.refl _ wr) rfl, M5.keep (Off.refl _ wr) rfl, V5_6.keep rfl, V5_7.keep rfl, Dep.at (V5_7.via (hd 7 (by decide))), E2.keep (Off.refl _ wr) rfl, hO⟩
      simp only [Act.put, List.setIfInBounds_toArray, List.set_cons_zero, List.set_cons_succ]
    · intro l a wr hI hl hd K' hK
      obtain ⟨u22, u23, u24, u25, u26, u27, u21, u28, u29, u10, u11, v27, b24, ha, s0, s1, s3, s5, s6, s7, s8, s9, s10, M4, M5, V5_6, V5_7, V5_9, E2, hO⟩ := hI
      simp only [Act.put, List.setIfInBounds_toArray, List.set_cons_zero, List.set_cons_succ] at ha
      have q8 := s8 (hd 8 (by decide))
      subst ha q8
      go_simp
      refine hK.out _ _ ⟨_, _, _, _, _, _, _, _, _, _, _, v27, _, ?_, s0.keep rfl, s1.keep rfl, s3.keep rfl, s5.keep rfl, s6.keep rfl, s7.keep rfl, s8.keep rfl, s9.keep rfl, Slot.new _ _ _, M4.keep (Off.refl _ wr) rfl, M5.keep (Off.refl _ wr) rfl, V5_6.keep rfl, V5_7.keep rfl, V5_9.keep rfl, E2.keep (Off.refl _ wr) rfl, hO⟩
      simp only [Act.put, List.setIfInBounds_toArray, List.set_cons_zero, List.set_cons_succ]
    · intro l a wc hI hd
      obtain ⟨u22, u23, u24, u25, u26, u27, u21, u28, u29, u10, u11, v27, b24, ha, s0, s1, s3, s5, s6, s7, s8, s9, s10, M4, M5, V5_6, V5_7, V5_9, E2, hO⟩ := hI
      simp only [Act.put, List.setIfInBounds_toArray, List.set_cons_zero, List.set_cons_succ] at ha
      have q0 := s0 (hd 0 (by decide))
      have q1 := s1 (hd 1 (by decide))
      have q3 := s3 (hd 3 (by decide))
      have q5 := s5 (hd 5 (by decide))
      have q6 := s6 (hd 6 (by decide))
      have q7 := (s7 (hd 7 (by decide))).symm
      have q8 := s8 (hd 8 (by decide))
      have q9 := (s9 (hd 9 (by decide))).symm
      have q10 := s10 (hd 10 (by decide))
      have q2 := E2.ptr (hd 2 (by decide))
      have n24 := E2.now (hd 2 (by decide))
      have l24 := E2.new (hd 2 (by decide))
      have m26 := M4 (hd 4 (by decide))
      have m27 := M5 (hd 5 (by decide))
      subst ha q0 q1 q2 q3 q5 q6 q7 q8 q9 q10
      clear hd s0 s1 s3 s5 s6 s7 s8 s9 s10 M4 M5 V5_6 V5_7 V5_9 E2
      have HO1 := Lib.hid hO
      obtain ⟨a2, c2, rfl, _⟩ := m27
      rw [HXl.out]
      clear hO m26 n24 l24
      go_wp2_with fail
      refine (FAL.out _ (HT.out.off (HO0.out _ HO1.out))).mono ?_
      rintro e u4 ⟨rfl, hO4⟩
      have HO4 := Lib.hid (HO1.out.trans hO4 (fun _ _ c => c))
      clear hO4
      go_wp2_with fail
      refine (FCn.out _).mono ?_
      rintro e u5 ⟨rfl, hO5⟩
      have HO5 := Lib.hid (HO4.out.trans hO5 (fun _ _ c => c))
      clear hO5
      go_wp2
      go_ret
      exact ⟨rfl, HO0.out _ HO5.out⟩

theorem door_met (os : Os) (args : Array Value) : laidMetH Tryd.prog [("sharecore/field.fields", Rows.laid_sharecore_field_fields)] ((World.doorLaid Tryd.prog 400 os).forCall (fun _ _ => 0) ⟨#[], args, []⟩).memory :=
  laidMetH_of_parts3 (fuel := 8) (laidMet_of_run' 8 (by kernel_rfl) (by kernel_rfl)) (by kernel_rfl) (by kernel_rfl)

set_option maxRecDepth 100000 in
theorem lifted (os : Os) (started : os.Started) (H : Type) (enc : TypeId × Value → H) :
    ReturnsInHanded {} Tryd.checked os 8 .any (fun w args => (Rows.chunksLimitSpec.pre enc Tryd.prog Tryd.f8 [] false w args ∧ laidMetH Tryd.prog [("sharecore/field.fields", Rows.laid_sharecore_field_fields)] w) ∧ sizedMet enc Tryd.prog Tryd.f8 (OpenSpec.ofChange Rows.chunksLimitSpec) false w args)
      (Rows.chunksLimitSpec.post enc Tryd.prog Tryd.f8 false true false false) := by
  refine returnsInHanded_of_change_and (C := Tryd.checked) (X := fun w _ => laidMetH Tryd.prog [("sharecore/field.fields", Rows.laid_sharecore_field_fields)] w) (fun _ _ _ hh h => h.of_heap hh) own started (by kernel_rfl) Tryd.func8
    (ChangeSpec.witness_shaped (enc := enc) (C := Tryd.checked) (os := os) (X := fun w _ => laidMetH Tryd.prog [("sharecore/field.fields", Rows.laid_sharecore_field_fields)] w) false (World.doorLaid Tryd.prog 400 os) #[.bool false, .int .u8 0, .int .u8 0] 8 rfl (World.shaped_of_RefB (by kernel_rfl) (by kernel_rfl)) (by kernel_rfl) (by kernel_rfl) (by kernel_rfl) (door_met os _)) ?_
  intro W base args ds gs before hval0 hW _ hsz hL _
  have hval : ∀ (j : Nat) t v, Tryd.f8.params[j]? = some t → args[j]? = some v → Value.okWide Tryd.prog W .any base t v := hval0
  have hW' := hW
  obtain ⟨p, q, hA0, hV, rfl, hfz, hnd⟩ := hW
  have hA : DataW.TrodAll enc Tryd.prog W 0 (fun _ => true) true Tryd.f8.params.toList args.toList ds p := hA0
  rw [Tryd.params8] at hA hval
  obtain ⟨v0, vs0, d0, ds0, p0, q0, hargs, rfl, rfl, h0, r0⟩ := trodAll_cons hA
  obtain ⟨v1, vs1, d1, ds1, p1, q1, rfl, rfl, rfl, h1, r1⟩ := trodAll_cons r0
  obtain ⟨v2, vs2, d2, ds2, p2, q2, rfl, rfl, rfl, h2, r2⟩ := trodAll_cons r1
  obtain ⟨rfl, rfl, rfl⟩ := trodAll_nil r2
  obtain rfl : args = #[v0, v1, v2] := by cases args; simp_all
  obtain ⟨rfl, rfl⟩ := trodVars_none hV
  obtain ⟨i0, rfl, rfl, rfl⟩ := open_bool Tryd.underlying4 (hval 0 4 v0 rfl rfl) h0
  have w0 := trivial
  obtain ⟨i1, rfl, rfl, rfl, w1⟩ := open_int Tryd.underlying5 (hval 1 5 v1 rfl rfl) h1
  obtain ⟨i2, rfl, rfl, rfl, w2⟩ := open_int Tryd.underlying5 (hval 2 5 v2 rfl rfl) h2
  have hT := tab_of_laid hL
  clear hA0 hval0
  refine (walk i0 i1 i2 W w0 w1 w2 hT).mono fun e W' ⟨he, hoff⟩ => ?_
  have bel : Below W.heap.size W W' := hoff.below (Nat.le_refl _) (fun _ _ c => c)
  subst he
  exact ⟨_, rfl, _, _, _, [], _, [], hW', trodAll_mk1 (shut_bool Tryd.underlying4 _), (trodAll_cons_mk (shut_bool Tryd.underlying4 _) (trodAll_cons_mk (shut_int Tryd.underlying5 w1) (trodAll_cons_mk (shut_int Tryd.underlying5 w2) trodAll_mk0))), rfl, bel.frame _, fun h => by cases h⟩

theorem over : Rows.chunksLimitRow.holds Tryd.pinned (OpenSpec.ofChange Rows.chunksLimitSpec) :=
  OpenClaim.holds_of_wide 8 Tryd.f8 rfl rfl rfl rfl rfl rfl rfl ⟨rfl, rfl, rfl, rfl, rfl⟩ rfl rfl rfl rfl rfl (by kernel_rfl) Tryd.func8 (by kernel_rfl)
    (of_decide_eq_true (by kernel_rfl)) (by unfold Func.isWrapper; first | (rw [if_pos (by decide +kernel)]; kernel_rfl) | (rw [if_neg (by decide +kernel)]; exact ⟨rfl, rfl⟩))
    (fun os started H enc _ => lifted os started H enc)

theorem proved : Rows.ChunksLimitCardSaid :=
  Claim7.holds_tied_plain_at .later [] [.data] true (true, "d8e20a016fafaace6175f6d9e5d60023c0e074faa7681e5f86b48efa10aad964") false
    over (fun _ h => by cases h) (by kernel_rfl) (fun _ h => by cases h) chunksLimit_row_tie rfl ⟨rfl, rfl⟩ (by kernel_rfl) rfl
    (fun f fn hf hfn => by
      obtain rfl : f = 8 := Option.some.inj ((show Tryd.prog.funcNamed "sharecore/sharecorelaw13.ChunksLimit" = some 8 by kernel_rfl).symm.trans hf) |>.symm
      obtain rfl : fn = Tryd.f8 := (Option.some.inj (Tryd.func8.symm.trans hfn)).symm
      exact ⟨by kernel_rfl, fun j t ht => by
        rw [Tryd.params8] at ht
        have hm : t ∈ [4, 5] := by simpa using Array.mem_of_getElem? ht
        have hall : ([4, 5].all fun u => !Tryd.prog.wantsStandIn u) = true := by kernel_rfl
        exact (show Tryd.prog.wantsStandIn t = false by simpa using List.all_eq_true.1 hall t hm)⟩)
    (by kernel_rfl)
#print axioms proved
end Go.Proofs.YtllhfkcgocbblaaDoor.chunksLimit
