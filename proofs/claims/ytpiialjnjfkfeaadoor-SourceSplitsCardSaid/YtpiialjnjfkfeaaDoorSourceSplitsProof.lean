/-
  For every field, all bytes and two numbers, the examples of the chapter hold, and the bytes and the elements taken in two parts are those taken at once: the statement of P14.2, P14.3 and P14.5. No condition.
-/
import Derived.Test.YtpiialjnjfkfeaaDoorRows
import Derived.Test.YtpiialjnjfkfeaaDoorTie
import Derived.Test.YtpiialjnjfkfeaaDoorCards
import Derived.LaidMore
import Derived.LaidHandle
import Derived.SevenTiedAt
import Derived.Stop.Joined
import Derived.JoinedOf
import Derived.Test.YtpiialjnjfkfeaaDoorLimbOpen
import Derived.Test.YtpiialjnjfkfeaaDoorFieldTab
import Derived.Test.YtpiialjnjfkfeaaDoorFieldHeld
import Derived.Test.YtpiialjnjfkfeaaDoorBytOpen
import Derived.Test.YtpiialjnjfkfeaaDoorTwo8
import Derived.Test.YtpiialjnjfkfeaaDoorSrcAlive
import Derived.Test.YtpiialjnjfkfeaaDoorSrcCat
import Derived.WalkKit
import Derived.ProofKit
import Derived.OpenShut
import Derived.ShutString
import Derived.ChangeOld
import Derived.Below
namespace Go.Proofs.YtpiialjnjfkfeaaDoor.sourceSplits
open Go.ChangeShapes Go.WideShapes Go.ChangeAt Go.RowKit
set_option linter.unusedVariables false

theorem own : ownKnob Tryd.prog.godebug = none := by kernel_rfl
theorem laidOut : laidOutB Tryd.prog = true := by kernel_rfl

theorem row_ls {B : Nat} {W : World} {v : Value} {xs : List Nat} (h : RowL B W v xs) (hl : xs.length ≤ 100000) : Ls W v xs := by
  have h0 := h
  rcases h.2 with ⟨rfl, hn⟩ | ⟨g, cap, cur, rfl, _⟩
  · obtain rfl : xs = [] := List.eq_nil_of_length_eq_zero hn
    exact Ls.nil _
  · exact Ls.of (ls_of_own h0 rfl hl)
theorem wf_sm {d : Nat} (h : d ≤ 100000) : (Lit.int .i64 (d : Int)).wf = true := by
  simp [Lit.wf, IntKind.min, IntKind.max, IntKind.signed, IntKind.bits]
  omega
set_option maxRecDepth 100000 in
set_option maxHeartbeats 4000000 in
theorem walk (i0 : Bool) (a1 : Option Addr) (n1 cap1 : Nat) (bs1 : List Nat) (n2 o2 : Nat) (w : World) (w0 : True) (hn1 : n1 = bs1.length) (hc1 : n1 ≤ cap1) (hs1 : Small bs1) (w1 : BsAt w a1 bs1 (fun k => k < w.heap.size)) (w2 : n2 < 256 ∧ o2 < 256) (hT : TabAt w) :
    Calls Tryd.prog 6 #[.bool i0, .slice a1 n1 cap1, .agg #[.int .u8 (n2 : Int), .int .u8 (o2 : Int)]] w fun e w' => e = .returned (.bool true) ∧ Off (fun _ => False) w w' := by
  have FAL : Hid (∀ W, TabAt W → Calls Tryd.prog 9 #[] W fun e w' => e = .returned (.bool true) ∧ Off (fun _ => False) W w') := Lib.hid (fun W hT => alive14_any W hT)
  have HT := Lib.hid hT
  clear hT
  obtain ⟨id, p, i, r, s, hF, hid⟩ := fld_of i0
  have hp := hF.mp.lt
  have h1 := hF.mp.one
  have FG := Lib.hid (fun W hT => get14_any i0 hF hid W hT)
  clear hid
  by_cases hbig : 2000 < n1
  · have j1 : (2000 : Int) < (n1 : Int) := by omega
    have j2 : decide ((2000 : Int) < (n1 : Int)) = true := by simp; omega
    have HTb := Lib.hid (HT.out.off ((Off.refl (fun _ => False) w).alloc (.cells #[.int .u8 (n2 : Int), .int .u8 (o2 : Int)] 57)))
    go_enter Tryd.func6, Tryd.ntmps6
    go_wp2_with fail
    refine (FAL.out _ HTb.out).mono ?_
    rintro e u ⟨rfl, hO⟩
    have HOf := Lib.hid hO
    clear hO
    go_wp2
    go_ret
    exact ⟨rfl, ((Off.refl (fun _ => False) w).alloc _).trans HOf.out (fun _ _ c => c)⟩
  · have j1 : ¬ (2000 : Int) < (n1 : Int) := by omega
    have j2 : decide ((2000 : Int) < (n1 : Int)) = false := by simp; omega
    obtain ⟨n, hn'⟩ : ∃ n, n = n2 % 4 := ⟨_, rfl⟩
    obtain ⟨k, hk'⟩ : ∃ k, k = o2 % 4 := ⟨_, rfl⟩
    have hn : (n2 : Int) % 4 = (n : Int) := by omega
    have hk : (o2 : Int) % 4 = (k : Int) := by omega
    have ht1 : (n2 : Int).tmod 4 = (n : Int) := by rw [Int.tmod_eq_emod_of_nonneg (by omega)]; exact hn
    have ht2 : (o2 : Int).tmod 4 = (k : Int) := by rw [Int.tmod_eq_emod_of_nonneg (by omega)]; exact hk
    have hv1 : IntKind.i64.wrap (n : Int) = (n : Int) := by rw [IntKind.wrap_i64]; omega
    have hv2 : IntKind.i64.wrap (k : Int) = (k : Int) := by rw [IntKind.wrap_i64]; omega
    have hn4 : n < 4 := by omega
    have hk4 : k < 4 := by omega
    have FN := Lib.hid (fun (W : World) (h : Off (fun _ => False) w W) => new_any a1 n1 cap1 bs1 _ W (w1.off h (fun _ _ _ c => c)) hn1 hc1 hs1 (by omega))
    have HF := Lib.hid hF
    have HB := Lib.hid (show n1 = bs1.length ∧ bs1.length ≤ 2000 by omega)
    have q1 : IntKind.i64.wrap ((n : Int) + (k : Int)) = ((n + k : Nat) : Int) := by rw [IntKind.wrap_i64]; omega
    have q2 : IntKind.i64.wrap (64 * ((n + k : Nat) : Int)) = ((64 * (n + k) : Nat) : Int) := by rw [IntKind.wrap_i64]; omega
    have q3 : IntKind.i64.wrap (((64 * (n + k) : Nat) : Int) + (n : Int)) = ((64 * (n + k) + n : Nat) : Int) := by rw [IntKind.wrap_i64]; omega
    have q4 : IntKind.i64.wrap (((64 * (n + k) + n : Nat) : Int) + (k : Int)) = ((64 * (n + k) + n + k : Nat) : Int) := by rw [IntKind.wrap_i64]; omega
    clear w1 w2 hn1 hc1 hs1 hbig hF hp h1 hn' hk'
    have HTb := Lib.hid (HT.out.off ((Off.refl (fun _ => False) w).alloc (.cells #[.int .u8 (n2 : Int), .int .u8 (o2 : Int)] 57)))
    by_cases hfew : n1 < 64 * (n + k) + n + k
    · have j3 : (n1 : Int) < ((64 * (n + k) + n + k : Nat) : Int) := by omega
      have j4 : decide ((n1 : Int) < ((64 * (n + k) + n + k : Nat) : Int)) = true := by simp; omega
      go_enter Tryd.func6, Tryd.ntmps6
      go_wp2_with fail
      refine (FG.out _ HTb.out).mono ?_
      rintro e u0 ⟨rfl, hO⟩
      obtain ⟨W0, hW0⟩ : ∃ W0, W0 = ((u0.alloc (.cells #[.int .i64 id, .int .u64 (wd p 0 : Int), .int .u64 (wd p 1 : Int), .int .u64 (wd p 2 : Int), .int .u64 (wd p 3 : Int), .int .u64 (i : Int), .int .u64 (wd r 0 : Int), .int .u64 (wd r 1 : Int), .int .u64 (wd r 2 : Int), .int .u64 (wd r 3 : Int), .int .u64 (wd s 0 : Int), .int .u64 (wd s 1 : Int), .int .u64 (wd s 2 : Int), .int .u64 (wd s 3 : Int)] 42)).alloc (.cells #[.int .u64 (wd p 0 : Int), .int .u64 (wd p 1 : Int), .int .u64 (wd p 2 : Int), .int .u64 (wd p 3 : Int)] 39)) := ⟨_, rfl⟩
      have hs0 : W0.heap.size = u0.heap.size + 2 := by rw [hW0]; simp
      have hKf : W0.heap[u0.heap.size]? = some (.cells #[.int .i64 id, .int .u64 (wd p 0 : Int), .int .u64 (wd p 1 : Int), .int .u64 (wd p 2 : Int), .int .u64 (wd p 3 : Int), .int .u64 (i : Int), .int .u64 (wd r 0 : Int), .int .u64 (wd r 1 : Int), .int .u64 (wd r 2 : Int), .int .u64 (wd r 3 : Int), .int .u64 (wd s 0 : Int), .int .u64 (wd s 1 : Int), .int .u64 (wd s 2 : Int), .int .u64 (wd s 3 : Int)] 42) := by rw [hW0]; exact heap_old' (heap_new' rfl _) _
      have hKp : W0.heap[u0.heap.size + 1]? = some (.cells #[.int .u64 (wd p 0 : Int), .int .u64 (wd p 1 : Int), .int .u64 (wd p 2 : Int), .int .u64 (wd p 3 : Int)] 39) := by rw [hW0]; exact heap_new' (by simp) _
      have HO0 := Lib.hid (show Off (fun _ => False) w W0 by rw [hW0]; exact (((Off.refl (fun _ => False) w).alloc _).trans hO (fun _ _ c => c)).trans (((Off.refl (fun _ => False) u0).alloc _).alloc _) (fun _ _ c => c))
      have HW0 := Lib.hid hW0
      have HS0 := Lib.hid hs0
      have HKF := Lib.hid hKf
      have HKP := Lib.hid hKp
      have HBx := Lib.hid (show W0.heap[w.heap.size]? = some (.cells #[.int .u8 (n2 : Int), .int .u8 (o2 : Int)] 57) ∧ w.heap.size < W0.heap.size by
        have h1 := hO.heap (heap_new' rfl _ : (w.alloc (.cells #[.int .u8 (n2 : Int), .int .u8 (o2 : Int)] 57)).heap[w.heap.size]? = some (.cells #[.int .u8 (n2 : Int), .int .u8 (o2 : Int)] 57)) (fun c => c)
        have h2 := (((Off.refl (fun _ => False) u0).alloc (.cells #[.int .i64 id, .int .u64 (wd p 0 : Int), .int .u64 (wd p 1 : Int), .int .u64 (wd p 2 : Int), .int .u64 (wd p 3 : Int), .int .u64 (i : Int), .int .u64 (wd r 0 : Int), .int .u64 (wd r 1 : Int), .int .u64 (wd r 2 : Int), .int .u64 (wd r 3 : Int), .int .u64 (wd s 0 : Int), .int .u64 (wd s 1 : Int), .int .u64 (wd s 2 : Int), .int .u64 (wd s 3 : Int)] 42)).alloc (.cells #[.int .u64 (wd p 0 : Int), .int .u64 (wd p 1 : Int), .int .u64 (wd p 2 : Int), .int .u64 (wd p 3 : Int)] 39)).heap h1 (fun c => c)
        rw [← hW0] at h2
        exact ⟨h2, heap_lt h2⟩)
      clear hO hW0 hs0 hKf hKp FG
      have HKb : Hid (∀ A, Off (fun _ => False) W0 A → (A.cell? ⟨w.heap.size, 0, none⟩ = some (.int .u8 (n2 : Int))) ∧ (A.cell? ⟨w.heap.size, 1, none⟩ = some (.int .u8 (o2 : Int))) ∧ Off (fun _ => False) W0 A) := Lib.hid (fun A h => ⟨cell_of_heap (h.heap HBx.out.1 (fun c => c)) 0, cell_of_heap (h.heap HBx.out.1 (fun c => c)) 1, h⟩)
      go_upto_region 4 with fail
      rw [← HW0.out]
      refine wp_region_inv (fun a0 l a' w' => ∃ (u34 : Value) (u35 : Value) (u36 : Value) (u37 : Value) (u38 : Value) (u39 : Value) (u40 : Value) (u41 : Value) (u9 : Value) (u10 : Value), a' = (Act.put (Act.put (Act.put (Act.put (Act.put (Act.put (Act.put (Act.put (Act.put (Act.put a0 (some 34) u34) (some 35) u35) (some 36) u36) (some 37) u37) (some 38) u38) (some 39) u39) (some 40) u40) (some 41) u41) (some 9) u9) (some 10) u10) ∧ Slot l 0 u34 (.pointer (some ⟨w.heap.size, 0, none⟩)) ∧ Slot l 1 u35 (.int .u8 (n2 : Int)) ∧ Slot l 2 u36 (.int .u8 (n : Int)) ∧ Slot l 3 u37 (.int .i64 (n : Int)) ∧ Slot l 4 u38 (.pointer (some ⟨w.heap.size, 1, none⟩)) ∧ Slot l 5 u39 (.int .u8 (o2 : Int)) ∧ Slot l 6 u40 (.int .u8 (k : Int)) ∧ Slot l 7 u41 (.int .i64 (k : Int)) ∧ Slot l 8 u9 (.int .i64 (n : Int)) ∧ Slot l 9 u10 (.int .i64 (k : Int)) ∧ Off (fun _ => False) W0 w') (by kernel_rfl) (by kernel_rfl) ?_ ⟨?_, ?_, ?_, ?_, ?_, ?_, ?_, ?_, ?_, ?_, trivial⟩ ?_
      · refine ⟨?z34, ?z35, ?z36, ?z37, ?z38, ?z39, ?z40, ?z41, ?z9, ?z10, ?fr, Slot.start _ _ _, Slot.start _ _ _, Slot.start _ _ _, Slot.start _ _ _, Slot.start _ _ _, Slot.start _ _ _, Slot.start _ _ _, Slot.start _ _ _, Slot.start _ _ _, Slot.start _ _ _, (Off.refl _ W0).drew⟩
        case fr => first | (simp only [Act.put, List.setIfInBounds_toArray, List.set_cons_zero, List.set_cons_succ]; rfl) | simp only [Act.put, List.setIfInBounds_toArray, List.set_cons_zero, List.set_cons_succ]
      · intro l a wr hI hl hd K' hK
        obtain ⟨u34, u35, u36, u37, u38, u39, u40, u41, u9, u10, ha, s0, s1, s2, s3, s4, s5, s6, s7, s8, s9, hO⟩ := hI
        simp only [Act.put, List.setIfInBounds_toArray, List.set_cons_zero, List.set_cons_succ] at ha
        subst ha
        go_simp
        refine hK.out _ _ ⟨_, _, _, _, _, _, _, _, _, _, ?_, Slot.new _ _ _, s1.keep rfl, s2.keep rfl, s3.keep rfl, s4.keep rfl, s5.keep rfl, s6.keep rfl, s7.keep rfl, s8.keep rfl, s9.keep rfl, hO⟩
        simp only [Act.put, List.setIfInBounds_toArray, List.set_cons_zero, List.set_cons_succ]
      · intro l a wr hI hl hd K' hK
        obtain ⟨u34, u35, u36, u37, u38, u39, u40, u41, u9, u10, ha, s0, s1, s2, s3, s4, s5, s6, s7, s8, s9, hO⟩ := hI
        simp only [Act.put, List.setIfInBounds_toArray, List.set_cons_zero, List.set_cons_succ] at ha
        have q0 := s0 (hd 0 (by decide))
        subst ha q0
        have hc := HKb.out wr hO
        have p0 := hc.1
        clear hc
        go_simp
        refine hK.out _ _ ⟨_, _, _, _, _, _, _, _, _, _, ?_, s0.keep rfl, Slot.new _ _ _, s2.keep rfl, s3.keep rfl, s4.keep rfl, s5.keep rfl, s6.keep rfl, s7.keep rfl, s8.keep rfl, s9.keep rfl, hO⟩
        simp only [Act.put, List.setIfInBounds_toArray, List.set_cons_zero, List.set_cons_succ]
      · intro l a wr hI hl hd K' hK
        obtain ⟨u34, u35, u36, u37, u38, u39, u40, u41, u9, u10, ha, s0, s1, s2, s3, s4, s5, s6, s7, s8, s9, hO⟩ := hI
        simp only [Act.put, List.setIfInBounds_toArray, List.set_cons_zero, List.set_cons_succ] at ha
        have q1 := s1 (hd 1 (by decide))
        subst ha q1
        go_simp
        refine hK.out _ _ ⟨_, _, _, _, _, _, _, _, _, _, ?_, s0.keep rfl, s1.keep rfl, Slot.new _ _ _, s3.keep rfl, s4.keep rfl, s5.keep rfl, s6.keep rfl, s7.keep rfl, s8.keep rfl, s9.keep rfl, hO⟩
        simp only [Act.put, List.setIfInBounds_toArray, List.set_cons_zero, List.set_cons_succ]
      · intro l a wr hI hl hd K' hK
        obtain ⟨u34, u35, u36, u37, u38, u39, u40, u41, u9, u10, ha, s0, s1, s2, s3, s4, s5, s6, s7, s8, s9, hO⟩ := hI
        simp only [Act.put, List.setIfInBounds_toArray, List.set_cons_zero, List.set_cons_succ] at ha
        have q2 := s2 (hd 2 (by decide))
        subst ha q2
        go_simp
        refine hK.out _ _ ⟨_, _, _, _, _, _, _, _, _, _, ?_, s0.keep rfl, s1.keep rfl, s2.keep rfl, Slot.new _ _ _, s4.keep rfl, s5.keep rfl, s6.keep rfl, s7.keep rfl, s8.keep rfl, s9.keep rfl, hO⟩
        simp only [Act.put, List.setIfInBounds_toArray, List.set_cons_zero, List.set_cons_succ]
      · intro l a wr hI hl hd K' hK
        obtain ⟨u34, u35, u36, u37, u38, u39, u40, u41, u9, u10, ha, s0, s1, s2, s3, s4, s5, s6, s7, s8, s9, hO⟩ := hI
        simp only [Act.put, List.setIfInBounds_toArray, List.set_cons_zero, List.set_cons_succ] at ha
        subst ha
        go_simp
        refine hK.out _ _ ⟨_, _, _, _, _, _, _, _, _, _, ?_, s0.keep rfl, s1.keep rfl, s2.keep rfl, s3.keep rfl, Slot.new _ _ _, s5.keep rfl, s6.keep rfl, s7.keep rfl, s8.keep rfl, s9.keep rfl, hO⟩
        simp only [Act.put, List.setIfInBounds_toArray, List.set_cons_zero, List.set_cons_succ]
      · intro l a wr hI hl hd K' hK
        obtain ⟨u34, u35, u36, u37, u38, u39, u40, u41, u9, u10, ha, s0, s1, s2, s3, s4, s5, s6, s7, s8, s9, hO⟩ := hI
        simp only [Act.put, List.setIfInBounds_toArray, List.set_cons_zero, List.set_cons_succ] at ha
        have q4 := s4 (hd 4 (by decide))
        subst ha q4
        have hc := HKb.out wr hO
        have p0 := hc.2.1
        clear hc
        go_simp
        refine hK.out _ _ ⟨_, _, _, _, _, _, _, _, _, _, ?_, s0.keep rfl, s1.keep rfl, s2.keep rfl, s3.keep rfl, s4.keep rfl, Slot.new _ _ _, s6.keep rfl, s7.keep rfl, s8.keep rfl, s9.keep rfl, hO⟩
        simp only [Act.put, List.setIfInBounds_toArray, List.set_cons_zero, List.set_cons_succ]
      · intro l a wr hI hl hd K' hK
        obtain ⟨u34, u35, u36, u37, u38, u39, u40, u41, u9, u10, ha, s0, s1, s2, s3, s4, s5, s6, s7, s8, s9, hO⟩ := hI
        simp only [Act.put, List.setIfInBounds_toArray, List.set_cons_zero, List.set_cons_succ] at ha
        have q5 := s5 (hd 5 (by decide))
        subst ha q5
        go_simp
        refine hK.out _ _ ⟨_, _, _, _, _, _, _, _, _, _, ?_, s0.keep rfl, s1.keep rfl, s2.keep rfl, s3.keep rfl, s4.keep rfl, s5.keep rfl, Slot.new _ _ _, s7.keep rfl, s8.keep rfl, s9.keep rfl, hO⟩
        simp only [Act.put, List.setIfInBounds_toArray, List.set_cons_zero, List.set_cons_succ]
      · intro l a wr hI hl hd K' hK
        obtain ⟨u34, u35, u36, u37, u38, u39, u40, u41, u9, u10, ha, s0, s1, s2, s3, s4, s5, s6, s7, s8, s9, hO⟩ := hI
        simp only [Act.put, List.setIfInBounds_toArray, List.set_cons_zero, List.set_cons_succ] at ha
        have q6 := s6 (hd 6 (by decide))
        subst ha q6
        go_simp
        refine hK.out _ _ ⟨_, _, _, _, _, _, _, _, _, _, ?_, s0.keep rfl, s1.keep rfl, s2.keep rfl, s3.keep rfl, s4.keep rfl, s5.keep rfl, s6.keep rfl, Slot.new _ _ _, s8.keep rfl, s9.keep rfl, hO⟩
        simp only [Act.put, List.setIfInBounds_toArray, List.set_cons_zero, List.set_cons_succ]
      · intro l a wr hI hl hd K' hK
        obtain ⟨u34, u35, u36, u37, u38, u39, u40, u41, u9, u10, ha, s0, s1, s2, s3, s4, s5, s6, s7, s8, s9, hO⟩ := hI
        simp only [Act.put, List.setIfInBounds_toArray, List.set_cons_zero, List.set_cons_succ] at ha
        have q3 := s3 (hd 3 (by decide))
        subst ha q3
        go_simp
        refine hK.out _ _ ⟨_, _, _, _, _, _, _, _, _, _, ?_, s0.keep rfl, s1.keep rfl, s2.keep rfl, s3.keep rfl, s4.keep rfl, s5.keep rfl, s6.keep rfl, s7.keep rfl, Slot.new _ _ _, s9.keep rfl, hO⟩
        simp only [Act.put, List.setIfInBounds_toArray, List.set_cons_zero, List.set_cons_succ]
      · intro l a wr hI hl hd K' hK
        obtain ⟨u34, u35, u36, u37, u38, u39, u40, u41, u9, u10, ha, s0, s1, s2, s3, s4, s5, s6, s7, s8, s9, hO⟩ := hI
        simp only [Act.put, List.setIfInBounds_toArray, List.set_cons_zero, List.set_cons_succ] at ha
        have q7 := s7 (hd 7 (by decide))
        subst ha q7
        go_simp
        refine hK.out _ _ ⟨_, _, _, _, _, _, _, _, _, _, ?_, s0.keep rfl, s1.keep rfl, s2.keep rfl, s3.keep rfl, s4.keep rfl, s5.keep rfl, s6.keep rfl, s7.keep rfl, s8.keep rfl, Slot.new _ _ _, hO⟩
        simp only [Act.put, List.setIfInBounds_toArray, List.set_cons_zero, List.set_cons_succ]
      · intro l a wc hI hd
        obtain ⟨u34, u35, u36, u37, u38, u39, u40, u41, u9, u10, ha, s0, s1, s2, s3, s4, s5, s6, s7, s8, s9, hO⟩ := hI
        simp only [Act.put, List.setIfInBounds_toArray, List.set_cons_zero, List.set_cons_succ] at ha
        have q0 := s0 (hd 0 (by decide))
        have q1 := s1 (hd 1 (by decide))
        have q2 := s2 (hd 2 (by decide))
        have q3 := s3 (hd 3 (by decide))
        have q4 := s4 (hd 4 (by decide))
        have q5 := s5 (hd 5 (by decide))
        have q6 := s6 (hd 6 (by decide))
        have q7 := s7 (hd 7 (by decide))
        have q8 := s8 (hd 8 (by decide))
        have q9 := s9 (hd 9 (by decide))
        subst ha q0 q1 q2 q3 q4 q5 q6 q7 q8 q9
        clear hd s0 s1 s2 s3 s4 s5 s6 s7 s8 s9
        obtain ⟨Wx, hWx⟩ : ∃ Wx, Wx = wc := ⟨_, rfl⟩
        rw [← hWx] at hO ⊢
        have HOx := Lib.hid (HO0.out.trans hO (fun _ _ c => c))
        have HKX := Lib.hid (hO.heap HKF.out (fun c => c))
        clear hO hWx
        go_wp2_with fail
        refine (FN.out _ HOx.out).mono ?_
        rintro e u1 ⟨b1, S1, rfl, hP, hS, hO⟩
        have HP1 := Lib.hid hP
        have HS1 := Lib.hid hS
        have HO1 := Lib.hid hO
        clear hP hS hO
        go_wp2_with fail
        refine (FN.out _ (HOx.out.trans HO1.out (fun _ _ c => c))).mono ?_
        rintro e u2 ⟨b2, S2, rfl, hP, hS, hO⟩
        have HP2 := Lib.hid (HP1.out.keep hO)
        have HQ2 := Lib.hid hP
        have HD := Lib.hid (show (∀ j, S1 j → S2 j → False) ∧ (∀ j, S1 j → Wx.heap.size ≤ j) ∧ (∀ j, S2 j → Wx.heap.size ≤ j) ∧ S1 b1 ∧ S2 b2 from ⟨fun j h1 h2 => (by have := HP1.out.lt j h1; have := hS j h2; omega), HS1.out, fun j h => (by have := hS j h; have := HO1.out.size; omega), hP.mem |> fun _ => HP1.out.mem, hP.mem⟩)
        have HO2 := Lib.hid (HO1.out.trans hO (fun _ _ c => c))
        clear hP hS hO FN HP1 HO1 HS1
        go_wp2_with fail
        refine (FAL.out _ (HT.out.off (HOx.out.trans HO2.out (fun _ _ c => c)))).mono ?_
        rintro e u ⟨rfl, hOf⟩
        have HOf := Lib.hid ((HOx.out.trans HO2.out (fun _ _ c => c)).trans hOf (fun _ _ c => c))
        clear hOf
        go_wp2
        go_ret
        exact ⟨rfl, HOf.out⟩
    · have j3 : ¬ (n1 : Int) < ((64 * (n + k) + n + k : Nat) : Int) := by omega
      have j4 : decide ((n1 : Int) < ((64 * (n + k) + n + k : Nat) : Int)) = false := by simp; omega
      have HLn := Lib.hid (show 64 * (n + k) + n + k ≤ bs1.length by have := HB.out; omega)
      go_enter Tryd.func6, Tryd.ntmps6
      go_wp2_with fail
      refine (FG.out _ HTb.out).mono ?_
      rintro e u0 ⟨rfl, hO⟩
      obtain ⟨W0, hW0⟩ : ∃ W0, W0 = ((u0.alloc (.cells #[.int .i64 id, .int .u64 (wd p 0 : Int), .int .u64 (wd p 1 : Int), .int .u64 (wd p 2 : Int), .int .u64 (wd p 3 : Int), .int .u64 (i : Int), .int .u64 (wd r 0 : Int), .int .u64 (wd r 1 : Int), .int .u64 (wd r 2 : Int), .int .u64 (wd r 3 : Int), .int .u64 (wd s 0 : Int), .int .u64 (wd s 1 : Int), .int .u64 (wd s 2 : Int), .int .u64 (wd s 3 : Int)] 42)).alloc (.cells #[.int .u64 (wd p 0 : Int), .int .u64 (wd p 1 : Int), .int .u64 (wd p 2 : Int), .int .u64 (wd p 3 : Int)] 39)) := ⟨_, rfl⟩
      have hs0 : W0.heap.size = u0.heap.size + 2 := by rw [hW0]; simp
      have hKf : W0.heap[u0.heap.size]? = some (.cells #[.int .i64 id, .int .u64 (wd p 0 : Int), .int .u64 (wd p 1 : Int), .int .u64 (wd p 2 : Int), .int .u64 (wd p 3 : Int), .int .u64 (i : Int), .int .u64 (wd r 0 : Int), .int .u64 (wd r 1 : Int), .int .u64 (wd r 2 : Int), .int .u64 (wd r 3 : Int), .int .u64 (wd s 0 : Int), .int .u64 (wd s 1 : Int), .int .u64 (wd s 2 : Int), .int .u64 (wd s 3 : Int)] 42) := by rw [hW0]; exact heap_old' (heap_new' rfl _) _
      have hKp : W0.heap[u0.heap.size + 1]? = some (.cells #[.int .u64 (wd p 0 : Int), .int .u64 (wd p 1 : Int), .int .u64 (wd p 2 : Int), .int .u64 (wd p 3 : Int)] 39) := by rw [hW0]; exact heap_new' (by simp) _
      have HO0 := Lib.hid (show Off (fun _ => False) w W0 by rw [hW0]; exact (((Off.refl (fun _ => False) w).alloc _).trans hO (fun _ _ c => c)).trans (((Off.refl (fun _ => False) u0).alloc _).alloc _) (fun _ _ c => c))
      have HW0 := Lib.hid hW0
      have HS0 := Lib.hid hs0
      have HKF := Lib.hid hKf
      have HKP := Lib.hid hKp
      have HBx := Lib.hid (show W0.heap[w.heap.size]? = some (.cells #[.int .u8 (n2 : Int), .int .u8 (o2 : Int)] 57) ∧ w.heap.size < W0.heap.size by
        have h1 := hO.heap (heap_new' rfl _ : (w.alloc (.cells #[.int .u8 (n2 : Int), .int .u8 (o2 : Int)] 57)).heap[w.heap.size]? = some (.cells #[.int .u8 (n2 : Int), .int .u8 (o2 : Int)] 57)) (fun c => c)
        have h2 := (((Off.refl (fun _ => False) u0).alloc (.cells #[.int .i64 id, .int .u64 (wd p 0 : Int), .int .u64 (wd p 1 : Int), .int .u64 (wd p 2 : Int), .int .u64 (wd p 3 : Int), .int .u64 (i : Int), .int .u64 (wd r 0 : Int), .int .u64 (wd r 1 : Int), .int .u64 (wd r 2 : Int), .int .u64 (wd r 3 : Int), .int .u64 (wd s 0 : Int), .int .u64 (wd s 1 : Int), .int .u64 (wd s 2 : Int), .int .u64 (wd s 3 : Int)] 42)).alloc (.cells #[.int .u64 (wd p 0 : Int), .int .u64 (wd p 1 : Int), .int .u64 (wd p 2 : Int), .int .u64 (wd p 3 : Int)] 39)).heap h1 (fun c => c)
        rw [← hW0] at h2
        exact ⟨h2, heap_lt h2⟩)
      clear hO hW0 hs0 hKf hKp FG
      have HKb : Hid (∀ A, Off (fun _ => False) W0 A → (A.cell? ⟨w.heap.size, 0, none⟩ = some (.int .u8 (n2 : Int))) ∧ (A.cell? ⟨w.heap.size, 1, none⟩ = some (.int .u8 (o2 : Int))) ∧ Off (fun _ => False) W0 A) := Lib.hid (fun A h => ⟨cell_of_heap (h.heap HBx.out.1 (fun c => c)) 0, cell_of_heap (h.heap HBx.out.1 (fun c => c)) 1, h⟩)
      go_upto_region 4 with fail
      rw [← HW0.out]
      refine wp_region_inv (fun a0 l a' w' => ∃ (u34 : Value) (u35 : Value) (u36 : Value) (u37 : Value) (u38 : Value) (u39 : Value) (u40 : Value) (u41 : Value) (u9 : Value) (u10 : Value), a' = (Act.put (Act.put (Act.put (Act.put (Act.put (Act.put (Act.put (Act.put (Act.put (Act.put a0 (some 34) u34) (some 35) u35) (some 36) u36) (some 37) u37) (some 38) u38) (some 39) u39) (some 40) u40) (some 41) u41) (some 9) u9) (some 10) u10) ∧ Slot l 0 u34 (.pointer (some ⟨w.heap.size, 0, none⟩)) ∧ Slot l 1 u35 (.int .u8 (n2 : Int)) ∧ Slot l 2 u36 (.int .u8 (n : Int)) ∧ Slot l 3 u37 (.int .i64 (n : Int)) ∧ Slot l 4 u38 (.pointer (some ⟨w.heap.size, 1, none⟩)) ∧ Slot l 5 u39 (.int .u8 (o2 : Int)) ∧ Slot l 6 u40 (.int .u8 (k : Int)) ∧ Slot l 7 u41 (.int .i64 (k : Int)) ∧ Slot l 8 u9 (.int .i64 (n : Int)) ∧ Slot l 9 u10 (.int .i64 (k : Int)) ∧ Off (fun _ => False) W0 w') (by kernel_rfl) (by kernel_rfl) ?_ ⟨?_, ?_, ?_, ?_, ?_, ?_, ?_, ?_, ?_, ?_, trivial⟩ ?_
      · refine ⟨?z34, ?z35, ?z36, ?z37, ?z38, ?z39, ?z40, ?z41, ?z9, ?z10, ?fr, Slot.start _ _ _, Slot.start _ _ _, Slot.start _ _ _, Slot.start _ _ _, Slot.start _ _ _, Slot.start _ _ _, Slot.start _ _ _, Slot.start _ _ _, Slot.start _ _ _, Slot.start _ _ _, (Off.refl _ W0).drew⟩
        case fr => first | (simp only [Act.put, List.setIfInBounds_toArray, List.set_cons_zero, List.set_cons_succ]; rfl) | simp only [Act.put, List.setIfInBounds_toArray, List.set_cons_zero, List.set_cons_succ]
      · intro l a wr hI hl hd K' hK
        obtain ⟨u34, u35, u36, u37, u38, u39, u40, u41, u9, u10, ha, s0, s1, s2, s3, s4, s5, s6, s7, s8, s9, hO⟩ := hI
        simp only [Act.put, List.setIfInBounds_toArray, List.set_cons_zero, List.set_cons_succ] at ha
        subst ha
        go_simp
        refine hK.out _ _ ⟨_, _, _, _, _, _, _, _, _, _, ?_, Slot.new _ _ _, s1.keep rfl, s2.keep rfl, s3.keep rfl, s4.keep rfl, s5.keep rfl, s6.keep rfl, s7.keep rfl, s8.keep rfl, s9.keep rfl, hO⟩
        simp only [Act.put, List.setIfInBounds_toArray, List.set_cons_zero, List.set_cons_succ]
      · intro l a wr hI hl hd K' hK
        obtain ⟨u34, u35, u36, u37, u38, u39, u40, u41, u9, u10, ha, s0, s1, s2, s3, s4, s5, s6, s7, s8, s9, hO⟩ := hI
        simp only [Act.put, List.setIfInBounds_toArray, List.set_cons_zero, List.set_cons_succ] at ha
        have q0 := s0 (hd 0 (by decide))
        subst ha q0
        have hc := HKb.out wr hO
        have p0 := hc.1
        clear hc
        go_simp
        refine hK.out _ _ ⟨_, _, _, _, _, _, _, _, _, _, ?_, s0.keep rfl, Slot.new _ _ _, s2.keep rfl, s3.keep rfl, s4.keep rfl, s5.keep rfl, s6.keep rfl, s7.keep rfl, s8.keep rfl, s9.keep rfl, hO⟩
        simp only [Act.put, List.setIfInBounds_toArray, List.set_cons_zero, List.set_cons_succ]
      · intro l a wr hI hl hd K' hK
        obtain ⟨u34, u35, u36, u37, u38, u39, u40, u41, u9, u10, ha, s0, s1, s2, s3, s4, s5, s6, s7, s8, s9, hO⟩ := hI
        simp only [Act.put, List.setIfInBounds_toArray, List.set_cons_zero, List.set_cons_succ] at ha
        have q1 := s1 (hd 1 (by decide))
        subst ha q1
        go_simp
        refine hK.out _ _ ⟨_, _, _, _, _, _, _, _, _, _, ?_, s0.keep rfl, s1.keep rfl, Slot.new _ _ _, s3.keep rfl, s4.keep rfl, s5.keep rfl, s6.keep rfl, s7.keep rfl, s8.keep rfl, s9.keep rfl, hO⟩
        simp only [Act.put, List.setIfInBounds_toArray, List.set_cons_zero, List.set_cons_succ]
      · intro l a wr hI hl hd K' hK
        obtain ⟨u34, u35, u36, u37, u38, u39, u40, u41, u9, u10, ha, s0, s1, s2, s3, s4, s5, s6, s7, s8, s9, hO⟩ := hI
        simp only [Act.put, List.setIfInBounds_toArray, List.set_cons_zero, List.set_cons_succ] at ha
        have q2 := s2 (hd 2 (by decide))
        subst ha q2
        go_simp
        refine hK.out _ _ ⟨_, _, _, _, _, _, _, _, _, _, ?_, s0.keep rfl, s1.keep rfl, s2.keep rfl, Slot.new _ _ _, s4.keep rfl, s5.keep rfl, s6.keep rfl, s7.keep rfl, s8.keep rfl, s9.keep rfl, hO⟩
        simp only [Act.put, List.setIfInBounds_toArray, List.set_cons_zero, List.set_cons_succ]
      · intro l a wr hI hl hd K' hK
        obtain ⟨u34, u35, u36, u37, u38, u39, u40, u41, u9, u10, ha, s0, s1, s2, s3, s4, s5, s6, s7, s8, s9, hO⟩ := hI
        simp only [Act.put, List.setIfInBounds_toArray, List.set_cons_zero, List.set_cons_succ] at ha
        subst ha
        go_simp
        refine hK.out _ _ ⟨_, _, _, _, _, _, _, _, _, _, ?_, s0.keep rfl, s1.keep rfl, s2.keep rfl, s3.keep rfl, Slot.new _ _ _, s5.keep rfl, s6.keep rfl, s7.keep rfl, s8.keep rfl, s9.keep rfl, hO⟩
        simp only [Act.put, List.setIfInBounds_toArray, List.set_cons_zero, List.set_cons_succ]
      · intro l a wr hI hl hd K' hK
        obtain ⟨u34, u35, u36, u37, u38, u39, u40, u41, u9, u10, ha, s0, s1, s2, s3, s4, s5, s6, s7, s8, s9, hO⟩ := hI
        simp only [Act.put, List.setIfInBounds_toArray, List.set_cons_zero, List.set_cons_succ] at ha
        have q4 := s4 (hd 4 (by decide))
        subst ha q4
        have hc := HKb.out wr hO
        have p0 := hc.2.1
        clear hc
        go_simp
        refine hK.out _ _ ⟨_, _, _, _, _, _, _, _, _, _, ?_, s0.keep rfl, s1.keep rfl, s2.keep rfl, s3.keep rfl, s4.keep rfl, Slot.new _ _ _, s6.keep rfl, s7.keep rfl, s8.keep rfl, s9.keep rfl, hO⟩
        simp only [Act.put, List.setIfInBounds_toArray, List.set_cons_zero, List.set_cons_succ]
      · intro l a wr hI hl hd K' hK
        obtain ⟨u34, u35, u36, u37, u38, u39, u40, u41, u9, u10, ha, s0, s1, s2, s3, s4, s5, s6, s7, s8, s9, hO⟩ := hI
        simp only [Act.put, List.setIfInBounds_toArray, List.set_cons_zero, List.set_cons_succ] at ha
        have q5 := s5 (hd 5 (by decide))
        subst ha q5
        go_simp
        refine hK.out _ _ ⟨_, _, _, _, _, _, _, _, _, _, ?_, s0.keep rfl, s1.keep rfl, s2.keep rfl, s3.keep rfl, s4.keep rfl, s5.keep rfl, Slot.new _ _ _, s7.keep rfl, s8.keep rfl, s9.keep rfl, hO⟩
        simp only [Act.put, List.setIfInBounds_toArray, List.set_cons_zero, List.set_cons_succ]
      · intro l a wr hI hl hd K' hK
        obtain ⟨u34, u35, u36, u37, u38, u39, u40, u41, u9, u10, ha, s0, s1, s2, s3, s4, s5, s6, s7, s8, s9, hO⟩ := hI
        simp only [Act.put, List.setIfInBounds_toArray, List.set_cons_zero, List.set_cons_succ] at ha
        have q6 := s6 (hd 6 (by decide))
        subst ha q6
        go_simp
        refine hK.out _ _ ⟨_, _, _, _, _, _, _, _, _, _, ?_, s0.keep rfl, s1.keep rfl, s2.keep rfl, s3.keep rfl, s4.keep rfl, s5.keep rfl, s6.keep rfl, Slot.new _ _ _, s8.keep rfl, s9.keep rfl, hO⟩
        simp only [Act.put, List.setIfInBounds_toArray, List.set_cons_zero, List.set_cons_succ]
      · intro l a wr hI hl hd K' hK
        obtain ⟨u34, u35, u36, u37, u38, u39, u40, u41, u9, u10, ha, s0, s1, s2, s3, s4, s5, s6, s7, s8, s9, hO⟩ := hI
        simp only [Act.put, List.setIfInBounds_toArray, List.set_cons_zero, List.set_cons_succ] at ha
        have q3 := s3 (hd 3 (by decide))
        subst ha q3
        go_simp
        refine hK.out _ _ ⟨_, _, _, _, _, _, _, _, _, _, ?_, s0.keep rfl, s1.keep rfl, s2.keep rfl, s3.keep rfl, s4.keep rfl, s5.keep rfl, s6.keep rfl, s7.keep rfl, Slot.new _ _ _, s9.keep rfl, hO⟩
        simp only [Act.put, List.setIfInBounds_toArray, List.set_cons_zero, List.set_cons_succ]
      · intro l a wr hI hl hd K' hK
        obtain ⟨u34, u35, u36, u37, u38, u39, u40, u41, u9, u10, ha, s0, s1, s2, s3, s4, s5, s6, s7, s8, s9, hO⟩ := hI
        simp only [Act.put, List.setIfInBounds_toArray, List.set_cons_zero, List.set_cons_succ] at ha
        have q7 := s7 (hd 7 (by decide))
        subst ha q7
        go_simp
        refine hK.out _ _ ⟨_, _, _, _, _, _, _, _, _, _, ?_, s0.keep rfl, s1.keep rfl, s2.keep rfl, s3.keep rfl, s4.keep rfl, s5.keep rfl, s6.keep rfl, s7.keep rfl, s8.keep rfl, Slot.new _ _ _, hO⟩
        simp only [Act.put, List.setIfInBounds_toArray, List.set_cons_zero, List.set_cons_succ]
      · intro l a wc hI hd
        obtain ⟨u34, u35, u36, u37, u38, u39, u40, u41, u9, u10, ha, s0, s1, s2, s3, s4, s5, s6, s7, s8, s9, hO⟩ := hI
        simp only [Act.put, List.setIfInBounds_toArray, List.set_cons_zero, List.set_cons_succ] at ha
        have q0 := s0 (hd 0 (by decide))
        have q1 := s1 (hd 1 (by decide))
        have q2 := s2 (hd 2 (by decide))
        have q3 := s3 (hd 3 (by decide))
        have q4 := s4 (hd 4 (by decide))
        have q5 := s5 (hd 5 (by decide))
        have q6 := s6 (hd 6 (by decide))
        have q7 := s7 (hd 7 (by decide))
        have q8 := s8 (hd 8 (by decide))
        have q9 := s9 (hd 9 (by decide))
        subst ha q0 q1 q2 q3 q4 q5 q6 q7 q8 q9
        clear hd s0 s1 s2 s3 s4 s5 s6 s7 s8 s9
        obtain ⟨Wx, hWx⟩ : ∃ Wx, Wx = wc := ⟨_, rfl⟩
        rw [← hWx] at hO ⊢
        have HOx := Lib.hid (HO0.out.trans hO (fun _ _ c => c))
        have HKX := Lib.hid (hO.heap HKF.out (fun c => c))
        clear hO hWx
        go_wp2_with fail
        refine (FN.out _ HOx.out).mono ?_
        rintro e u1 ⟨b1, S1, rfl, hP, hS, hO⟩
        have HP1 := Lib.hid hP
        have HS1 := Lib.hid hS
        have HO1 := Lib.hid hO
        clear hP hS hO
        go_wp2_with fail
        refine (FN.out _ (HOx.out.trans HO1.out (fun _ _ c => c))).mono ?_
        rintro e u2 ⟨b2, S2, rfl, hP, hS, hO⟩
        have HP2 := Lib.hid (HP1.out.keep hO)
        have HQ2 := Lib.hid hP
        have HD := Lib.hid (show (∀ j, S1 j → S2 j → False) ∧ (∀ j, S1 j → Wx.heap.size ≤ j) ∧ (∀ j, S2 j → Wx.heap.size ≤ j) ∧ S1 b1 ∧ S2 b2 from ⟨fun j h1 h2 => (by have := HP1.out.lt j h1; have := hS j h2; omega), HS1.out, fun j h => (by have := hS j h; have := HO1.out.size; omega), hP.mem |> fun _ => HP1.out.mem, hP.mem⟩)
        have HO2 := Lib.hid (HO1.out.trans hO (fun _ _ c => c))
        clear hP hS hO FN HP1 HO1 HS1
        have hl := HLn.out
        have hbl := HB.out.2
        obtain ⟨r0, hr0⟩ : ∃ r0, r0 = bs1.drop (64 * (n + k)) := ⟨_, rfl⟩
        have hr0l : n + k ≤ r0.length ∧ r0.length ≤ 2000 := by rw [hr0, List.length_drop]; have := HB.out; omega
        obtain ⟨xs, hxs⟩ : ∃ xs, xs = (elsK bs1 n).map (fm p) := ⟨_, rfl⟩
        obtain ⟨ys, hys⟩ : ∃ ys, ys = (elsK (bs1.drop (64 * n)) k).map (fm p) := ⟨_, rfl⟩
        have hzs : (elsK bs1 (n + k)).map (fm p) = xs ++ ys := by rw [elsK_add, List.map_append, hxs, hys]
        have hxl : xs.length = n ∧ ys.length = k := by rw [hxs, hys, List.length_map, List.length_map, elsK_length, elsK_length]; exact ⟨rfl, rfl⟩
        have FA := Lib.hid (fun (W : World) (hq : SrcP W b1 bs1 S1) => els_any HF.out b1 bs1 S1 (n : Int) (wf_sm (by omega)) W hq (by omega))
        rw [elemsV_ok (show 64 * n ≤ bs1.length by omega), ← hxs] at FA
        have FB := Lib.hid (fun (W : World) (hq : SrcP W b1 (bs1.drop (64 * n)) S1) => els_any HF.out b1 (bs1.drop (64 * n)) S1 (k : Int) (wf_sm (by omega)) W hq (by rw [List.length_drop]; omega))
        rw [elemsV_ok (show 64 * k ≤ (bs1.drop (64 * n)).length by rw [List.length_drop]; omega), ← hys, List.drop_drop, show 64 * n + 64 * k = 64 * (n + k) by omega, ← hr0] at FB
        have FC := Lib.hid (fun (W : World) (hq : SrcP W b2 bs1 S2) => els_any HF.out b2 bs1 S2 ((n + k : Nat) : Int) (wf_sm (by omega)) W hq (by omega))
        rw [elemsV_ok (show 64 * (n + k) ≤ bs1.length by omega), hzs, ← hr0] at FC
        have FD := Lib.hid (fun (W : World) (hq : SrcP W b1 r0 S1) => take_any b1 r0 S1 (n : Int) (wf_sm (by omega)) W hq (by omega))
        rw [takeV_ok (show n ≤ r0.length by omega)] at FD
        have FE := Lib.hid (fun (W : World) (hq : SrcP W b1 (r0.drop n) S1) => take_any b1 (r0.drop n) S1 (k : Int) (wf_sm (by omega)) W hq (by rw [List.length_drop]; omega))
        rw [takeV_ok (show k ≤ (r0.drop n).length by rw [List.length_drop]; omega), List.drop_drop] at FE
        have FG2 := Lib.hid (fun (W : World) (hq : SrcP W b2 r0 S2) => take_any b2 r0 S2 ((n + k : Nat) : Int) (wf_sm (by omega)) W hq (by omega))
        rw [takeV_ok (show n + k ≤ r0.length by omega), List.take_add] at FG2
        obtain ⟨us, hus⟩ : ∃ us, us = r0.take n := ⟨_, rfl⟩
        obtain ⟨vs, hvs⟩ : ∃ vs, vs = (r0.drop n).take k := ⟨_, rfl⟩
        have hul : us.length = n ∧ vs.length = k := by rw [hus, hvs, List.length_take, List.length_take, List.length_drop]; omega
        rw [← hus] at FD FG2
        rw [← hvs] at FE FG2
        obtain ⟨r1, hr1⟩ : ∃ r1, r1 = r0.drop (n + k) := ⟨_, rfl⟩
        rw [← hr1] at FE FG2
        have HXl := Lib.hid hxl
        have HUl := Lib.hid hul
        have HN4 := Lib.hid (show n < 4 ∧ k < 4 from ⟨hn4, hk4⟩)
        dsimp only at FA FB FC FD FE FG2
        clear hl hbl hr0 hr0l hxs hys hzs hxl hus hvs hul hr1
        obtain ⟨f0, f1, f2, f3, f4, f5, f6, f7, f8, f9, f10, f11, f12, f13⟩ := fv_cells (HO2.out.heap HKX.out (fun c => c))
        have hltf := heap_lt (HO2.out.heap HKX.out (fun c => c))
        go_wp2_with fail
        refine (FA.out _ HP2.out).mono ?_
        rintro e u3 ⟨x3, rfl, hl3, hP3, hO3⟩
        have HP3 := Lib.hid hP3
        have HQ3 := Lib.hid (HQ2.out.off hO3 (fun j _ h e => HD.out.1 j (e ▸ HD.out.2.2.2.1) h))
        have HB12 := Lib.hid (show b1 < u2.heap.size ∧ b2 < u2.heap.size ∧ u2.heap.size ≤ u3.heap.size from ⟨HP2.out.lt b1 HD.out.2.2.2.1, HQ2.out.lt b2 HD.out.2.2.2.2, hO3.size⟩)
        have HO3 := Lib.hid (HO2.out.trans hO3 (fun j hj e => by have := HD.out.2.1 b1 HD.out.2.2.2.1; omega))
        have HX3 := Lib.hid hl3
        clear hP3 hO3 hl3 FA f0 f1 f2 f3 f4 f5 f6 f7 f8 f9 f10 f11 f12 f13 hltf
        obtain ⟨f0, f1, f2, f3, f4, f5, f6, f7, f8, f9, f10, f11, f12, f13⟩ := fv_cells (HO3.out.heap HKX.out (fun c => c))
        have hltf := heap_lt (HO3.out.heap HKX.out (fun c => c))
        go_wp2_with fail
        refine (FB.out _ HP3.out).mono ?_
        rintro e u4 ⟨x4, rfl, hl4, hP4, hO4⟩
        have HP4 := Lib.hid hP4
        have HQ4 := Lib.hid (HQ3.out.off hO4 (fun j _ h e => HD.out.1 j (e ▸ HD.out.2.2.2.1) h))
        have HO4 := Lib.hid (HO3.out.trans hO4 (fun j hj e => by have := HD.out.2.1 b1 HD.out.2.2.2.1; omega))
        have HX4 := Lib.hid (HX3.out.off hO4 (fun j _ h e => by have := HB12.out; omega))
        have HY4 := Lib.hid (hl4.mono (fun j _ h => (by have := HB12.out; omega : u2.heap.size ≤ j)))
        have HS4 := Lib.hid (show u2.heap.size ≤ u4.heap.size by have := HB12.out; have := hO4.size; omega)
        clear hP4 hO4 hl4 FB f0 f1 f2 f3 f4 f5 f6 f7 f8 f9 f10 f11 f12 f13 hltf
        obtain ⟨f0, f1, f2, f3, f4, f5, f6, f7, f8, f9, f10, f11, f12, f13⟩ := fv_cells (HO4.out.heap HKX.out (fun c => c))
        have hltf := heap_lt (HO4.out.heap HKX.out (fun c => c))
        go_wp2_with fail
        refine (FC.out _ HQ4.out).mono ?_
        rintro e u5 ⟨x5, rfl, hl5, hQ5, hO5⟩
        have HQ5 := Lib.hid hQ5
        have HP5 := Lib.hid (HP4.out.off hO5 (fun j _ h e => HD.out.1 j h (e ▸ HD.out.2.2.2.2)))
        have HO5 := Lib.hid (HO4.out.trans hO5 (fun j hj e => by have := HD.out.2.2.1 b2 HD.out.2.2.2.2; omega))
        have HX5 := Lib.hid (HX4.out.off hO5 (fun j _ h e => by have := HB12.out; omega))
        have HY5 := Lib.hid (HY4.out.off hO5 (fun j _ h e => by have := HB12.out; omega))
        have HZ5 := Lib.hid (hl5.mono (fun j _ h => (by have := HS4.out; omega : u2.heap.size ≤ j)))
        have HS5 := Lib.hid (show u2.heap.size ≤ u5.heap.size by have := HS4.out; have := hO5.size; omega)
        clear hQ5 hO5 hl5 FC f0 f1 f2 f3 f4 f5 f6 f7 f8 f9 f10 f11 f12 f13 hltf
        go_wp2_with fail
        refine (FD.out _ HP5.out).mono ?_
        rintro e u6 ⟨x6, rfl, hl6, hP6, hO6⟩
        have HP6 := Lib.hid hP6
        have HQ6 := Lib.hid (HQ5.out.off hO6 (fun j _ h e => HD.out.1 j (e ▸ HD.out.2.2.2.1) h))
        have HO6 := Lib.hid (HO5.out.trans hO6 (fun j hj e => by have := HD.out.2.1 b1 HD.out.2.2.2.1; omega))
        have HX6 := Lib.hid (HX5.out.off hO6 (fun j _ h e => by have := HB12.out; omega))
        have HY6 := Lib.hid (HY5.out.off hO6 (fun j _ h e => by have := HB12.out; omega))
        have HZ6 := Lib.hid (HZ5.out.off hO6 (fun j _ h e => by have := HB12.out; omega))
        have HU6 := Lib.hid (hl6.base HS5.out)
        have HS6 := Lib.hid (show u2.heap.size ≤ u6.heap.size by have := HS5.out; have := hO6.size; omega)
        clear hP6 hO6 hl6 FD HX5 HY5 HZ5 HP5 HQ5
        go_wp2_with fail
        refine (FE.out _ HP6.out).mono ?_
        rintro e u7 ⟨x7, rfl, hl7, hP7, hO7⟩
        have HP7 := Lib.hid hP7
        have HQ7 := Lib.hid (HQ6.out.off hO7 (fun j _ h e => HD.out.1 j (e ▸ HD.out.2.2.2.1) h))
        have HO7 := Lib.hid (HO6.out.trans hO7 (fun j hj e => by have := HD.out.2.1 b1 HD.out.2.2.2.1; omega))
        have HX7 := Lib.hid (HX6.out.off hO7 (fun j _ h e => by have := HB12.out; omega))
        have HY7 := Lib.hid (HY6.out.off hO7 (fun j _ h e => by have := HB12.out; omega))
        have HZ7 := Lib.hid (HZ6.out.off hO7 (fun j _ h e => by have := HB12.out; omega))
        have HU7 := Lib.hid (RowT.offB HU6.out hO7 (fun j h e => by have := HB12.out; omega))
        have HV7 := Lib.hid (hl7.base HS6.out)
        have HS7 := Lib.hid (show u2.heap.size ≤ u7.heap.size by have := HS6.out; have := hO7.size; omega)
        clear hP7 hO7 hl7 FE HX6 HY6 HZ6 HP6 HQ6 HU6
        go_wp2_with fail
        refine (FG2.out _ HQ7.out).mono ?_
        rintro e u8 ⟨x8, rfl, hl8, hQ8, hO8⟩
        have HQ8 := Lib.hid hQ8
        have HP8 := Lib.hid (HP7.out.off hO8 (fun j _ h e => HD.out.1 j h (e ▸ HD.out.2.2.2.2)))
        have HO8 := Lib.hid (HO7.out.trans hO8 (fun j hj e => by have := HD.out.2.2.1 b2 HD.out.2.2.2.2; omega))
        have HX8 := Lib.hid (Ls.of (HX7.out.off hO8 (fun j _ h e => by have := HB12.out; omega)))
        have HY8 := Lib.hid (Ls.of (HY7.out.off hO8 (fun j _ h e => by have := HB12.out; omega)))
        have HZ8 := Lib.hid (Ls.of (HZ7.out.off hO8 (fun j _ h e => by have := HB12.out; omega)))
        have HU8 := Lib.hid (row_sv14 (RowT.offB HU7.out hO8 (fun j h e => by have := HB12.out; omega)))
        have HV8 := Lib.hid (row_sv14 (RowT.offB HV7.out hO8 (fun j h e => by have := HB12.out; omega)))
        have HW8 := Lib.hid (row_sv14 hl8)
        clear hQ8 hO8 hl8 FG2 HX7 HY7 HZ7 HP7 HQ7 HU7 HV7
        go_wp2_with fail
        refine (FAL.out _ (HT.out.off (HOx.out.trans HO8.out (fun _ _ c => c)))).mono ?_
        rintro e u9 ⟨rfl, hO9⟩
        have HP9 := Lib.hid (HP8.out.keep hO9)
        have HQ9 := Lib.hid (HQ8.out.keep hO9)
        have HX9 := Lib.hid (HX8.out.off hO9)
        have HY9 := Lib.hid (HY8.out.off hO9)
        have HZ9 := Lib.hid (HZ8.out.off hO9)
        have HU9 := Lib.hid (HU8.out.off hO9)
        have HV9 := Lib.hid (HV8.out.off hO9)
        have HW9 := Lib.hid (HW8.out.off hO9)
        have HO9 := Lib.hid (HO8.out.trans hO9 (fun _ _ c => c))
        clear hO9
        obtain ⟨xa, xc, hxv, _⟩ := HX9.out
        obtain ⟨ya, yc, hyv, _⟩ := HY9.out
        obtain ⟨za, zc, hzv, _⟩ := HZ9.out
        obtain ⟨ua, un, uc, huv, hun, _, _⟩ := HU9.out
        obtain ⟨va, vn, vc, hvv, hvn, _, _⟩ := HV9.out
        obtain ⟨wa, wn, wc9, hwv, hwn, _, _⟩ := HW9.out
        rw [List.length_append] at hzv hwn
        rw [HXl.out.1, HXl.out.2] at hzv
        rw [HUl.out.1, HUl.out.2] at hwn
        rw [hun] at huv
        rw [hvn] at hvv
        rw [hwn] at hwv
        subst hxv hyv hzv huv hvv hwv
        go_wp2_with fail
        refine (concat_el u9.heap.size _ _ xs ys _ (cell_of_heap (heap_new' rfl _) 0) (cell_of_heap (heap_new' rfl _) 1) (HX9.out.off ((Off.refl _ u9).alloc _)) (HY9.out.off ((Off.refl _ u9).alloc _)) (by have := HXl.out; have := HN4.out; omega)).mono ?_
        rintro e u10 ⟨cv, rfl, hcv, hO10⟩
        have hOA := ((Off.refl (fun _ => False) u9).alloc _).trans hO10 (fun _ _ c => c)
        have HC10 := Lib.hid (row_ls hcv (by rw [List.length_append]; have := HXl.out; have := HN4.out; omega))
        have HZ10 := Lib.hid (HZ9.out.off hOA)
        have HU10 := Lib.hid (HU9.out.off hOA)
        have HV10 := Lib.hid (HV9.out.off hOA)
        have HW10 := Lib.hid (HW9.out.off hOA)
        have HP10 := Lib.hid (HP9.out.keep hOA)
        have HQ10 := Lib.hid (HQ9.out.keep hOA)
        have HO10 := Lib.hid (HO9.out.trans hOA (fun _ _ c => c))
        clear hcv hO10 hOA
        go_wp2_with fail
        refine (eleq_any (xs ++ ys) _ _ _ HC10.out HZ10.out).mono ?_
        rintro e u11 ⟨rfl, hO11⟩
        have HU11 := Lib.hid (HU10.out.off hO11)
        have HV11 := Lib.hid (HV10.out.off hO11)
        have HW11 := Lib.hid (HW10.out.off hO11)
        have HP11 := Lib.hid (HP10.out.keep hO11)
        have HQ11 := Lib.hid (HQ10.out.keep hO11)
        have HO11 := Lib.hid (HO10.out.trans hO11 (fun _ _ c => c))
        clear hO11
        go_wp2_with fail
        refine (concat_by u11.heap.size _ _ us vs _ (cell_of_heap (heap_new' rfl _) 0) (cell_of_heap (heap_new' rfl _) 1) (HU11.out.off ((Off.refl _ u11).alloc _)) (HV11.out.off ((Off.refl _ u11).alloc _)) (by have := HUl.out; have := HN4.out; omega)).mono ?_
        rintro e u12 ⟨dv, rfl, hdv, hO12⟩
        have hOA := ((Off.refl (fun _ => False) u11).alloc _).trans hO12 (fun _ _ c => c)
        have HDv := Lib.hid (row_sv14 hdv)
        have HW12 := Lib.hid (HW11.out.off hOA)
        have HP12 := Lib.hid (HP11.out.keep hOA)
        have HQ12 := Lib.hid (HQ11.out.keep hOA)
        have HO12 := Lib.hid (HO11.out.trans hOA (fun _ _ c => c))
        clear hdv hO12 hOA
        go_wp2_with fail
        refine (bequal_sv HDv.out HW12.out).mono ?_
        rintro e u13 ⟨rfl, hO13⟩
        have HP13 := Lib.hid (HP12.out.keep hO13)
        have HQ13 := Lib.hid (HQ12.out.keep hO13)
        have HO13 := Lib.hid (HO12.out.trans hO13 (fun _ _ c => c))
        clear hO13
        go_wp2_with fail
        refine (left_any b1 _ S1 _ HP13.out).mono ?_
        rintro e u14 ⟨rfl, hO14⟩
        have HQ14 := Lib.hid (HQ13.out.keep hO14)
        have HO14 := Lib.hid (HO13.out.trans hO14 (fun _ _ c => c))
        clear hO14
        go_wp2_with fail
        refine (left_any b2 _ S2 _ HQ14.out).mono ?_
        rintro e u15 ⟨rfl, hO15⟩
        have HO15 := Lib.hid (HO14.out.trans hO15 (fun _ _ c => c))
        clear hO15
        go_wp2
        go_ret
        exact ⟨rfl, HOx.out.trans HO15.out (fun _ _ c => c)⟩

theorem door_met (os : Os) (args : Array Value) : laidMetH Tryd.prog [("sharecore/field.fields", Rows.laid_sharecore_field_fields)] ((World.doorLaid Tryd.prog 400 os).forCall (fun _ _ => 0) ⟨#[], args, []⟩).memory :=
  laidMetH_of_parts3 (fuel := 8) (laidMet_of_run' 8 (by kernel_rfl) (by kernel_rfl)) (by kernel_rfl) (by kernel_rfl)

set_option maxRecDepth 100000 in
theorem lifted (os : Os) (started : os.Started) (H : Type) (enc : TypeId × Value → H) :
    ReturnsInHanded {} Tryd.checked os 6 .any (fun w args => (Rows.sourceSplitsSpec.pre enc Tryd.prog Tryd.f6 [] false w args ∧ laidMetH Tryd.prog [("sharecore/field.fields", Rows.laid_sharecore_field_fields)] w) ∧ sizedMet enc Tryd.prog Tryd.f6 (OpenSpec.ofChange Rows.sourceSplitsSpec) false w args)
      (Rows.sourceSplitsSpec.post enc Tryd.prog Tryd.f6 false true false false) := by
  refine returnsInHanded_of_change_and (C := Tryd.checked) (X := fun w _ => laidMetH Tryd.prog [("sharecore/field.fields", Rows.laid_sharecore_field_fields)] w) (fun _ _ _ hh h => h.of_heap hh) own started (by kernel_rfl) Tryd.func6
    (ChangeSpec.witness_shaped (enc := enc) (C := Tryd.checked) (os := os) (X := fun w _ => laidMetH Tryd.prog [("sharecore/field.fields", Rows.laid_sharecore_field_fields)] w) false (World.doorLaid Tryd.prog 400 os) #[.bool false, .slice none 0 0, .agg #[.int .u8 0, .int .u8 0]] 8 rfl (World.shaped_of_RefB (by kernel_rfl) (by kernel_rfl)) (by kernel_rfl) (by kernel_rfl) (by kernel_rfl) (door_met os _)) ?_
  intro W base args ds gs before hval0 hW _ hsz hL _
  have hval : ∀ (j : Nat) t v, Tryd.f6.params[j]? = some t → args[j]? = some v → Value.okWide Tryd.prog W .any base t v := hval0
  have hW' := hW
  obtain ⟨p, q, hA0, hV, rfl, hfz, hnd⟩ := hW
  have hA : DataW.TrodAll enc Tryd.prog W 0 (fun _ => true) true Tryd.f6.params.toList args.toList ds p := hA0
  rw [Tryd.params6] at hA hval
  obtain ⟨v0, vs0, d0, ds0, p0, q0, hargs, rfl, rfl, h0, r0⟩ := trodAll_cons hA
  obtain ⟨v1, vs1, d1, ds1, p1, q1, rfl, rfl, rfl, h1, r1⟩ := trodAll_cons r0
  obtain ⟨v2, vs2, d2, ds2, p2, q2, rfl, rfl, rfl, h2, r2⟩ := trodAll_cons r1
  obtain ⟨rfl, rfl, rfl⟩ := trodAll_nil r2
  obtain rfl : args = #[v0, v1, v2] := by cases args; simp_all
  obtain ⟨rfl, rfl⟩ := trodVars_none hV
  obtain ⟨i0, rfl, rfl, rfl⟩ := open_bool Tryd.underlying4 (hval 0 4 v0 rfl rfl) h0
  have w0 := trivial
  obtain ⟨a1, n1, cap1, rfl⟩ := okWide_slice Tryd.underlying22 (hval 1 22 v1 rfl rfl)
  have k1 := h1
  have lt1 : ∀ x ∈ p1, x.block < W.heap.size := by obtain ⟨m, hm⟩ := k1; exact DataW.trod_lt m _ _ _ hm
  obtain ⟨bs1, hn1, hc1, hs1, w1⟩ : ∃ bs, n1 = bs.length ∧ n1 ≤ cap1 ∧ Small bs ∧ BsAt W a1 bs (fun k => k < W.heap.size) := by
    obtain ⟨fuel, hf⟩ := h1
    exact bytes_of_trod hf
  have k2 := h2
  have lt2 : ∀ x ∈ p2, x.block < W.heap.size := by obtain ⟨m, hm⟩ := k2; exact DataW.trod_lt m _ _ _ hm
  obtain ⟨n2, o2, w2, rfl⟩ := open_two8 (hval 2 57 v2 rfl rfl) h2
  have hT := tab_of_laid hL
  clear hA0 hval0
  refine (walk i0 a1 n1 cap1 bs1 n2 o2 W w0 hn1 hc1 hs1 w1 w2 hT).mono fun e W' ⟨he, hoff⟩ => ?_
  have bel : Below W.heap.size W W' := hoff.below (Nat.le_refl _) (fun _ _ c => c)
  subst he
  exact ⟨_, rfl, _, _, _, [], _, [], hW', trodAll_mk1 (shut_bool Tryd.underlying4 _), (trodAll_cons_mk (shut_bool Tryd.underlying4 _) (trodAll_cons_mk (Below.trod laidOut (by kernel_rfl) (of_decide_eq_true (by kernel_rfl)) k1 bel lt1) (trodAll_cons_mk (Below.trod laidOut (by kernel_rfl) (of_decide_eq_true (by kernel_rfl)) k2 bel lt2) trodAll_mk0))), rfl, bel.frame _, fun h => by cases h⟩

theorem over : Rows.sourceSplitsRow.holds Tryd.pinned (OpenSpec.ofChange Rows.sourceSplitsSpec) :=
  OpenClaim.holds_of_wide 6 Tryd.f6 rfl rfl rfl rfl rfl rfl rfl ⟨rfl, rfl, rfl, rfl, rfl⟩ rfl rfl rfl rfl rfl (by kernel_rfl) Tryd.func6 (by kernel_rfl)
    (of_decide_eq_true (by kernel_rfl)) (by unfold Func.isWrapper; first | (rw [if_pos (by decide +kernel)]; kernel_rfl) | (rw [if_neg (by decide +kernel)]; exact ⟨rfl, rfl⟩))
    (fun os started H enc _ => lifted os started H enc)

theorem proved : Rows.SourceSplitsCardSaid :=
  Claim7.holds_tied_plain_at .later [] [.data] true (true, "6f64277cbffadd23f4f09293482bc941ab7d4d501c3abca4f435855ccbd2f86e") false
    over (fun _ h => by cases h) (by kernel_rfl) (fun _ h => by cases h) sourceSplits_row_tie rfl ⟨rfl, rfl⟩ (by kernel_rfl) rfl
    (fun f fn hf hfn => by
      obtain rfl : f = 6 := Option.some.inj ((show Tryd.prog.funcNamed "sharecore/sharecorelaw14.SourceSplits" = some 6 by kernel_rfl).symm.trans hf) |>.symm
      obtain rfl : fn = Tryd.f6 := (Option.some.inj (Tryd.func6.symm.trans hfn)).symm
      exact ⟨by kernel_rfl, fun j t ht => by
        rw [Tryd.params6] at ht
        have hm : t ∈ [4, 22, 57] := by simpa using Array.mem_of_getElem? ht
        have hall : ([4, 22, 57].all fun u => !Tryd.prog.wantsStandIn u) = true := by kernel_rfl
        exact (show Tryd.prog.wantsStandIn t = false by simpa using List.all_eq_true.1 hall t hm)⟩)
    (by kernel_rfl)
#print axioms proved
end Go.Proofs.YtpiialjnjfkfeaaDoor.sourceSplits
