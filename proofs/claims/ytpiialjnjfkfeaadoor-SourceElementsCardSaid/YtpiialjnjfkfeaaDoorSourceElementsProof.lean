/-
  For every field, all bytes and every sequence of numbers, the examples of the chapter hold, and Elements returns the same elements, or the same error, as the reference: the statement of P14.3 and P14.4. No condition.
-/
import Derived.Test.YtpiialjnjfkfeaaDoorRows
import Derived.Test.YtpiialjnjfkfeaaDoorTie
import Derived.Test.YtpiialjnjfkfeaaDoorCards
import Derived.LaidMore
import Derived.LaidHandle
import Derived.SevenTiedAt
import Derived.Stop.Joined
import Derived.JoinedOf
import Derived.Test.YtpiialjnjfkfeaaDoorLimbOpen
import Derived.Test.YtpiialjnjfkfeaaDoorFieldTab
import Derived.Test.YtpiialjnjfkfeaaDoorFieldHeld
import Derived.Test.YtpiialjnjfkfeaaDoorBytOpen
import Derived.Test.YtpiialjnjfkfeaaDoorIntOpen
import Derived.Test.YtpiialjnjfkfeaaDoorSrcAlive
import Derived.Test.YtpiialjnjfkfeaaDoorInvClo
import Derived.WalkKit
import Derived.ProofKit
import Derived.OpenShut
import Derived.ShutString
import Derived.ChangeOld
import Derived.Below
namespace Go.Proofs.YtpiialjnjfkfeaaDoor.sourceElements
open Go.ChangeShapes Go.WideShapes Go.ChangeAt Go.RowKit
set_option linter.unusedVariables false

theorem own : ownKnob Tryd.prog.godebug = none := by kernel_rfl
theorem laidOut : laidOutB Tryd.prog = true := by kernel_rfl

set_option maxRecDepth 100000 in
set_option maxHeartbeats 4000000 in
theorem walk (i0 : Bool) (a1 : Option Addr) (n1 cap1 : Nat) (bs1 : List Nat) (a2 : Option Addr) (n2 cap2 : Nat) (is2 : List Int) (w : World) (w0 : True) (hn1 : n1 = bs1.length) (hc1 : n1 ≤ cap1) (hs1 : Small bs1) (w1 : BsAt w a1 bs1 (fun k => k < w.heap.size)) (hn2 : n2 = is2.length) (w2 : IvAt w (.slice a2 n2 cap2) is2 (fun k => k < w.heap.size)) (hT : TabAt w) :
    Calls Tryd.prog 4 #[.bool i0, .slice a1 n1 cap1, .slice a2 n2 cap2] w fun e w' => e = .returned (.bool true) ∧ Off (fun _ => False) w w' := by
  have FAL : Hid (∀ W, TabAt W → Calls Tryd.prog 9 #[] W fun e w' => e = .returned (.bool true) ∧ Off (fun _ => False) W w') := Lib.hid (fun W hT => alive14_any W hT)
  have HT := Lib.hid hT
  clear hT
  obtain ⟨id, p, i, r, s, hF, hid⟩ := fld_of i0
  have hp := hF.mp.lt
  have h1 := hF.mp.one
  have FG := Lib.hid (fun W hT => get14_any i0 hF hid W hT)
  clear hid
  by_cases hbig : 2000 < n1
  · have j1 : (2000 : Int) < (n1 : Int) := by omega
    have j2 : decide ((2000 : Int) < (n1 : Int)) = true := by simp; omega
    go_enter Tryd.func4, Tryd.ntmps4
    go_wp2_with fail
    refine (FAL.out _ HT.out).mono ?_
    rintro e u ⟨rfl, hO⟩
    have HOf := Lib.hid hO
    clear hO
    go_wp2
    go_ret
    exact ⟨rfl, HOf.out⟩
  by_cases hbig2 : 30 < n2
  · have j1 : ¬ (2000 : Int) < (n1 : Int) := by omega
    have j2 : decide ((2000 : Int) < (n1 : Int)) = false := by simp; omega
    have j3 : (30 : Int) < (n2 : Int) := by omega
    have j4 : decide ((30 : Int) < (n2 : Int)) = true := by simp; omega
    go_enter Tryd.func4, Tryd.ntmps4
    go_wp2_with fail
    refine (FAL.out _ HT.out).mono ?_
    rintro e u ⟨rfl, hO⟩
    have HOf := Lib.hid hO
    clear hO
    go_wp2
    go_ret
    exact ⟨rfl, HOf.out⟩
  · have j1 : ¬ (2000 : Int) < (n1 : Int) := by omega
    have j2 : decide ((2000 : Int) < (n1 : Int)) = false := by simp; omega
    have j3 : ¬ (30 : Int) < (n2 : Int) := by omega
    have j4 : decide ((30 : Int) < (n2 : Int)) = false := by simp; omega
    have FN := Lib.hid (fun (W : World) (h : Off (fun _ => False) w W) => new_any a1 n1 cap1 bs1 _ W (w1.off h (fun _ _ _ c => c)) hn1 hc1 hs1 (by omega))
    have HF := Lib.hid hF
    have HIv := Lib.hid w2
    have HN0 := Lib.hid (show n1 = bs1.length ∧ n1 ≤ cap1 ∧ n1 ≤ 2000 ∧ n2 ≤ 30 from ⟨hn1, hc1, by omega, by omega⟩)
    have HB0 := Lib.hid w1
    have HSm := Lib.hid hs1
    have HPl := Lib.hid hp
    have HP1l := Lib.hid h1
    clear w1 w2 hn1 hc1 hs1 hn2 hbig hbig2 hF hp h1
    go_enter Tryd.func4, Tryd.ntmps4
    go_wp2_with fail
    refine (FG.out _ HT.out).mono ?_
    rintro e u0 ⟨rfl, hO⟩
    obtain ⟨W0, hW0⟩ : ∃ W0, W0 = ((u0.alloc (.cells #[.int .i64 id, .int .u64 (wd p 0 : Int), .int .u64 (wd p 1 : Int), .int .u64 (wd p 2 : Int), .int .u64 (wd p 3 : Int), .int .u64 (i : Int), .int .u64 (wd r 0 : Int), .int .u64 (wd r 1 : Int), .int .u64 (wd r 2 : Int), .int .u64 (wd r 3 : Int), .int .u64 (wd s 0 : Int), .int .u64 (wd s 1 : Int), .int .u64 (wd s 2 : Int), .int .u64 (wd s 3 : Int)] 42)).alloc (.cells #[.int .u64 (wd p 0 : Int), .int .u64 (wd p 1 : Int), .int .u64 (wd p 2 : Int), .int .u64 (wd p 3 : Int)] 39)) := ⟨_, rfl⟩
    have hs0 : W0.heap.size = u0.heap.size + 2 := by rw [hW0]; simp
    have hKf : W0.heap[u0.heap.size]? = some (.cells #[.int .i64 id, .int .u64 (wd p 0 : Int), .int .u64 (wd p 1 : Int), .int .u64 (wd p 2 : Int), .int .u64 (wd p 3 : Int), .int .u64 (i : Int), .int .u64 (wd r 0 : Int), .int .u64 (wd r 1 : Int), .int .u64 (wd r 2 : Int), .int .u64 (wd r 3 : Int), .int .u64 (wd s 0 : Int), .int .u64 (wd s 1 : Int), .int .u64 (wd s 2 : Int), .int .u64 (wd s 3 : Int)] 42) := by rw [hW0]; exact heap_old' (heap_new' rfl _) _
    have hKp : W0.heap[u0.heap.size + 1]? = some (.cells #[.int .u64 (wd p 0 : Int), .int .u64 (wd p 1 : Int), .int .u64 (wd p 2 : Int), .int .u64 (wd p 3 : Int)] 39) := by rw [hW0]; exact heap_new' (by simp) _
    have HO0 := Lib.hid (show Off (fun _ => False) w W0 by rw [hW0]; exact hO.trans (((Off.refl (fun _ => False) u0).alloc _).alloc _) (fun _ _ c => c))
    have HW0 := Lib.hid hW0
    have HS0 := Lib.hid hs0
    have HKF := Lib.hid hKf
    have HKP := Lib.hid hKp
    clear hO hW0 hs0 hKf hKp FG
    go_wp2_with fail
    rw [← HW0.out]
    refine (FN.out _ HO0.out).mono ?_
    rintro e u1 ⟨b1, S1, rfl, hP, hS, hO⟩
    have HP1 := Lib.hid hP
    have HS1 := Lib.hid hS
    have HO1 := Lib.hid hO
    clear hP hS hO FN
    go_wp2
    obtain ⟨W1, hW1⟩ : ∃ W1, W1 = u1.alloc (.cells #[.slice a1 n1 cap1] 30) := ⟨_, rfl⟩
    have g0 : W1.heap[u1.heap.size]? = some (.cells #[.slice a1 n1 cap1] 30 (0, 0)) := by rw [hW1]; exact heap_new' rfl _
    have hA0 : Off (fun _ => False) u1 W1 := by rw [hW1]; exact (Off.refl _ u1).alloc _
    obtain ⟨qb, hqb⟩ : ∃ qb, qb = u1.heap.size := ⟨_, rfl⟩
    rw [← hW1, ← hqb]
    rw [← hqb] at g0
    have HPS := Lib.hid (HP1.out.keep hA0)
    have HOB := Lib.hid (HO1.out.trans hA0 (fun _ _ c => c))
    have HR0 := Lib.hid (show RefP W1 qb bs1 (fun k => k < w.heap.size) from ⟨a1, cap1, by rw [← HN0.out.1]; exact g0, by rw [← HN0.out.1]; exact HN0.out.2.1, HB0.out.off (HO0.out.trans HOB.out (fun _ _ c => c)) (fun _ _ _ c => c)⟩)
    have HQb := Lib.hid (show W0.heap.size ≤ qb ∧ b1 ≠ qb ∧ qb < W1.heap.size ∧ S1 b1 ∧ ¬ S1 qb ∧ W0.heap.size ≤ b1 ∧ w.heap.size ≤ W0.heap.size by
      have h1 := HP1.out.lt b1 HP1.out.mem
      have h2 := HO1.out.size
      have h3 := HS1.out b1 HP1.out.mem
      refine ⟨by omega, by omega, heap_lt g0, HP1.out.mem, fun h => ?_, by omega, HO0.out.size⟩
      have := HP1.out.lt qb h
      omega)
    have hn1' : n2 ≤ 30 := HN0.out.2.2.2
    clear hW1 g0 hA0 hqb HO1 HP1
    go_loopw [41] (fun i wr => ∃ (k : Nat) (rs : List Nat), k ≤ n2 ∧ i = .int .i64 (k : Int) ∧ rs.length ≤ 2000 ∧ SrcP wr b1 rs S1 ∧ RefP wr qb rs (fun k => k < w.heap.size) ∧ Off (fun _ => False) W0 wr) (fun i _ => n2 - (intOf i).toNat)
    case atStart => exact ⟨0, bs1, Nat.zero_le _, rfl, by have := HN0.out; omega, HPS.out, HR0.out, HOB.out⟩
    case round =>
      clear HPS HR0 HOB
      obtain ⟨k, rs, hk, rfl, hrl, hPs, hRs, hO⟩ := hrel
      by_cases hlt : k < n2
      · have hiv := HIv.out.off (HO0.out.trans hO (fun _ _ c => c)) (fun _ _ _ c => c)
        have hwf := hiv.len.2.2
        obtain ⟨x, ab, off, hxk, rfl, hcx⟩ := hiv.at hlt
        have hx := hwf x (List.mem_of_getElem? hxk)
        have i1 : (k : Int) < (n2 : Int) := by omega
        have w2 : IntKind.i64.wrap ((k : Int) + 1) = (k : Int) + 1 := by rw [IntKind.wrap_i64]; omega
        have hre := elemsV_rest rs x
        have hln := elemsV_len rs x
        obtain ⟨T, hT⟩ : ∃ T, T = elemsV rs x := ⟨_, rfl⟩
        have FT := Lib.hid (els_any HF.out b1 rs S1 x hx wr hPs (by omega))
        have hsm := hPs.small
        have hltb := hPs.lt b1 hPs.mem
        have hltq := hRs.lt
        have hwz := hO.size
        have FR := Lib.hid (fun (W : World) (h : Off (fun j => j = b1) wr W) => refels_any p HPl.out HP1l.out qb rs (fun k => k < w.heap.size) x hx W (hRs.off h (fun e => HQb.out.2.1 e.symm) (fun j _ h1 h2 => by have := HQb.out; omega)) (fun j hj e => by have := HQb.out; omega) (fun j hj => by have := h.size; have := HQb.out; omega) hsm (by omega))
        rw [← hT] at FT FR hre hln
        obtain ⟨es, er, rest⟩ := T
        dsimp only at hre hln
        have HRl := Lib.hid (show rest.length ≤ 2000 ∧ es.length ≤ 100 by omega)
        have HO := Lib.hid hO
        have HLt := Lib.hid (show b1 < wr.heap.size ∧ qb < wr.heap.size from ⟨hltb, hltq⟩)
        obtain ⟨f0, f1, f2, f3, f4, f5, f6, f7, f8, f9, f10, f11, f12, f13⟩ := fv_cells (HO.out.heap HKF.out (fun c => c))
        have hltf := heap_lt (HO.out.heap HKF.out (fun c => c))
        clear hPs hRs hO hwf hiv hxk hx hT hre hrl hln hsm hltb hltq hwz
        go_wp2_with fail
        refine FT.out.mono ?_
        rintro e u3 ⟨v3, rfl, hR3, hP3, hO3⟩
        try dsimp only at hR3 hP3
        have HR3 := Lib.hid hR3
        have HP3 := Lib.hid hP3
        have HO3 := Lib.hid hO3
        have HOA := Lib.hid (HO.out.trans hO3 (fun j hj e => by have := HQb.out; omega))
        clear hR3 hP3 hO3 f0 f1 f2 f3 f4 f5 f6 f7 f8 f9 f10 f11 f12 f13 hltf
        obtain ⟨p0, p1, p2, p3⟩ := cells4 (HOA.out.heap HKP.out (fun c => c))
        have hltp := heap_lt (HOA.out.heap HKP.out (fun c => c))
        go_wp2_with fail
        refine (FR.out _ HO3.out).mono ?_
        rintro e u4 ⟨v4, rfl, hl4, hR4, hO4⟩
        try dsimp only at hl4 hR4
        clear p0 p1 p2 p3 hltp
        obtain ⟨wq, hwq⟩ : ∃ wq, wq = u4 := ⟨_, rfl⟩
        rw [← hwq] at hl4 hR4 hO4 ⊢
        have hX := Ls.of (HR3.out.off hO4 (fun j _ h e => by have := HLt.out; omega))
        obtain ⟨m, hm⟩ : ∃ m, m = es.length := ⟨_, rfl⟩
        obtain ⟨xa, xc, hxv, hXl⟩ := hX.open
        obtain ⟨ya, yc, hyv, hYl⟩ := hl4.open
        rw [List.length_map, ← hm] at hxv hXl hyv hYl
        subst hxv hyv
        have HXl := Lib.hid hXl
        have HYl := Lib.hid hYl
        have hm100 : m ≤ 100 := by have := HRl.out.2; omega
        have HPq := Lib.hid (HP3.out.off hO4 (fun j _ h1 e => HQb.out.2.2.2.2.1 (e ▸ h1)))
        obtain ⟨q, hq⟩ : ∃ q, q = rest.length := ⟨_, rfl⟩
        have FL := Lib.hid (fun (W : World) (h : Off (fun _ => False) wq W) => left_any b1 rest S1 W (HPq.out.keep h))
        rw [← hq] at FL
        have HRq := Lib.hid hR4
        obtain ⟨ra, rc, hq0, hq1, hq2⟩ := hR4
        rw [← hq] at hq0
        have HQ := Lib.hid hq0
        have HOq := Lib.hid (HOA.out.trans hO4 (fun j hj e => by have := HQb.out; omega))
        clear hq hq0 hq1 hq2 hO4 hwq HR3 FT FR hX hXl hYl hl4 hm
        go_upto_region 13 with fail
        obtain ⟨x59, hx⟩ : ∃ x : Value, x = .slice xa m xc := ⟨_, rfl⟩
        have X59 := Lib.hid hx
        clear hx
        obtain ⟨x60, hx⟩ : ∃ x : Value, x = .int .i64 (m : Int) := ⟨_, rfl⟩
        have X60 := Lib.hid hx
        clear hx
        obtain ⟨x61, hx⟩ : ∃ x : Value, x = .slice ya m yc := ⟨_, rfl⟩
        have X61 := Lib.hid hx
        clear hx
        obtain ⟨x62, hx⟩ : ∃ x : Value, x = .int .i64 (m : Int) := ⟨_, rfl⟩
        have X62 := Lib.hid hx
        clear hx
        obtain ⟨x63, hx⟩ : ∃ x : Value, x = .bool false := ⟨_, rfl⟩
        have X63 := Lib.hid hx
        clear hx
        obtain ⟨x64, hx⟩ : ∃ x : Value, x = .bool false := ⟨_, rfl⟩
        have X64 := Lib.hid hx
        clear hx
        obtain ⟨x65, hx⟩ : ∃ x : Value, x = .int .i64 (er : Int) := ⟨_, rfl⟩
        have X65 := Lib.hid hx
        clear hx
        obtain ⟨x66, hx⟩ : ∃ x : Value, x = .int .i64 (er : Int) := ⟨_, rfl⟩
        have X66 := Lib.hid hx
        clear hx
        obtain ⟨x67, hx⟩ : ∃ x : Value, x = .bool false := ⟨_, rfl⟩
        have X67 := Lib.hid hx
        clear hx
        obtain ⟨x68, hx⟩ : ∃ x : Value, x = .bool false := ⟨_, rfl⟩
        have X68 := Lib.hid hx
        clear hx
        obtain ⟨x69, hx⟩ : ∃ x : Value, x = .bool false := ⟨_, rfl⟩
        have X69 := Lib.hid hx
        clear hx
        obtain ⟨x70, hx⟩ : ∃ x : Value, x = .pointer (some ⟨b1, 0, none⟩) := ⟨_, rfl⟩
        have X70 := Lib.hid hx
        clear hx
        obtain ⟨x71, hx⟩ : ∃ x : Value, x = .int .i64 (q : Int) := ⟨_, rfl⟩
        have X71 := Lib.hid hx
        clear hx
        obtain ⟨x72, hx⟩ : ∃ x : Value, x = .pointer (some ⟨qb, 0, none⟩) := ⟨_, rfl⟩
        have X72 := Lib.hid hx
        clear hx
        obtain ⟨x73, hx⟩ : ∃ x : Value, x = .pointer (some ⟨qb, 0, none⟩) := ⟨_, rfl⟩
        have X73 := Lib.hid hx
        clear hx
        obtain ⟨x74, hx⟩ : ∃ x : Value, x = .pointer (some ⟨qb, 0, none⟩) := ⟨_, rfl⟩
        have X74 := Lib.hid hx
        clear hx
        obtain ⟨x75, hx⟩ : ∃ x : Value, x = .slice ra q rc := ⟨_, rfl⟩
        have X75 := Lib.hid hx
        clear hx
        obtain ⟨x76, hx⟩ : ∃ x : Value, x = .int .i64 (q : Int) := ⟨_, rfl⟩
        have X76 := Lib.hid hx
        clear hx
        obtain ⟨x77, hx⟩ : ∃ x : Value, x = .bool false := ⟨_, rfl⟩
        have X77 := Lib.hid hx
        clear hx
        obtain ⟨x78, hx⟩ : ∃ x : Value, x = .bool false := ⟨_, rfl⟩
        have X78 := Lib.hid hx
        clear hx
        refine wp_region_inv (fun a0 l a' w' => a' = (fill a0 59 [sel (l 0) x59 u59, sel (l 1) x60 u60, sel (l 2) x61 u61, sel (l 3) x62 u62, sel (l 4) x63 u63, sel (l 5) x64 u64, sel (l 6) x65 u65, sel (l 7) x66 u66, sel (l 8) x67 u67, sel (l 9) x68 u68, sel (l 10) x69 u69, sel (l 11) x70 u70, sel (l 12) x71 u71, sel (l 13) x72 u72, sel (l 14) x73 u73, sel (l 15) x74 u74, sel (l 16) x75 u75, sel (l 17) x76 u76, sel (l 18) x77 u77, sel (l 19) x78 u78, u79, u80, u81, u82, u83, u84, u85, u86, u87, u88, u89, u90, u91, u92, u93, u94, u95, u96, undef]) ∧ Off (fun _ => False) wq w') (by kernel_rfl) (by kernel_rfl) ?_ ⟨?_, ?_, ?_, ?_, ?_, ?_, ?_, ?_, ?_, ?_, ?_, ?_, ?_, ?_, ?_, ?_, ?_, ?_, ?_, ?_, trivial⟩ ?_
        · refine ⟨?_, (Off.refl _ wq).drew⟩
          simp only [fill_eq, List.take_succ_cons, List.take_zero, List.cons_append, List.nil_append, sel_start]
        · as_aux_lemma =>
            rintro l a wr ⟨ha, hO⟩ hl hd K' hK
            have hx := X59.out; subst hx
            simp only [fill_eq, List.take_succ_cons, List.take_zero, List.cons_append, List.nil_append] at ha
            subst ha
            rw [if_pos (by rfl)]
            go_simp
            refine hK.out _ _ ⟨?_, hO⟩
            simp only [fill_eq, List.take_succ_cons, List.take_zero, List.cons_append, List.nil_append, sel_new]
            rfl
        · as_aux_lemma =>
            rintro l a wr ⟨ha, hO⟩ hl hd K' hK
            have d0 := hd 0 (by decide)
            have hx := X59.out; subst hx
            have hx := X60.out; subst hx
            simp only [fill_eq, List.take_succ_cons, List.take_zero, List.cons_append, List.nil_append, sel_of d0] at ha
            subst ha
            rw [if_pos (by rfl)]
            go_simp
            refine hK.out _ _ ⟨?_, hO⟩
            simp only [fill_eq, List.take_succ_cons, List.take_zero, List.cons_append, List.nil_append, sel_new, sel_dep d0]
            rfl
        · as_aux_lemma =>
            rintro l a wr ⟨ha, hO⟩ hl hd K' hK
            have hx := X61.out; subst hx
            simp only [fill_eq, List.take_succ_cons, List.take_zero, List.cons_append, List.nil_append] at ha
            subst ha
            rw [if_pos (by rfl)]
            go_simp
            refine hK.out _ _ ⟨?_, hO⟩
            simp only [fill_eq, List.take_succ_cons, List.take_zero, List.cons_append, List.nil_append, sel_new]
            rfl
        · as_aux_lemma =>
            rintro l a wr ⟨ha, hO⟩ hl hd K' hK
            have d2 := hd 2 (by decide)
            have hx := X61.out; subst hx
            have hx := X62.out; subst hx
            simp only [fill_eq, List.take_succ_cons, List.take_zero, List.cons_append, List.nil_append, sel_of d2] at ha
            subst ha
            rw [if_pos (by rfl)]
            go_simp
            refine hK.out _ _ ⟨?_, hO⟩
            simp only [fill_eq, List.take_succ_cons, List.take_zero, List.cons_append, List.nil_append, sel_new, sel_dep d2]
            rfl
        · as_aux_lemma =>
            rintro l a wr ⟨ha, hO⟩ hl hd K' hK
            have d1 := hd 1 (by decide)
            have d3 := hd 3 (by decide)
            have hx := X60.out; subst hx
            have hx := X62.out; subst hx
            have hx := X63.out; subst hx
            simp only [fill_eq, List.take_succ_cons, List.take_zero, List.cons_append, List.nil_append, sel_of d1, sel_of d3] at ha
            subst ha
            rw [if_pos (by rfl)]
            go_simp
            refine hK.out _ _ ⟨?_, hO⟩
            simp only [fill_eq, List.take_succ_cons, List.take_zero, List.cons_append, List.nil_append, sel_new, sel_dep d1, sel_dep d3]
            rfl
        · as_aux_lemma =>
            rintro l a wr ⟨ha, hO⟩ hl hd K' hK
            have d4 := hd 4 (by decide)
            have hx := X63.out; subst hx
            have hx := X64.out; subst hx
            simp only [fill_eq, List.take_succ_cons, List.take_zero, List.cons_append, List.nil_append, sel_of d4] at ha
            subst ha
            rw [if_pos (by rfl)]
            go_simp
            refine hK.out _ _ ⟨?_, hO⟩
            simp only [fill_eq, List.take_succ_cons, List.take_zero, List.cons_append, List.nil_append, sel_new, sel_dep d4]
            rfl
        · as_aux_lemma =>
            rintro l a wr ⟨ha, hO⟩ hl hd K' hK
            have d5 := hd 5 (by decide)
            have hx := X64.out; subst hx
            have hx := X65.out; subst hx
            simp only [fill_eq, List.take_succ_cons, List.take_zero, List.cons_append, List.nil_append, sel_of d5] at ha
            subst ha
            rw [if_pos (by rfl)]
            go_simp
            refine hK.out _ _ ⟨?_, hO⟩
            simp only [fill_eq, List.take_succ_cons, List.take_zero, List.cons_append, List.nil_append, sel_new, sel_dep d5]
            rfl
        · as_aux_lemma =>
            rintro l a wr ⟨ha, hO⟩ hl hd K' hK
            have d5 := hd 5 (by decide)
            have hx := X64.out; subst hx
            have hx := X66.out; subst hx
            simp only [fill_eq, List.take_succ_cons, List.take_zero, List.cons_append, List.nil_append, sel_of d5] at ha
            subst ha
            rw [if_pos (by rfl)]
            go_simp
            refine hK.out _ _ ⟨?_, hO⟩
            simp only [fill_eq, List.take_succ_cons, List.take_zero, List.cons_append, List.nil_append, sel_new, sel_dep d5]
            rfl
        · as_aux_lemma =>
            rintro l a wr ⟨ha, hO⟩ hl hd K' hK
            have d5 := hd 5 (by decide)
            have d6 := hd 6 (by decide)
            have d7 := hd 7 (by decide)
            have hx := X64.out; subst hx
            have hx := X65.out; subst hx
            have hx := X66.out; subst hx
            have hx := X67.out; subst hx
            simp only [fill_eq, List.take_succ_cons, List.take_zero, List.cons_append, List.nil_append, sel_of d5, sel_of d6, sel_of d7] at ha
            subst ha
            rw [if_pos (by rfl)]
            go_simp
            refine hK.out _ _ ⟨?_, hO⟩
            simp only [fill_eq, List.take_succ_cons, List.take_zero, List.cons_append, List.nil_append, sel_new, sel_dep d5, sel_dep d6, sel_dep d7]
            rfl
        · as_aux_lemma =>
            rintro l a wr ⟨ha, hO⟩ hl hd K' hK
            have d5 := hd 5 (by decide)
            have d8 := hd 8 (by decide)
            have hx := X64.out; subst hx
            have hx := X67.out; subst hx
            have hx := X68.out; subst hx
            simp only [fill_eq, List.take_succ_cons, List.take_zero, List.cons_append, List.nil_append, sel_of d5, sel_of d8] at ha
            subst ha
            rw [if_pos (by rfl)]
            go_simp
            refine hK.out _ _ ⟨?_, hO⟩
            simp only [fill_eq, List.take_succ_cons, List.take_zero, List.cons_append, List.nil_append, sel_new, sel_dep d5, sel_dep d8]
            rfl
        · as_aux_lemma =>
            rintro l a wr ⟨ha, hO⟩ hl hd K' hK
            have d9 := hd 9 (by decide)
            have hx := X68.out; subst hx
            have hx := X69.out; subst hx
            simp only [fill_eq, List.take_succ_cons, List.take_zero, List.cons_append, List.nil_append, sel_of d9] at ha
            subst ha
            rw [if_pos (by rfl)]
            go_simp
            refine hK.out _ _ ⟨?_, hO⟩
            simp only [fill_eq, List.take_succ_cons, List.take_zero, List.cons_append, List.nil_append, sel_new, sel_dep d9]
            rfl
        · as_aux_lemma =>
            rintro l a wr ⟨ha, hO⟩ hl hd K' hK
            have d10 := hd 10 (by decide)
            have hx := X69.out; subst hx
            have hx := X70.out; subst hx
            simp only [fill_eq, List.take_succ_cons, List.take_zero, List.cons_append, List.nil_append, sel_of d10] at ha
            subst ha
            rw [if_pos (by rfl)]
            go_simp
            refine hK.out _ _ ⟨?_, hO⟩
            simp only [fill_eq, List.take_succ_cons, List.take_zero, List.cons_append, List.nil_append, sel_new, sel_dep d10]
            rfl
        · as_aux_lemma =>
            rintro l a wr ⟨ha, hO⟩ hl hd K' hK
            have d10 := hd 10 (by decide)
            have d11 := hd 11 (by decide)
            have hx := X69.out; subst hx
            have hx := X70.out; subst hx
            have hx := X71.out; subst hx
            simp only [fill_eq, List.take_succ_cons, List.take_zero, List.cons_append, List.nil_append, sel_of d10, sel_of d11] at ha
            subst ha
            rw [if_pos (by rfl)]
            go_simp
            refine (held_inv (FL.out wr hO) hO).mono ?_
            rintro e w1 ⟨rfl, hO1, hOW⟩
            go_wp2_with fail
            refine hK.out _ _ ⟨?_, hO1⟩
            simp only [fill_eq, List.take_succ_cons, List.take_zero, List.cons_append, List.nil_append, sel_new, sel_dep d10, sel_dep d11]
            rfl
        · as_aux_lemma =>
            rintro l a wr ⟨ha, hO⟩ hl hd K' hK
            have d10 := hd 10 (by decide)
            have hx := X69.out; subst hx
            have hx := X72.out; subst hx
            simp only [fill_eq, List.take_succ_cons, List.take_zero, List.cons_append, List.nil_append, sel_of d10] at ha
            subst ha
            rw [if_pos (by rfl)]
            go_simp
            refine hK.out _ _ ⟨?_, hO⟩
            simp only [fill_eq, List.take_succ_cons, List.take_zero, List.cons_append, List.nil_append, sel_new, sel_dep d10]
            rfl
        · as_aux_lemma =>
            rintro l a wr ⟨ha, hO⟩ hl hd K' hK
            have d10 := hd 10 (by decide)
            have d13 := hd 13 (by decide)
            have hx := X69.out; subst hx
            have hx := X72.out; subst hx
            have hx := X73.out; subst hx
            simp only [fill_eq, List.take_succ_cons, List.take_zero, List.cons_append, List.nil_append, sel_of d10, sel_of d13] at ha
            subst ha
            have hlq := heap_lt (hO.heap HQ.out (fun c => c))
            rw [if_pos (by rfl)]
            go_simp
            refine hK.out _ _ ⟨?_, hO⟩
            simp only [fill_eq, List.take_succ_cons, List.take_zero, List.cons_append, List.nil_append, sel_new, sel_dep d10, sel_dep d13]
            rfl
        · as_aux_lemma =>
            rintro l a wr ⟨ha, hO⟩ hl hd K' hK
            have d10 := hd 10 (by decide)
            have d14 := hd 14 (by decide)
            have hx := X69.out; subst hx
            have hx := X73.out; subst hx
            have hx := X74.out; subst hx
            simp only [fill_eq, List.take_succ_cons, List.take_zero, List.cons_append, List.nil_append, sel_of d10, sel_of d14] at ha
            subst ha
            rw [if_pos (by rfl)]
            go_simp
            refine hK.out _ _ ⟨?_, hO⟩
            simp only [fill_eq, List.take_succ_cons, List.take_zero, List.cons_append, List.nil_append, sel_new, sel_dep d10, sel_dep d14]
            rfl
        · as_aux_lemma =>
            rintro l a wr ⟨ha, hO⟩ hl hd K' hK
            have d10 := hd 10 (by decide)
            have d15 := hd 15 (by decide)
            have hx := X69.out; subst hx
            have hx := X74.out; subst hx
            have hx := X75.out; subst hx
            simp only [fill_eq, List.take_succ_cons, List.take_zero, List.cons_append, List.nil_append, sel_of d10, sel_of d15] at ha
            subst ha
            have p0 := cell_of_heap (hO.heap HQ.out (fun c => c)) 0
            rw [if_pos (by rfl)]
            go_simp
            refine hK.out _ _ ⟨?_, hO⟩
            simp only [fill_eq, List.take_succ_cons, List.take_zero, List.cons_append, List.nil_append, sel_new, sel_dep d10, sel_dep d15]
            rfl
        · as_aux_lemma =>
            rintro l a wr ⟨ha, hO⟩ hl hd K' hK
            have d10 := hd 10 (by decide)
            have d16 := hd 16 (by decide)
            have hx := X69.out; subst hx
            have hx := X75.out; subst hx
            have hx := X76.out; subst hx
            simp only [fill_eq, List.take_succ_cons, List.take_zero, List.cons_append, List.nil_append, sel_of d10, sel_of d16] at ha
            subst ha
            rw [if_pos (by rfl)]
            go_simp
            refine hK.out _ _ ⟨?_, hO⟩
            simp only [fill_eq, List.take_succ_cons, List.take_zero, List.cons_append, List.nil_append, sel_new, sel_dep d10, sel_dep d16]
            rfl
        · as_aux_lemma =>
            rintro l a wr ⟨ha, hO⟩ hl hd K' hK
            have d10 := hd 10 (by decide)
            have d12 := hd 12 (by decide)
            have d17 := hd 17 (by decide)
            have hx := X69.out; subst hx
            have hx := X71.out; subst hx
            have hx := X76.out; subst hx
            have hx := X77.out; subst hx
            simp only [fill_eq, List.take_succ_cons, List.take_zero, List.cons_append, List.nil_append, sel_of d10, sel_of d12, sel_of d17] at ha
            subst ha
            rw [if_pos (by rfl)]
            go_simp
            refine hK.out _ _ ⟨?_, hO⟩
            simp only [fill_eq, List.take_succ_cons, List.take_zero, List.cons_append, List.nil_append, sel_new, sel_dep d10, sel_dep d12, sel_dep d17]
            rfl
        · as_aux_lemma =>
            rintro l a wr ⟨ha, hO⟩ hl hd K' hK
            have d10 := hd 10 (by decide)
            have d18 := hd 18 (by decide)
            have hx := X69.out; subst hx
            have hx := X77.out; subst hx
            have hx := X78.out; subst hx
            simp only [fill_eq, List.take_succ_cons, List.take_zero, List.cons_append, List.nil_append, sel_of d10, sel_of d18] at ha
            subst ha
            rw [if_pos (by rfl)]
            go_simp
            refine hK.out _ _ ⟨?_, hO⟩
            simp only [fill_eq, List.take_succ_cons, List.take_zero, List.cons_append, List.nil_append, sel_new, sel_dep d10, sel_dep d18]
            rfl
        · rintro l a wc ⟨ha, hO⟩ hd
          simp only [fill_eq, List.take_succ_cons, List.take_zero, List.cons_append, List.nil_append, sel_of (hd 0 (by decide)), sel_of (hd 1 (by decide)), sel_of (hd 2 (by decide)), sel_of (hd 3 (by decide)), sel_of (hd 4 (by decide)), sel_of (hd 5 (by decide)), sel_of (hd 6 (by decide)), sel_of (hd 7 (by decide)), sel_of (hd 8 (by decide)), sel_of (hd 9 (by decide)), sel_of (hd 10 (by decide)), sel_of (hd 11 (by decide)), sel_of (hd 12 (by decide)), sel_of (hd 13 (by decide)), sel_of (hd 14 (by decide)), sel_of (hd 15 (by decide)), sel_of (hd 16 (by decide)), sel_of (hd 17 (by decide)), sel_of (hd 18 (by decide)), sel_of (hd 19 (by decide))] at ha
          subst ha
          have hx := X78.out; subst hx
          have HOe := Lib.hid (HOq.out.trans hO (fun _ _ c => c))
          have HPe := Lib.hid (HPq.out.keep hO)
          have HRe := Lib.hid (HRq.out.keep hO)
          have HXe := Lib.hid (HXl.out.off hO (fun _ _ _ c => c))
          have HYe := Lib.hid (HYl.out.off hO (fun _ _ _ c => c))
          clear hO hd FL HQ HXl HYl HPq HRq HOq
          go_wp2
          go_loopw [81] (fun i wr => ∃ t : Nat, t ≤ m ∧ i = .int .i64 (t : Int) ∧ Off (fun _ => False) wc wr) (fun i _ => m - (intOf i).toNat)
          case atStart => exact ⟨0, Nat.zero_le _, rfl, Off.refl _ wc⟩
          case round =>
            obtain ⟨t, ht, rfl, hO⟩ := hrel
            by_cases htm : t < m
            · obtain ⟨z, xb, xo, hz, rfl, c0, c1, c2, c3⟩ := (HXe.out.off hO (fun _ _ _ c => c)).at htm
              obtain ⟨c, yb, yo, hc, rfl, d0, d1, d2, d3⟩ := (HYe.out.off hO (fun _ _ _ c => c)).at htm
              have hzc : fm p c = z ∧ c < R256 := by
                rw [List.getElem?_map] at hz hc
                obtain ⟨v, hv, rfl⟩ := Option.map_eq_some_iff.1 hz
                rw [hv] at hc
                obtain rfl : v % p = c := by simpa using hc
                exact ⟨fm_mod p v, Nat.lt_trans (Nat.mod_lt _ (by have := HP1l.out; omega)) HPl.out⟩
              have FFo := Lib.hid (fun W => by have h := form_any p c HPl.out HP1l.out hzc.2 W; rw [hzc.1] at h; exact h : ∀ W, Calls Tryd.prog 18 #[V p, V c] W fun e w' => e = .returned (V z) ∧ Off (fun _ => False) W w')
              obtain ⟨wi, hwi⟩ : ∃ wi, wi = wr := ⟨_, rfl⟩
              rw [← hwi] at hO c0 c1 c2 c3 d0 d1 d2 d3 ⊢
              have HK1 := Lib.hid (fun (A : World) (h : Off (fun _ => False) wi A) => (⟨h.cell c0 (fun c => c), h.cell c1 (fun c => c), h.cell c2 (fun c => c), h.cell c3 (fun c => c)⟩ : elAt A xb (xo + t * 4) z))
              have HK2 := Lib.hid (fun (A : World) (h : Off (fun _ => False) wi A) => (⟨h.cell d0 (fun c => c), h.cell d1 (fun c => c), h.cell d2 (fun c => c), h.cell d3 (fun c => c)⟩ : elAt A yb (yo + t * 4) c))
              have HPw := Lib.hid ((HOe.out.trans hO (fun _ _ c => c)).heap HKP.out (fun c => c))
              have HOi := Lib.hid hO
              have i2 : (t : Int) < (m : Int) := by omega
              have w3 : IntKind.i64.wrap ((t : Int) + 1) = (t : Int) + 1 := by rw [IntKind.wrap_i64]; omega
              clear hO hwi hz hc hzc c0 c1 c2 c3 d0 d1 d2 d3
              go_upto_region 18 with fail
              obtain ⟨x84, hx⟩ : ∃ x : Value, x = .slice (some ⟨xb, xo, none⟩) m xc := ⟨_, rfl⟩
              have X84 := Lib.hid hx
              clear hx
              obtain ⟨x85, hx⟩ : ∃ x : Value, x = .int .i64 (t : Int) := ⟨_, rfl⟩
              have X85 := Lib.hid hx
              clear hx
              obtain ⟨x86, hx⟩ : ∃ x : Value, x = .pointer (some ⟨xb, xo + t * 4, none⟩) := ⟨_, rfl⟩
              have X86 := Lib.hid hx
              clear hx
              obtain ⟨x87, hx⟩ : ∃ x : Value, x = V z := ⟨_, rfl⟩
              have X87 := Lib.hid hx
              clear hx
              obtain ⟨x88, hx⟩ : ∃ x : Value, x = V p := ⟨_, rfl⟩
              have X88 := Lib.hid hx
              clear hx
              obtain ⟨x89, hx⟩ : ∃ x : Value, x = .slice (some ⟨yb, yo, none⟩) m yc := ⟨_, rfl⟩
              have X89 := Lib.hid hx
              clear hx
              obtain ⟨x90, hx⟩ : ∃ x : Value, x = .int .i64 (t : Int) := ⟨_, rfl⟩
              have X90 := Lib.hid hx
              clear hx
              obtain ⟨x91, hx⟩ : ∃ x : Value, x = .pointer (some ⟨yb, yo + t * 4, none⟩) := ⟨_, rfl⟩
              have X91 := Lib.hid hx
              clear hx
              obtain ⟨x92, hx⟩ : ∃ x : Value, x = V c := ⟨_, rfl⟩
              have X92 := Lib.hid hx
              clear hx
              obtain ⟨x93, hx⟩ : ∃ x : Value, x = V z := ⟨_, rfl⟩
              have X93 := Lib.hid hx
              clear hx
              obtain ⟨x94, hx⟩ : ∃ x : Value, x = .bool false := ⟨_, rfl⟩
              have X94 := Lib.hid hx
              clear hx
              refine wp_region_inv (fun a0 l a' w' => a' = (fill a0 84 [sel (l 0) x84 u84, sel (l 1) x85 u85, sel (l 2) x86 u86, sel (l 3) x87 u87, sel (l 4) x88 u88, sel (l 5) x89 u89, sel (l 6) x90 u90, sel (l 7) x91 u91, sel (l 8) x92 u92, sel (l 9) x93 u93, sel (l 10) x94 u94, u95, u96, undef]) ∧ Off (fun _ => False) wi w') (by kernel_rfl) (by kernel_rfl) ?_ ⟨?_, ?_, ?_, ?_, ?_, ?_, ?_, ?_, ?_, ?_, ?_, trivial⟩ ?_
              · refine ⟨?_, (Off.refl _ wi).drew⟩
                simp only [fill_eq, List.take_succ_cons, List.take_zero, List.cons_append, List.nil_append, sel_start]
              · as_aux_lemma =>
                  rintro l a wr ⟨ha, hO⟩ hl hd K' hK
                  have hx := X84.out; subst hx
                  simp only [fill_eq, List.take_succ_cons, List.take_zero, List.cons_append, List.nil_append] at ha
                  subst ha
                  rw [if_pos (by rfl)]
                  go_simp
                  refine hK.out _ _ ⟨?_, hO⟩
                  simp only [fill_eq, List.take_succ_cons, List.take_zero, List.cons_append, List.nil_append, sel_new]
                  rfl
              · as_aux_lemma =>
                  rintro l a wr ⟨ha, hO⟩ hl hd K' hK
                  have hx := X85.out; subst hx
                  simp only [fill_eq, List.take_succ_cons, List.take_zero, List.cons_append, List.nil_append] at ha
                  subst ha
                  rw [if_pos (by rfl)]
                  go_simp
                  refine hK.out _ _ ⟨?_, hO⟩
                  simp only [fill_eq, List.take_succ_cons, List.take_zero, List.cons_append, List.nil_append, sel_new]
                  rfl
              · as_aux_lemma =>
                  rintro l a wr ⟨ha, hO⟩ hl hd K' hK
                  have d0 := hd 0 (by decide)
                  have d1 := hd 1 (by decide)
                  have hx := X84.out; subst hx
                  have hx := X85.out; subst hx
                  have hx := X86.out; subst hx
                  simp only [fill_eq, List.take_succ_cons, List.take_zero, List.cons_append, List.nil_append, sel_of d0, sel_of d1] at ha
                  subst ha
                  rw [if_pos (by rfl)]
                  go_simp
                  refine hK.out _ _ ⟨?_, hO⟩
                  simp only [fill_eq, List.take_succ_cons, List.take_zero, List.cons_append, List.nil_append, sel_new, sel_dep d0, sel_dep d1]
                  rfl
              · as_aux_lemma =>
                  rintro l a wr ⟨ha, hO⟩ hl hd K' hK
                  have d2 := hd 2 (by decide)
                  have hx := X86.out; subst hx
                  have hx := X87.out; subst hx
                  simp only [fill_eq, List.take_succ_cons, List.take_zero, List.cons_append, List.nil_append, sel_of d2] at ha
                  subst ha
                  obtain ⟨p0, p1, p2, p3⟩ := HK1.out wr hO
                  rw [if_pos (by rfl)]
                  go_simp
                  refine hK.out _ _ ⟨?_, hO⟩
                  simp only [fill_eq, List.take_succ_cons, List.take_zero, List.cons_append, List.nil_append, sel_new, sel_dep d2]
                  rfl
              · as_aux_lemma =>
                  rintro l a wr ⟨ha, hO⟩ hl hd K' hK
                  have hx := X88.out; subst hx
                  simp only [fill_eq, List.take_succ_cons, List.take_zero, List.cons_append, List.nil_append] at ha
                  subst ha
                  obtain ⟨p0, p1, p2, p3⟩ := cells4 (hO.heap HPw.out (fun c => c))
                  have hlp := heap_lt (hO.heap HPw.out (fun c => c))
                  rw [if_pos (by rfl)]
                  go_simp
                  refine hK.out _ _ ⟨?_, hO⟩
                  simp only [fill_eq, List.take_succ_cons, List.take_zero, List.cons_append, List.nil_append, sel_new]
                  rfl
              · as_aux_lemma =>
                  rintro l a wr ⟨ha, hO⟩ hl hd K' hK
                  have hx := X89.out; subst hx
                  simp only [fill_eq, List.take_succ_cons, List.take_zero, List.cons_append, List.nil_append] at ha
                  subst ha
                  rw [if_pos (by rfl)]
                  go_simp
                  refine hK.out _ _ ⟨?_, hO⟩
                  simp only [fill_eq, List.take_succ_cons, List.take_zero, List.cons_append, List.nil_append, sel_new]
                  rfl
              · as_aux_lemma =>
                  rintro l a wr ⟨ha, hO⟩ hl hd K' hK
                  have hx := X90.out; subst hx
                  simp only [fill_eq, List.take_succ_cons, List.take_zero, List.cons_append, List.nil_append] at ha
                  subst ha
                  rw [if_pos (by rfl)]
                  go_simp
                  refine hK.out _ _ ⟨?_, hO⟩
                  simp only [fill_eq, List.take_succ_cons, List.take_zero, List.cons_append, List.nil_append, sel_new]
                  rfl
              · as_aux_lemma =>
                  rintro l a wr ⟨ha, hO⟩ hl hd K' hK
                  have d5 := hd 5 (by decide)
                  have d6 := hd 6 (by decide)
                  have hx := X89.out; subst hx
                  have hx := X90.out; subst hx
                  have hx := X91.out; subst hx
                  simp only [fill_eq, List.take_succ_cons, List.take_zero, List.cons_append, List.nil_append, sel_of d5, sel_of d6] at ha
                  subst ha
                  rw [if_pos (by rfl)]
                  go_simp
                  refine hK.out _ _ ⟨?_, hO⟩
                  simp only [fill_eq, List.take_succ_cons, List.take_zero, List.cons_append, List.nil_append, sel_new, sel_dep d5, sel_dep d6]
                  rfl
              · as_aux_lemma =>
                  rintro l a wr ⟨ha, hO⟩ hl hd K' hK
                  have d7 := hd 7 (by decide)
                  have hx := X91.out; subst hx
                  have hx := X92.out; subst hx
                  simp only [fill_eq, List.take_succ_cons, List.take_zero, List.cons_append, List.nil_append, sel_of d7] at ha
                  subst ha
                  obtain ⟨p0, p1, p2, p3⟩ := HK2.out wr hO
                  rw [if_pos (by rfl)]
                  go_simp
                  refine hK.out _ _ ⟨?_, hO⟩
                  simp only [fill_eq, List.take_succ_cons, List.take_zero, List.cons_append, List.nil_append, sel_new, sel_dep d7]
                  rfl
              · as_aux_lemma =>
                  rintro l a wr ⟨ha, hO⟩ hl hd K' hK
                  have d4 := hd 4 (by decide)
                  have d8 := hd 8 (by decide)
                  have hx := X88.out; subst hx
                  have hx := X92.out; subst hx
                  have hx := X93.out; subst hx
                  simp only [fill_eq, List.take_succ_cons, List.take_zero, List.cons_append, List.nil_append, sel_of d4, sel_of d8] at ha
                  subst ha
                  rw [if_pos (by rfl)]
                  go_simp
                  refine (held_inv (FFo.out wr) hO).mono ?_
                  rintro e w1 ⟨rfl, hO1, hOW⟩
                  go_wp2_with fail
                  refine hK.out _ _ ⟨?_, hO1⟩
                  simp only [fill_eq, List.take_succ_cons, List.take_zero, List.cons_append, List.nil_append, sel_new, sel_dep d4, sel_dep d8]
                  rfl
              · as_aux_lemma =>
                  rintro l a wr ⟨ha, hO⟩ hl hd K' hK
                  have d3 := hd 3 (by decide)
                  have d9 := hd 9 (by decide)
                  have hx := X87.out; subst hx
                  have hx := X93.out; subst hx
                  have hx := X94.out; subst hx
                  simp only [fill_eq, List.take_succ_cons, List.take_zero, List.cons_append, List.nil_append, sel_of d3, sel_of d9] at ha
                  subst ha
                  have e1 := equalIn_elem_same
                  rw [if_pos (by rfl)]
                  go_simp
                  refine hK.out _ _ ⟨?_, hO⟩
                  simp only [fill_eq, List.take_succ_cons, List.take_zero, List.cons_append, List.nil_append, sel_new, sel_dep d3, sel_dep d9]
                  rfl
              · rintro l a wc ⟨ha, hO⟩ hd
                simp only [fill_eq, List.take_succ_cons, List.take_zero, List.cons_append, List.nil_append, sel_of (hd 0 (by decide)), sel_of (hd 1 (by decide)), sel_of (hd 2 (by decide)), sel_of (hd 3 (by decide)), sel_of (hd 4 (by decide)), sel_of (hd 5 (by decide)), sel_of (hd 6 (by decide)), sel_of (hd 7 (by decide)), sel_of (hd 8 (by decide)), sel_of (hd 9 (by decide)), sel_of (hd 10 (by decide))] at ha
                subst ha
                have hx := X94.out; subst hx
                have HOz := Lib.hid (HOi.out.trans hO (fun _ _ c => c))
                clear hO hd
                go_wp2
                go_roundw
                case rel => exact ⟨t + 1, by omega, by simp, HOz.out⟩
                case measure => simp [intOf]; omega
            · obtain rfl : t = m := by omega
              have i2 : ¬ (t : Int) < (t : Int) := by omega
              have HOz := Lib.hid (HOe.out.trans hO (fun _ _ c => c))
              have HPz := Lib.hid (HPe.out.keep hO)
              have HRz := Lib.hid (HRe.out.keep hO)
              clear hO
              go_wp2
              go_roundw
              case rel => exact ⟨k + 1, rest, by omega, by simp, HRl.out.1, HPz.out, HRz.out, HOz.out⟩
              case measure => simp [intOf]; omega
      · obtain rfl : k = n2 := by omega
        have i1 : ¬ (k : Int) < (k : Int) := by omega
        have HO := Lib.hid (HO0.out.trans hO (fun _ _ c => c))
        clear hPs hRs hO
        go_wp2_with fail
        refine (FAL.out _ (HT.out.off HO.out)).mono ?_
        rintro e u ⟨rfl, hOf⟩
        have HOf := Lib.hid (HO.out.trans hOf (fun _ _ c => c))
        clear hOf
        go_wp2
        go_ret
        exact ⟨rfl, HOf.out⟩

theorem door_met (os : Os) (args : Array Value) : laidMetH Tryd.prog [("sharecore/field.fields", Rows.laid_sharecore_field_fields)] ((World.doorLaid Tryd.prog 400 os).forCall (fun _ _ => 0) ⟨#[], args, []⟩).memory :=
  laidMetH_of_parts3 (fuel := 8) (laidMet_of_run' 8 (by kernel_rfl) (by kernel_rfl)) (by kernel_rfl) (by kernel_rfl)

set_option maxRecDepth 100000 in
theorem lifted (os : Os) (started : os.Started) (H : Type) (enc : TypeId × Value → H) :
    ReturnsInHanded {} Tryd.checked os 4 .any (fun w args => (Rows.sourceElementsSpec.pre enc Tryd.prog Tryd.f4 [] false w args ∧ laidMetH Tryd.prog [("sharecore/field.fields", Rows.laid_sharecore_field_fields)] w) ∧ sizedMet enc Tryd.prog Tryd.f4 (OpenSpec.ofChange Rows.sourceElementsSpec) false w args)
      (Rows.sourceElementsSpec.post enc Tryd.prog Tryd.f4 false true false false) := by
  refine returnsInHanded_of_change_and (C := Tryd.checked) (X := fun w _ => laidMetH Tryd.prog [("sharecore/field.fields", Rows.laid_sharecore_field_fields)] w) (fun _ _ _ hh h => h.of_heap hh) own started (by kernel_rfl) Tryd.func4
    (ChangeSpec.witness_shaped (enc := enc) (C := Tryd.checked) (os := os) (X := fun w _ => laidMetH Tryd.prog [("sharecore/field.fields", Rows.laid_sharecore_field_fields)] w) false (World.doorLaid Tryd.prog 400 os) #[.bool false, .slice none 0 0, .slice none 0 0] 8 rfl (World.shaped_of_RefB (by kernel_rfl) (by kernel_rfl)) (by kernel_rfl) (by kernel_rfl) (by kernel_rfl) (door_met os _)) ?_
  intro W base args ds gs before hval0 hW _ hsz hL _
  have hval : ∀ (j : Nat) t v, Tryd.f4.params[j]? = some t → args[j]? = some v → Value.okWide Tryd.prog W .any base t v := hval0
  have hW' := hW
  obtain ⟨p, q, hA0, hV, rfl, hfz, hnd⟩ := hW
  have hA : DataW.TrodAll enc Tryd.prog W 0 (fun _ => true) true Tryd.f4.params.toList args.toList ds p := hA0
  rw [Tryd.params4] at hA hval
  obtain ⟨v0, vs0, d0, ds0, p0, q0, hargs, rfl, rfl, h0, r0⟩ := trodAll_cons hA
  obtain ⟨v1, vs1, d1, ds1, p1, q1, rfl, rfl, rfl, h1, r1⟩ := trodAll_cons r0
  obtain ⟨v2, vs2, d2, ds2, p2, q2, rfl, rfl, rfl, h2, r2⟩ := trodAll_cons r1
  obtain ⟨rfl, rfl, rfl⟩ := trodAll_nil r2
  obtain rfl : args = #[v0, v1, v2] := by cases args; simp_all
  obtain ⟨rfl, rfl⟩ := trodVars_none hV
  obtain ⟨i0, rfl, rfl, rfl⟩ := open_bool Tryd.underlying4 (hval 0 4 v0 rfl rfl) h0
  have w0 := trivial
  obtain ⟨a1, n1, cap1, rfl⟩ := okWide_slice Tryd.underlying22 (hval 1 22 v1 rfl rfl)
  have k1 := h1
  have lt1 : ∀ x ∈ p1, x.block < W.heap.size := by obtain ⟨m, hm⟩ := k1; exact DataW.trod_lt m _ _ _ hm
  obtain ⟨bs1, hn1, hc1, hs1, w1⟩ : ∃ bs, n1 = bs.length ∧ n1 ≤ cap1 ∧ Small bs ∧ BsAt W a1 bs (fun k => k < W.heap.size) := by
    obtain ⟨fuel, hf⟩ := h1
    exact bytes_of_trod hf
  obtain ⟨a2, n2, cap2, rfl⟩ := okWide_slice Tryd.underlying23 (hval 2 23 v2 rfl rfl)
  have k2 := h2
  have lt2 : ∀ x ∈ p2, x.block < W.heap.size := by obtain ⟨m, hm⟩ := k2; exact DataW.trod_lt m _ _ _ hm
  obtain ⟨is2, hn2, w2⟩ : ∃ xs, n2 = xs.length ∧ IvAt W (.slice a2 n2 cap2) xs (fun k => k < W.heap.size) := by
    obtain ⟨fuel, hf⟩ := h2
    exact ints_of_trod hf
  have hT := tab_of_laid hL
  clear hA0 hval0
  refine (walk i0 a1 n1 cap1 bs1 a2 n2 cap2 is2 W w0 hn1 hc1 hs1 w1 hn2 w2 hT).mono fun e W' ⟨he, hoff⟩ => ?_
  have bel : Below W.heap.size W W' := hoff.below (Nat.le_refl _) (fun _ _ c => c)
  subst he
  exact ⟨_, rfl, _, _, _, [], _, [], hW', trodAll_mk1 (shut_bool Tryd.underlying4 _), (trodAll_cons_mk (shut_bool Tryd.underlying4 _) (trodAll_cons_mk (Below.trod laidOut (by kernel_rfl) (of_decide_eq_true (by kernel_rfl)) k1 bel lt1) (trodAll_cons_mk (Below.trod laidOut (by kernel_rfl) (of_decide_eq_true (by kernel_rfl)) k2 bel lt2) trodAll_mk0))), rfl, bel.frame _, fun h => by cases h⟩

theorem over : Rows.sourceElementsRow.holds Tryd.pinned (OpenSpec.ofChange Rows.sourceElementsSpec) :=
  OpenClaim.holds_of_wide 4 Tryd.f4 rfl rfl rfl rfl rfl rfl rfl ⟨rfl, rfl, rfl, rfl, rfl⟩ rfl rfl rfl rfl rfl (by kernel_rfl) Tryd.func4 (by kernel_rfl)
    (of_decide_eq_true (by kernel_rfl)) (by unfold Func.isWrapper; first | (rw [if_pos (by decide +kernel)]; kernel_rfl) | (rw [if_neg (by decide +kernel)]; exact ⟨rfl, rfl⟩))
    (fun os started H enc _ => lifted os started H enc)

theorem proved : Rows.SourceElementsCardSaid :=
  Claim7.holds_tied_plain_at .later [] [.data] true (true, "6f64277cbffadd23f4f09293482bc941ab7d4d501c3abca4f435855ccbd2f86e") false
    over (fun _ h => by cases h) (by kernel_rfl) (fun _ h => by cases h) sourceElements_row_tie rfl ⟨rfl, rfl⟩ (by kernel_rfl) rfl
    (fun f fn hf hfn => by
      obtain rfl : f = 4 := Option.some.inj ((show Tryd.prog.funcNamed "sharecore/sharecorelaw14.SourceElements" = some 4 by kernel_rfl).symm.trans hf) |>.symm
      obtain rfl : fn = Tryd.f4 := (Option.some.inj (Tryd.func4.symm.trans hfn)).symm
      exact ⟨by kernel_rfl, fun j t ht => by
        rw [Tryd.params4] at ht
        have hm : t ∈ [4, 22, 23] := by simpa using Array.mem_of_getElem? ht
        have hall : ([4, 22, 23].all fun u => !Tryd.prog.wantsStandIn u) = true := by kernel_rfl
        exact (show Tryd.prog.wantsStandIn t = false by simpa using List.all_eq_true.1 hall t hm)⟩)
    (by kernel_rfl)
#print axioms proved
end Go.Proofs.YtpiialjnjfkfeaaDoor.sourceElements
