/-
  For all bytes and every sequence of numbers, Take and Left return the same results as the reference: the statement of P14.1, P14.2 and P14.4. No condition.
-/
import Derived.Test.YtpiialjnjfkfeaaDoorRows
import Derived.Test.YtpiialjnjfkfeaaDoorTie
import Derived.Test.YtpiialjnjfkfeaaDoorCards
import Derived.LaidMore
import Derived.LaidHandle
import Derived.SevenTiedAt
import Derived.Stop.Joined
import Derived.JoinedOf
import Derived.Test.YtpiialjnjfkfeaaDoorLimbOpen
import Derived.Test.YtpiialjnjfkfeaaDoorFieldTab
import Derived.Test.YtpiialjnjfkfeaaDoorFieldHeld
import Derived.Test.YtpiialjnjfkfeaaDoorBytOpen
import Derived.Test.YtpiialjnjfkfeaaDoorIntOpen
import Derived.Test.YtpiialjnjfkfeaaDoorSrcAlive
import Derived.Test.YtpiialjnjfkfeaaDoorInvClo
import Derived.WalkKit
import Derived.ProofKit
import Derived.OpenShut
import Derived.ShutString
import Derived.ChangeOld
import Derived.Below
namespace Go.Proofs.YtpiialjnjfkfeaaDoor.sourceTakes
open Go.ChangeShapes Go.WideShapes Go.ChangeAt Go.RowKit
set_option linter.unusedVariables false

theorem own : ownKnob Tryd.prog.godebug = none := by kernel_rfl
theorem laidOut : laidOutB Tryd.prog = true := by kernel_rfl

set_option maxRecDepth 100000 in
set_option maxHeartbeats 4000000 in
theorem walk (a0 : Option Addr) (n0 cap0 : Nat) (bs0 : List Nat) (a1 : Option Addr) (n1 cap1 : Nat) (is1 : List Int) (w : World) (hn0 : n0 = bs0.length) (hc0 : n0 ≤ cap0) (hs0 : Small bs0) (w0 : BsAt w a0 bs0 (fun k => k < w.heap.size)) (hn1 : n1 = is1.length) (w1 : IvAt w (.slice a1 n1 cap1) is1 (fun k => k < w.heap.size)) (hT : TabAt w) :
    Calls Tryd.prog 3 #[.slice a0 n0 cap0, .slice a1 n1 cap1] w fun e w' => e = .returned (.bool true) ∧ Off (fun _ => False) w w' := by
  have FAL : Hid (∀ W, TabAt W → Calls Tryd.prog 9 #[] W fun e w' => e = .returned (.bool true) ∧ Off (fun _ => False) W w') := Lib.hid (fun W hT => alive14_any W hT)
  have HT := Lib.hid hT
  clear hT
  by_cases hbig : 2000 < n0
  · have j1 : (2000 : Int) < (n0 : Int) := by omega
    have j2 : decide ((2000 : Int) < (n0 : Int)) = true := by simp; omega
    go_enter Tryd.func3, Tryd.ntmps3
    go_wp2_with fail
    refine (FAL.out _ HT.out).mono ?_
    rintro e u ⟨rfl, hO⟩
    have HOf := Lib.hid hO
    clear hO
    go_wp2
    go_ret
    exact ⟨rfl, HOf.out⟩
  by_cases hbig2 : 100 < n1
  · have j1 : ¬ (2000 : Int) < (n0 : Int) := by omega
    have j2 : decide ((2000 : Int) < (n0 : Int)) = false := by simp; omega
    have j3 : (100 : Int) < (n1 : Int) := by omega
    have j4 : decide ((100 : Int) < (n1 : Int)) = true := by simp; omega
    go_enter Tryd.func3, Tryd.ntmps3
    go_wp2_with fail
    refine (FAL.out _ HT.out).mono ?_
    rintro e u ⟨rfl, hO⟩
    have HOf := Lib.hid hO
    clear hO
    go_wp2
    go_ret
    exact ⟨rfl, HOf.out⟩
  · have j1 : ¬ (2000 : Int) < (n0 : Int) := by omega
    have j2 : decide ((2000 : Int) < (n0 : Int)) = false := by simp; omega
    have j3 : ¬ (100 : Int) < (n1 : Int) := by omega
    have j4 : decide ((100 : Int) < (n1 : Int)) = false := by simp; omega
    have FN := Lib.hid (new_any a0 n0 cap0 bs0 _ w w0 hn0 hc0 hs0 (by omega))
    have HIv := Lib.hid w1
    have HN0 := Lib.hid (show n0 = bs0.length ∧ n0 ≤ cap0 ∧ n0 ≤ 2000 ∧ n1 ≤ 100 from ⟨hn0, hc0, by omega, by omega⟩)
    have HB0 := Lib.hid w0
    have HSm := Lib.hid hs0
    clear w0 w1 hn0 hc0 hs0 hn1 hbig hbig2
    go_enter Tryd.func3, Tryd.ntmps3
    go_wp2_with fail
    refine FN.out.mono ?_
    rintro e u1 ⟨b1, S1, rfl, hP, hS, hO⟩
    have HP1 := Lib.hid hP
    have HS1 := Lib.hid hS
    have HO1 := Lib.hid hO
    clear hP hS hO FN
    go_wp2_with fail
    refine (left_any b1 _ S1 _ HP1.out).mono ?_
    rw [← HN0.out.1]
    rintro e u2 ⟨rfl, hO⟩
    have HP2 := Lib.hid (HP1.out.keep hO)
    have HO2 := Lib.hid (HO1.out.trans hO (fun _ _ c => c))
    have HB1 := Lib.hid (show w.heap.size ≤ b1 ∧ b1 < u2.heap.size from ⟨HS1.out b1 HP1.out.mem, HP2.out.lt b1 HP2.out.mem⟩)
    clear hO
    have k1 : ((n0 : Int) != (n0 : Int)) = false := by simp
    go_wp2
    obtain ⟨W0, hW0⟩ : ∃ W0, W0 = u2.alloc (.cells #[.slice a0 n0 cap0] 30) := ⟨_, rfl⟩
    have g0 : W0.heap[u2.heap.size]? = some (.cells #[.slice a0 n0 cap0] 30 (0, 0)) := by rw [hW0]; exact heap_new' rfl _
    have hA0 : Off (fun _ => False) u2 W0 := by rw [hW0]; exact (Off.refl _ u2).alloc _
    obtain ⟨qb, hqb⟩ : ∃ qb, qb = u2.heap.size := ⟨_, rfl⟩
    rw [← hW0, ← hqb]
    rw [← hqb] at g0
    have HP0 := Lib.hid (HP2.out.keep hA0)
    have HO0 := Lib.hid (HO2.out.trans hA0 (fun _ _ c => c))
    have HR0 := Lib.hid (show RefP W0 qb bs0 (fun k => k < w.heap.size) from ⟨a0, cap0, by rw [← HN0.out.1]; exact g0, by rw [← HN0.out.1]; exact HN0.out.2.1, HB0.out.off HO0.out (fun _ _ _ c => c)⟩)
    have HQb := Lib.hid (show w.heap.size ≤ qb ∧ b1 ≠ qb ∧ qb < W0.heap.size ∧ S1 b1 ∧ ¬ S1 qb by
      have h1 := HB1.out
      have h2 := HO2.out.size
      refine ⟨by omega, by omega, heap_lt g0, HP2.out.mem, fun h => ?_⟩
      have := HP2.out.lt qb h
      omega)
    have hn1' : n1 ≤ 100 := HN0.out.2.2.2
    have hqw := HQb.out.1
    clear hW0 g0 hA0 hqb HO1 HO2 HP1 HP2 HB1 k1 hqw
    go_loopw [38] (fun i wr => ∃ (k : Nat) (rs : List Nat), k ≤ n1 ∧ i = .int .i64 (k : Int) ∧ rs.length ≤ 2000 ∧ SrcP wr b1 rs S1 ∧ RefP wr qb rs (fun k => k < w.heap.size) ∧ Off (fun _ => False) w wr) (fun i _ => n1 - (intOf i).toNat)
    case atStart => exact ⟨0, bs0, Nat.zero_le _, rfl, by have := HN0.out; omega, HP0.out, HR0.out, HO0.out⟩
    case round =>
      obtain ⟨k, rs, hk, rfl, hrl, hPs, hRs, hO⟩ := hrel
      by_cases hlt : k < n1
      · have hiv := HIv.out.off hO (fun _ _ _ c => c)
        have hwf := hiv.len.2.2
        obtain ⟨x, ab, off, hxk, rfl, hcx⟩ := hiv.at hlt
        have hx := hwf x (List.mem_of_getElem? hxk)
        have i1 : (k : Int) < (n1 : Int) := by omega
        have w2 : IntKind.i64.wrap ((k : Int) + 1) = (k : Int) + 1 := by rw [IntKind.wrap_i64]; omega
        have hsm := takeV_rest rs x
        obtain ⟨T, hT⟩ : ∃ T, T = takeV rs x := ⟨_, rfl⟩
        have FT := Lib.hid (take_any b1 rs S1 x hx wr hPs (by omega))
        have FR := Lib.hid (fun (W : World) (h : Off (fun j => j = b1) wr W) => reftake_any qb rs (fun k => k < w.heap.size) x hx W (hRs.off h (fun e => by have := HQb.out; omega) (fun j _ h1 h2 => by have := HQb.out; have := HS1.out b1 this.2.2.2.1; omega)) (fun j hj e => by have := HQb.out; omega))
        rw [← hT] at FT FR hsm
        obtain ⟨out, er, rest⟩ := T
        dsimp only at hsm
        have HRl := Lib.hid (show rest.length ≤ 2000 by omega)
        have HO := Lib.hid hO
        have HLt := Lib.hid (show b1 < wr.heap.size ∧ qb < wr.heap.size from ⟨hPs.lt b1 hPs.mem, hRs.lt⟩)
        clear hPs hRs hO hwf hiv hxk hx hT hsm hrl
        go_wp2_with fail
        refine FT.out.mono ?_
        rintro e u3 ⟨v3, rfl, hR3, hP3, hO3⟩
        try dsimp only at hR3 hP3
        have HR3 := Lib.hid hR3
        have HP3 := Lib.hid hP3
        have HO3 := Lib.hid hO3
        clear hR3 hP3 hO3
        go_wp2_with fail
        refine (FR.out _ HO3.out).mono ?_
        rintro e u4 ⟨a4, m4, c4, rfl, hm4, hc4, hb4, hR4, hO4⟩
        try dsimp only at hm4 hb4 hR4
        obtain ⟨wq, hwq⟩ : ∃ wq, wq = u4 := ⟨_, rfl⟩
        rw [← hwq] at hb4 hR4 hO4 ⊢
        have FE := Lib.hid (fun (W : World) (h : Off (fun _ => False) wq W) => bequal_sv ((row_sv14 (RowT.offB HR3.out hO4 (fun j h1 e => by have := HLt.out; omega))).off h) (⟨a4, m4, c4, rfl, hm4, hc4, (hb4.off h (fun _ _ _ c => c)).mono (fun _ _ _ => trivial)⟩ : SvAt W _ out))
        have hPq := HP3.out.off hO4 (fun j _ h1 e => HQb.out.2.2.2.2 (e ▸ h1))
        have HPq := Lib.hid hPq
        obtain ⟨q, hq⟩ : ∃ q, q = rest.length := ⟨_, rfl⟩
        have FL := Lib.hid (fun (W : World) (h : Off (fun _ => False) wq W) => left_any b1 rest S1 W (HPq.out.keep h))
        rw [← hq] at FL
        have HRq := Lib.hid hR4
        obtain ⟨ra, rc, hq0, hq1, hq2⟩ := hR4
        rw [← hq] at hq0
        have HQ := Lib.hid hq0
        have HOq := Lib.hid ((HO.out.trans HO3.out (fun j hj e => by have := HQb.out; have := HS1.out b1 this.2.2.2.1; omega)).trans hO4 (fun j hj e => by have := HQb.out; omega))
        clear hPq hq hq0 hq1 hq2 hm4 hc4 hb4 hO4 hwq HR3 FT FR
        go_upto_region 12 with fail
        obtain ⟨x54, hx⟩ : ∃ x : Value, x = v3 := ⟨_, rfl⟩
        have X54 := Lib.hid hx
        clear hx
        obtain ⟨x55, hx⟩ : ∃ x : Value, x = .slice a4 m4 c4 := ⟨_, rfl⟩
        have X55 := Lib.hid hx
        clear hx
        obtain ⟨x56, hx⟩ : ∃ x : Value, x = .bool true := ⟨_, rfl⟩
        have X56 := Lib.hid hx
        clear hx
        obtain ⟨x57, hx⟩ : ∃ x : Value, x = .bool false := ⟨_, rfl⟩
        have X57 := Lib.hid hx
        clear hx
        obtain ⟨x58, hx⟩ : ∃ x : Value, x = .bool false := ⟨_, rfl⟩
        have X58 := Lib.hid hx
        clear hx
        obtain ⟨x59, hx⟩ : ∃ x : Value, x = .int .i64 (er : Int) := ⟨_, rfl⟩
        have X59 := Lib.hid hx
        clear hx
        obtain ⟨x60, hx⟩ : ∃ x : Value, x = .int .i64 (er : Int) := ⟨_, rfl⟩
        have X60 := Lib.hid hx
        clear hx
        obtain ⟨x61, hx⟩ : ∃ x : Value, x = .bool false := ⟨_, rfl⟩
        have X61 := Lib.hid hx
        clear hx
        obtain ⟨x62, hx⟩ : ∃ x : Value, x = .bool false := ⟨_, rfl⟩
        have X62 := Lib.hid hx
        clear hx
        obtain ⟨x63, hx⟩ : ∃ x : Value, x = .bool false := ⟨_, rfl⟩
        have X63 := Lib.hid hx
        clear hx
        obtain ⟨x64, hx⟩ : ∃ x : Value, x = .pointer (some ⟨b1, 0, none⟩) := ⟨_, rfl⟩
        have X64 := Lib.hid hx
        clear hx
        obtain ⟨x65, hx⟩ : ∃ x : Value, x = .int .i64 (q : Int) := ⟨_, rfl⟩
        have X65 := Lib.hid hx
        clear hx
        obtain ⟨x66, hx⟩ : ∃ x : Value, x = .pointer (some ⟨qb, 0, none⟩) := ⟨_, rfl⟩
        have X66 := Lib.hid hx
        clear hx
        obtain ⟨x67, hx⟩ : ∃ x : Value, x = .pointer (some ⟨qb, 0, none⟩) := ⟨_, rfl⟩
        have X67 := Lib.hid hx
        clear hx
        obtain ⟨x68, hx⟩ : ∃ x : Value, x = .pointer (some ⟨qb, 0, none⟩) := ⟨_, rfl⟩
        have X68 := Lib.hid hx
        clear hx
        obtain ⟨x69, hx⟩ : ∃ x : Value, x = .slice ra q rc := ⟨_, rfl⟩
        have X69 := Lib.hid hx
        clear hx
        obtain ⟨x70, hx⟩ : ∃ x : Value, x = .int .i64 (q : Int) := ⟨_, rfl⟩
        have X70 := Lib.hid hx
        clear hx
        obtain ⟨x71, hx⟩ : ∃ x : Value, x = .bool false := ⟨_, rfl⟩
        have X71 := Lib.hid hx
        clear hx
        obtain ⟨x72, hx⟩ : ∃ x : Value, x = .bool false := ⟨_, rfl⟩
        have X72 := Lib.hid hx
        clear hx
        refine wp_region_inv (fun a0 l a' w' => a' = (fill a0 54 [sel (l 0) x54 u54, sel (l 1) x55 u55, sel (l 2) x56 u56, sel (l 3) x57 u57, sel (l 4) x58 u58, sel (l 5) x59 u59, sel (l 6) x60 u60, sel (l 7) x61 u61, sel (l 8) x62 u62, sel (l 9) x63 u63, sel (l 10) x64 u64, sel (l 11) x65 u65, sel (l 12) x66 u66, sel (l 13) x67 u67, sel (l 14) x68 u68, sel (l 15) x69 u69, sel (l 16) x70 u70, sel (l 17) x71 u71, sel (l 18) x72 u72, u73, undef]) ∧ Off (fun _ => False) wq w') (by kernel_rfl) (by kernel_rfl) ?_ ⟨?_, ?_, ?_, ?_, ?_, ?_, ?_, ?_, ?_, ?_, ?_, ?_, ?_, ?_, ?_, ?_, ?_, ?_, ?_, trivial⟩ ?_
        · refine ⟨?_, (Off.refl _ wq).drew⟩
          simp only [fill_eq, List.take_succ_cons, List.take_zero, List.cons_append, List.nil_append, sel_start]
        · as_aux_lemma =>
            rintro l a wr ⟨ha, hO⟩ hl hd K' hK
            have hx := X54.out; subst hx
            simp only [fill_eq, List.take_succ_cons, List.take_zero, List.cons_append, List.nil_append] at ha
            subst ha
            rw [if_pos (by rfl)]
            go_simp
            refine hK.out _ _ ⟨?_, hO⟩
            simp only [fill_eq, List.take_succ_cons, List.take_zero, List.cons_append, List.nil_append, sel_new]
            rfl
        · as_aux_lemma =>
            rintro l a wr ⟨ha, hO⟩ hl hd K' hK
            have hx := X55.out; subst hx
            simp only [fill_eq, List.take_succ_cons, List.take_zero, List.cons_append, List.nil_append] at ha
            subst ha
            rw [if_pos (by rfl)]
            go_simp
            refine hK.out _ _ ⟨?_, hO⟩
            simp only [fill_eq, List.take_succ_cons, List.take_zero, List.cons_append, List.nil_append, sel_new]
            rfl
        · as_aux_lemma =>
            rintro l a wr ⟨ha, hO⟩ hl hd K' hK
            have d0 := hd 0 (by decide)
            have d1 := hd 1 (by decide)
            have hx := X54.out; subst hx
            have hx := X55.out; subst hx
            have hx := X56.out; subst hx
            simp only [fill_eq, List.take_succ_cons, List.take_zero, List.cons_append, List.nil_append, sel_of d0, sel_of d1] at ha
            subst ha
            rw [if_pos (by rfl)]
            go_simp
            refine (held_inv (FE.out wr hO) hO).mono ?_
            rintro e w1 ⟨rfl, hO1, hOW⟩
            go_wp2_with fail
            refine hK.out _ _ ⟨?_, hO1⟩
            simp only [fill_eq, List.take_succ_cons, List.take_zero, List.cons_append, List.nil_append, sel_new, sel_dep d0, sel_dep d1]
            rfl
        · as_aux_lemma =>
            rintro l a wr ⟨ha, hO⟩ hl hd K' hK
            have d2 := hd 2 (by decide)
            have hx := X56.out; subst hx
            have hx := X57.out; subst hx
            simp only [fill_eq, List.take_succ_cons, List.take_zero, List.cons_append, List.nil_append, sel_of d2] at ha
            subst ha
            rw [if_pos (by rfl)]
            go_simp
            refine hK.out _ _ ⟨?_, hO⟩
            simp only [fill_eq, List.take_succ_cons, List.take_zero, List.cons_append, List.nil_append, sel_new, sel_dep d2]
            rfl
        · as_aux_lemma =>
            rintro l a wr ⟨ha, hO⟩ hl hd K' hK
            have d3 := hd 3 (by decide)
            have hx := X57.out; subst hx
            have hx := X58.out; subst hx
            simp only [fill_eq, List.take_succ_cons, List.take_zero, List.cons_append, List.nil_append, sel_of d3] at ha
            subst ha
            rw [if_pos (by rfl)]
            go_simp
            refine hK.out _ _ ⟨?_, hO⟩
            simp only [fill_eq, List.take_succ_cons, List.take_zero, List.cons_append, List.nil_append, sel_new, sel_dep d3]
            rfl
        · as_aux_lemma =>
            rintro l a wr ⟨ha, hO⟩ hl hd K' hK
            have d4 := hd 4 (by decide)
            have hx := X58.out; subst hx
            have hx := X59.out; subst hx
            simp only [fill_eq, List.take_succ_cons, List.take_zero, List.cons_append, List.nil_append, sel_of d4] at ha
            subst ha
            rw [if_pos (by rfl)]
            go_simp
            refine hK.out _ _ ⟨?_, hO⟩
            simp only [fill_eq, List.take_succ_cons, List.take_zero, List.cons_append, List.nil_append, sel_new, sel_dep d4]
            rfl
        · as_aux_lemma =>
            rintro l a wr ⟨ha, hO⟩ hl hd K' hK
            have d4 := hd 4 (by decide)
            have hx := X58.out; subst hx
            have hx := X60.out; subst hx
            simp only [fill_eq, List.take_succ_cons, List.take_zero, List.cons_append, List.nil_append, sel_of d4] at ha
            subst ha
            rw [if_pos (by rfl)]
            go_simp
            refine hK.out _ _ ⟨?_, hO⟩
            simp only [fill_eq, List.take_succ_cons, List.take_zero, List.cons_append, List.nil_append, sel_new, sel_dep d4]
            rfl
        · as_aux_lemma =>
            rintro l a wr ⟨ha, hO⟩ hl hd K' hK
            have d4 := hd 4 (by decide)
            have d5 := hd 5 (by decide)
            have d6 := hd 6 (by decide)
            have hx := X58.out; subst hx
            have hx := X59.out; subst hx
            have hx := X60.out; subst hx
            have hx := X61.out; subst hx
            simp only [fill_eq, List.take_succ_cons, List.take_zero, List.cons_append, List.nil_append, sel_of d4, sel_of d5, sel_of d6] at ha
            subst ha
            rw [if_pos (by rfl)]
            go_simp
            refine hK.out _ _ ⟨?_, hO⟩
            simp only [fill_eq, List.take_succ_cons, List.take_zero, List.cons_append, List.nil_append, sel_new, sel_dep d4, sel_dep d5, sel_dep d6]
            rfl
        · as_aux_lemma =>
            rintro l a wr ⟨ha, hO⟩ hl hd K' hK
            have d4 := hd 4 (by decide)
            have d7 := hd 7 (by decide)
            have hx := X58.out; subst hx
            have hx := X61.out; subst hx
            have hx := X62.out; subst hx
            simp only [fill_eq, List.take_succ_cons, List.take_zero, List.cons_append, List.nil_append, sel_of d4, sel_of d7] at ha
            subst ha
            rw [if_pos (by rfl)]
            go_simp
            refine hK.out _ _ ⟨?_, hO⟩
            simp only [fill_eq, List.take_succ_cons, List.take_zero, List.cons_append, List.nil_append, sel_new, sel_dep d4, sel_dep d7]
            rfl
        · as_aux_lemma =>
            rintro l a wr ⟨ha, hO⟩ hl hd K' hK
            have d8 := hd 8 (by decide)
            have hx := X62.out; subst hx
            have hx := X63.out; subst hx
            simp only [fill_eq, List.take_succ_cons, List.take_zero, List.cons_append, List.nil_append, sel_of d8] at ha
            subst ha
            rw [if_pos (by rfl)]
            go_simp
            refine hK.out _ _ ⟨?_, hO⟩
            simp only [fill_eq, List.take_succ_cons, List.take_zero, List.cons_append, List.nil_append, sel_new, sel_dep d8]
            rfl
        · as_aux_lemma =>
            rintro l a wr ⟨ha, hO⟩ hl hd K' hK
            have d9 := hd 9 (by decide)
            have hx := X63.out; subst hx
            have hx := X64.out; subst hx
            simp only [fill_eq, List.take_succ_cons, List.take_zero, List.cons_append, List.nil_append, sel_of d9] at ha
            subst ha
            rw [if_pos (by rfl)]
            go_simp
            refine hK.out _ _ ⟨?_, hO⟩
            simp only [fill_eq, List.take_succ_cons, List.take_zero, List.cons_append, List.nil_append, sel_new, sel_dep d9]
            rfl
        · as_aux_lemma =>
            rintro l a wr ⟨ha, hO⟩ hl hd K' hK
            have d9 := hd 9 (by decide)
            have d10 := hd 10 (by decide)
            have hx := X63.out; subst hx
            have hx := X64.out; subst hx
            have hx := X65.out; subst hx
            simp only [fill_eq, List.take_succ_cons, List.take_zero, List.cons_append, List.nil_append, sel_of d9, sel_of d10] at ha
            subst ha
            rw [if_pos (by rfl)]
            go_simp
            refine (held_inv (FL.out wr hO) hO).mono ?_
            rintro e w1 ⟨rfl, hO1, hOW⟩
            go_wp2_with fail
            refine hK.out _ _ ⟨?_, hO1⟩
            simp only [fill_eq, List.take_succ_cons, List.take_zero, List.cons_append, List.nil_append, sel_new, sel_dep d9, sel_dep d10]
            rfl
        · as_aux_lemma =>
            rintro l a wr ⟨ha, hO⟩ hl hd K' hK
            have d9 := hd 9 (by decide)
            have hx := X63.out; subst hx
            have hx := X66.out; subst hx
            simp only [fill_eq, List.take_succ_cons, List.take_zero, List.cons_append, List.nil_append, sel_of d9] at ha
            subst ha
            rw [if_pos (by rfl)]
            go_simp
            refine hK.out _ _ ⟨?_, hO⟩
            simp only [fill_eq, List.take_succ_cons, List.take_zero, List.cons_append, List.nil_append, sel_new, sel_dep d9]
            rfl
        · as_aux_lemma =>
            rintro l a wr ⟨ha, hO⟩ hl hd K' hK
            have d9 := hd 9 (by decide)
            have d12 := hd 12 (by decide)
            have hx := X63.out; subst hx
            have hx := X66.out; subst hx
            have hx := X67.out; subst hx
            simp only [fill_eq, List.take_succ_cons, List.take_zero, List.cons_append, List.nil_append, sel_of d9, sel_of d12] at ha
            subst ha
            have hlq := heap_lt (hO.heap HQ.out (fun c => c))
            rw [if_pos (by rfl)]
            go_simp
            refine hK.out _ _ ⟨?_, hO⟩
            simp only [fill_eq, List.take_succ_cons, List.take_zero, List.cons_append, List.nil_append, sel_new, sel_dep d9, sel_dep d12]
            rfl
        · as_aux_lemma =>
            rintro l a wr ⟨ha, hO⟩ hl hd K' hK
            have d9 := hd 9 (by decide)
            have d13 := hd 13 (by decide)
            have hx := X63.out; subst hx
            have hx := X67.out; subst hx
            have hx := X68.out; subst hx
            simp only [fill_eq, List.take_succ_cons, List.take_zero, List.cons_append, List.nil_append, sel_of d9, sel_of d13] at ha
            subst ha
            rw [if_pos (by rfl)]
            go_simp
            refine hK.out _ _ ⟨?_, hO⟩
            simp only [fill_eq, List.take_succ_cons, List.take_zero, List.cons_append, List.nil_append, sel_new, sel_dep d9, sel_dep d13]
            rfl
        · as_aux_lemma =>
            rintro l a wr ⟨ha, hO⟩ hl hd K' hK
            have d9 := hd 9 (by decide)
            have d14 := hd 14 (by decide)
            have hx := X63.out; subst hx
            have hx := X68.out; subst hx
            have hx := X69.out; subst hx
            simp only [fill_eq, List.take_succ_cons, List.take_zero, List.cons_append, List.nil_append, sel_of d9, sel_of d14] at ha
            subst ha
            have p0 := cell_of_heap (hO.heap HQ.out (fun c => c)) 0
            rw [if_pos (by rfl)]
            go_simp
            refine hK.out _ _ ⟨?_, hO⟩
            simp only [fill_eq, List.take_succ_cons, List.take_zero, List.cons_append, List.nil_append, sel_new, sel_dep d9, sel_dep d14]
            rfl
        · as_aux_lemma =>
            rintro l a wr ⟨ha, hO⟩ hl hd K' hK
            have d9 := hd 9 (by decide)
            have d15 := hd 15 (by decide)
            have hx := X63.out; subst hx
            have hx := X69.out; subst hx
            have hx := X70.out; subst hx
            simp only [fill_eq, List.take_succ_cons, List.take_zero, List.cons_append, List.nil_append, sel_of d9, sel_of d15] at ha
            subst ha
            rw [if_pos (by rfl)]
            go_simp
            refine hK.out _ _ ⟨?_, hO⟩
            simp only [fill_eq, List.take_succ_cons, List.take_zero, List.cons_append, List.nil_append, sel_new, sel_dep d9, sel_dep d15]
            rfl
        · as_aux_lemma =>
            rintro l a wr ⟨ha, hO⟩ hl hd K' hK
            have d9 := hd 9 (by decide)
            have d11 := hd 11 (by decide)
            have d16 := hd 16 (by decide)
            have hx := X63.out; subst hx
            have hx := X65.out; subst hx
            have hx := X70.out; subst hx
            have hx := X71.out; subst hx
            simp only [fill_eq, List.take_succ_cons, List.take_zero, List.cons_append, List.nil_append, sel_of d9, sel_of d11, sel_of d16] at ha
            subst ha
            rw [if_pos (by rfl)]
            go_simp
            refine hK.out _ _ ⟨?_, hO⟩
            simp only [fill_eq, List.take_succ_cons, List.take_zero, List.cons_append, List.nil_append, sel_new, sel_dep d9, sel_dep d11, sel_dep d16]
            rfl
        · as_aux_lemma =>
            rintro l a wr ⟨ha, hO⟩ hl hd K' hK
            have d9 := hd 9 (by decide)
            have d17 := hd 17 (by decide)
            have hx := X63.out; subst hx
            have hx := X71.out; subst hx
            have hx := X72.out; subst hx
            simp only [fill_eq, List.take_succ_cons, List.take_zero, List.cons_append, List.nil_append, sel_of d9, sel_of d17] at ha
            subst ha
            rw [if_pos (by rfl)]
            go_simp
            refine hK.out _ _ ⟨?_, hO⟩
            simp only [fill_eq, List.take_succ_cons, List.take_zero, List.cons_append, List.nil_append, sel_new, sel_dep d9, sel_dep d17]
            rfl
        · rintro l a wc ⟨ha, hO⟩ hd
          simp only [fill_eq, List.take_succ_cons, List.take_zero, List.cons_append, List.nil_append, sel_of (hd 0 (by decide)), sel_of (hd 1 (by decide)), sel_of (hd 2 (by decide)), sel_of (hd 3 (by decide)), sel_of (hd 4 (by decide)), sel_of (hd 5 (by decide)), sel_of (hd 6 (by decide)), sel_of (hd 7 (by decide)), sel_of (hd 8 (by decide)), sel_of (hd 9 (by decide)), sel_of (hd 10 (by decide)), sel_of (hd 11 (by decide)), sel_of (hd 12 (by decide)), sel_of (hd 13 (by decide)), sel_of (hd 14 (by decide)), sel_of (hd 15 (by decide)), sel_of (hd 16 (by decide)), sel_of (hd 17 (by decide)), sel_of (hd 18 (by decide))] at ha
          subst ha
          have hx := X72.out; subst hx
          have HOe := Lib.hid (HOq.out.trans hO (fun _ _ c => c))
          have HPe := Lib.hid (HPq.out.keep hO)
          have HRe := Lib.hid (HRq.out.keep hO)
          clear hO hd
          go_wp2
          go_roundw
          case rel => exact ⟨k + 1, rest, by omega, by simp, HRl.out, HPe.out, HRe.out, HOe.out⟩
          case measure => simp [intOf]; omega
      · obtain rfl : k = n1 := by omega
        have i1 : ¬ (k : Int) < (k : Int) := by omega
        have HO := Lib.hid hO
        clear hPs hRs hO
        go_wp2_with fail
        refine (FAL.out _ (HT.out.off HO.out)).mono ?_
        rintro e u ⟨rfl, hOf⟩
        have HOf := Lib.hid (HO.out.trans hOf (fun _ _ c => c))
        clear hOf
        go_wp2
        go_ret
        exact ⟨rfl, HOf.out⟩

theorem door_met (os : Os) (args : Array Value) : laidMetH Tryd.prog [("sharecore/field.fields", Rows.laid_sharecore_field_fields)] ((World.doorLaid Tryd.prog 400 os).forCall (fun _ _ => 0) ⟨#[], args, []⟩).memory :=
  laidMetH_of_parts3 (fuel := 8) (laidMet_of_run' 8 (by kernel_rfl) (by kernel_rfl)) (by kernel_rfl) (by kernel_rfl)

set_option maxRecDepth 100000 in
theorem lifted (os : Os) (started : os.Started) (H : Type) (enc : TypeId × Value → H) :
    ReturnsInHanded {} Tryd.checked os 3 .any (fun w args => (Rows.sourceTakesSpec.pre enc Tryd.prog Tryd.f3 [] false w args ∧ laidMetH Tryd.prog [("sharecore/field.fields", Rows.laid_sharecore_field_fields)] w) ∧ sizedMet enc Tryd.prog Tryd.f3 (OpenSpec.ofChange Rows.sourceTakesSpec) false w args)
      (Rows.sourceTakesSpec.post enc Tryd.prog Tryd.f3 false true false false) := by
  refine returnsInHanded_of_change_and (C := Tryd.checked) (X := fun w _ => laidMetH Tryd.prog [("sharecore/field.fields", Rows.laid_sharecore_field_fields)] w) (fun _ _ _ hh h => h.of_heap hh) own started (by kernel_rfl) Tryd.func3
    (ChangeSpec.witness_shaped (enc := enc) (C := Tryd.checked) (os := os) (X := fun w _ => laidMetH Tryd.prog [("sharecore/field.fields", Rows.laid_sharecore_field_fields)] w) false (World.doorLaid Tryd.prog 400 os) #[.slice none 0 0, .slice none 0 0] 8 rfl (World.shaped_of_RefB (by kernel_rfl) (by kernel_rfl)) (by kernel_rfl) (by kernel_rfl) (by kernel_rfl) (door_met os _)) ?_
  intro W base args ds gs before hval0 hW _ hsz hL _
  have hval : ∀ (j : Nat) t v, Tryd.f3.params[j]? = some t → args[j]? = some v → Value.okWide Tryd.prog W .any base t v := hval0
  have hW' := hW
  obtain ⟨p, q, hA0, hV, rfl, hfz, hnd⟩ := hW
  have hA : DataW.TrodAll enc Tryd.prog W 0 (fun _ => true) true Tryd.f3.params.toList args.toList ds p := hA0
  rw [Tryd.params3] at hA hval
  obtain ⟨v0, vs0, d0, ds0, p0, q0, hargs, rfl, rfl, h0, r0⟩ := trodAll_cons hA
  obtain ⟨v1, vs1, d1, ds1, p1, q1, rfl, rfl, rfl, h1, r1⟩ := trodAll_cons r0
  obtain ⟨rfl, rfl, rfl⟩ := trodAll_nil r1
  obtain rfl : args = #[v0, v1] := by cases args; simp_all
  obtain ⟨rfl, rfl⟩ := trodVars_none hV
  obtain ⟨a0, n0, cap0, rfl⟩ := okWide_slice Tryd.underlying22 (hval 0 22 v0 rfl rfl)
  have k0 := h0
  have lt0 : ∀ x ∈ p0, x.block < W.heap.size := by obtain ⟨m, hm⟩ := k0; exact DataW.trod_lt m _ _ _ hm
  obtain ⟨bs0, hn0, hc0, hs0, w0⟩ : ∃ bs, n0 = bs.length ∧ n0 ≤ cap0 ∧ Small bs ∧ BsAt W a0 bs (fun k => k < W.heap.size) := by
    obtain ⟨fuel, hf⟩ := h0
    exact bytes_of_trod hf
  obtain ⟨a1, n1, cap1, rfl⟩ := okWide_slice Tryd.underlying23 (hval 1 23 v1 rfl rfl)
  have k1 := h1
  have lt1 : ∀ x ∈ p1, x.block < W.heap.size := by obtain ⟨m, hm⟩ := k1; exact DataW.trod_lt m _ _ _ hm
  obtain ⟨is1, hn1, w1⟩ : ∃ xs, n1 = xs.length ∧ IvAt W (.slice a1 n1 cap1) xs (fun k => k < W.heap.size) := by
    obtain ⟨fuel, hf⟩ := h1
    exact ints_of_trod hf
  have hT := tab_of_laid hL
  clear hA0 hval0
  refine (walk a0 n0 cap0 bs0 a1 n1 cap1 is1 W hn0 hc0 hs0 w0 hn1 w1 hT).mono fun e W' ⟨he, hoff⟩ => ?_
  have bel : Below W.heap.size W W' := hoff.below (Nat.le_refl _) (fun _ _ c => c)
  subst he
  exact ⟨_, rfl, _, _, _, [], _, [], hW', trodAll_mk1 (shut_bool Tryd.underlying4 _), (trodAll_cons_mk (Below.trod laidOut (by kernel_rfl) (of_decide_eq_true (by kernel_rfl)) k0 bel lt0) (trodAll_cons_mk (Below.trod laidOut (by kernel_rfl) (of_decide_eq_true (by kernel_rfl)) k1 bel lt1) trodAll_mk0)), rfl, bel.frame _, fun h => by cases h⟩

theorem over : Rows.sourceTakesRow.holds Tryd.pinned (OpenSpec.ofChange Rows.sourceTakesSpec) :=
  OpenClaim.holds_of_wide 3 Tryd.f3 rfl rfl rfl rfl rfl rfl rfl ⟨rfl, rfl, rfl, rfl, rfl⟩ rfl rfl rfl rfl rfl (by kernel_rfl) Tryd.func3 (by kernel_rfl)
    (of_decide_eq_true (by kernel_rfl)) (by unfold Func.isWrapper; first | (rw [if_pos (by decide +kernel)]; kernel_rfl) | (rw [if_neg (by decide +kernel)]; exact ⟨rfl, rfl⟩))
    (fun os started H enc _ => lifted os started H enc)

theorem proved : Rows.SourceTakesCardSaid :=
  Claim7.holds_tied_plain_at .later [] [.data] true (true, "6f64277cbffadd23f4f09293482bc941ab7d4d501c3abca4f435855ccbd2f86e") false
    over (fun _ h => by cases h) (by kernel_rfl) (fun _ h => by cases h) sourceTakes_row_tie rfl ⟨rfl, rfl⟩ (by kernel_rfl) rfl
    (fun f fn hf hfn => by
      obtain rfl : f = 3 := Option.some.inj ((show Tryd.prog.funcNamed "sharecore/sharecorelaw14.SourceTakes" = some 3 by kernel_rfl).symm.trans hf) |>.symm
      obtain rfl : fn = Tryd.f3 := (Option.some.inj (Tryd.func3.symm.trans hfn)).symm
      exact ⟨by kernel_rfl, fun j t ht => by
        rw [Tryd.params3] at ht
        have hm : t ∈ [22, 23] := by simpa using Array.mem_of_getElem? ht
        have hall : ([22, 23].all fun u => !Tryd.prog.wantsStandIn u) = true := by kernel_rfl
        exact (show Tryd.prog.wantsStandIn t = false by simpa using List.all_eq_true.1 hall t hm)⟩)
    (by kernel_rfl)
#print axioms proved
end Go.Proofs.YtpiialjnjfkfeaaDoor.sourceTakes
