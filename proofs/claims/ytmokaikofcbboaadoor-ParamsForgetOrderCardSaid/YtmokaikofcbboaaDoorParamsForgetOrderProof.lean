/-
  CheckShares of correct shares does not depend on their order: the statement of P15.4 and P15.6. No condition.
-/
import Derived.Test.YtmokaikofcbboaaDoorRows
import Derived.Test.YtmokaikofcbboaaDoorTie
import Derived.Test.YtmokaikofcbboaaDoorCards
import Derived.LaidMore
import Derived.LaidHandle
import Derived.SevenTiedAt
import Derived.Stop.Joined
import Derived.JoinedOf
import Derived.Test.YtmokaikofcbboaaDoorLimbOpen
import Derived.Test.YtmokaikofcbboaaDoorFieldTab
import Derived.Test.YtmokaikofcbboaaDoorParOpen
import Derived.Test.YtmokaikofcbboaaDoorParAlive
import Derived.Test.YtmokaikofcbboaaDoorParRefL
import Derived.Test.YtmokaikofcbboaaDoorParLarge
import Derived.Test.YtmokaikofcbboaaDoorParPerm
import Derived.Test.YtmokaikofcbboaaDoorShrRev
import Derived.Test.YtmokaikofcbboaaDoorInvClo
import Derived.WalkKit
import Derived.ProofKit
import Derived.OpenShut
import Derived.ShutString
import Derived.ChangeOld
import Derived.Below
namespace Go.Proofs.YtmokaikofcbboaaDoor.paramsForgetOrder
open Go.ChangeShapes Go.WideShapes Go.ChangeAt Go.RowKit
set_option linter.unusedVariables false

theorem own : ownKnob Tryd.prog.godebug = none := by kernel_rfl
theorem laidOut : laidOutB Tryd.prog = true := by kernel_rfl

set_option maxRecDepth 100000 in
set_option maxHeartbeats 4000000 in
theorem walk (a0 : Option Addr) (n0 cap0 : Nat) (l0 : List Sh) (i1 : Int) (w : World) (hn0 : n0 = l0.length) (w0 : ShsAt w (.slice a0 n0 cap0) l0 (fun k => k < w.heap.size)) (w1 : (Lit.int .u8 i1).wf = true) (hT : TabAt w) :
    Calls Tryd.prog 7 #[.slice a0 n0 cap0, .int .u8 i1] w fun e w' => e = .returned (.bool true) ∧ Off (fun _ => False) w w' := by
  have FAL : Hid (∀ W, TabAt W → Calls Tryd.prog 9 #[] W fun e w' => e = .returned (.bool true) ∧ Off (fun _ => False) W w') := Lib.hid (fun W hT => alive15_any W hT)
  have HT := Lib.hid hT
  clear hT
  obtain ⟨c, hc⟩ : ∃ c, c = lrgN l0 := ⟨_, rfl⟩
  have HZ := Lib.hid (show c = 0 → l0.length ≤ 300 ∧ ∀ s ∈ l0, s.pl.length ≤ 5000 from fun h => lrg_zero (hc.symm.trans h))
  have hc01 := lrg_cases l0
  rw [← hc] at hc01
  have FL := Lib.hid (large_any l0 a0 n0 cap0 hn0 (fun k => k < w.heap.size) w w0)
  rw [← hc] at FL
  have HN := Lib.hid hn0
  have HL := Lib.hid w0
  clear hc hn0 w0
  by_cases hbig : c = 1
  · subst hbig
    clear hc01
    go_enter Tryd.func7, Tryd.ntmps7
    go_wp2_with fail
    refine FL.out.mono ?_
    rintro e u ⟨rfl, hO⟩
    have HOl := Lib.hid hO
    clear hO
    go_wp2_with fail
    refine (FAL.out _ (HT.out.off HOl.out)).mono ?_
    rintro e u ⟨rfl, hO⟩
    have HOf := Lib.hid (HOl.out.trans hO (fun _ _ c => c))
    clear hO
    go_wp2
    go_ret
    exact ⟨rfl, HOf.out⟩
  · obtain rfl : c = 0 := by omega
    have hz := HZ.out rfl
    have hl3 : n0 ≤ 300 := by rw [HN.out]; exact hz.1
    have hp5 := hz.2
    clear hbig hc01 hz HZ
    by_cases h0 : n0 = 0
    · have j0 : decide (n0 = 0) = true := decide_eq_true h0
      subst h0
      clear HN hl3 hp5
      have HOz := Lib.hid (Off.refl (fun _ => False) w)
      go_enter Tryd.func7, Tryd.ntmps7
      go_wp2_with fail
      refine FL.out.mono ?_
      rintro e u ⟨rfl, hO⟩
      have HOl := Lib.hid hO
      clear hO
      go_wp2_with fail
      refine (FAL.out _ (HT.out.off HOl.out)).mono ?_
      rintro e u ⟨rfl, hO⟩
      have HOf := Lib.hid (HOl.out.trans hO (fun _ _ c => c))
      clear hO
      go_wp2
      go_ret
      exact ⟨rfl, HOf.out⟩
    · have j0 : ((n0 : Int) == 0) = false := by simp; omega
      obtain ⟨L, hLm, hnL, hmax, hSv, hPl⟩ := HL.out.lift
      have HLm := Lib.hid hLm
      have HNL := Lib.hid hnL
      have HSv := Lib.hid hSv
      have HPl := Lib.hid hPl
      unfold maxLen at hmax
      have HOz := Lib.hid (Off.refl (fun _ => False) w)
      clear hnL hLm hSv hPl
      go_enter Tryd.func7, Tryd.ntmps7
      go_wp2_with fail
      refine (FL.out).mono ?_
      rintro e u1 ⟨rfl, hO⟩
      have HO1 := Lib.hid (HOz.out.trans hO (fun _ _ c => c))
      clear hO
      go_wp2
      go_loopw [20] (fun i wr => ∃ k : Nat, k ≤ n0 ∧ i = .int .i64 (k : Int) ∧ firstE (l0.take k) = 0 ∧ Off (fun _ => False) w wr) (fun i _ => n0 - (intOf i).toNat)
      case atStart => exact ⟨0, Nat.zero_le _, rfl, rfl, HO1.out⟩
      case round =>
        obtain ⟨k, hk, rfl, hr, hO⟩ := hrel
        by_cases hlt : k < n0
        · obtain ⟨x, hx⟩ : ∃ x, L[k]? = some x := ⟨_, List.getElem?_eq_getElem (by rw [← HNL.out]; exact hlt)⟩
          obtain ⟨aa, ac, eS, hcc, hat⟩ := HSv.out.off hO (fun _ _ _ c => c)
          simp at eS
          obtain ⟨rfl, en, rfl⟩ := eS
          clear en
          obtain ⟨b, off, rfl, hSb, hat⟩ := hat (by rw [← HNL.out]; omega)
          have c0 := hat k x 0 _ hx rfl
          have c1 := hat k x 1 _ hx rfl
          have c2 := hat k x 2 _ hx rfl
          have c3 := hat k x 3 _ hx rfl
          have c4 := hat k x 4 _ hx rfl
          rw [Nat.add_zero] at c0
          have hlb : b < wr.heap.size := World.block_lt_of_cell? wr _ c0
          obtain ⟨W1, hW1⟩ : ∃ W1, W1 = wr.alloc (.cells #[.int .i64 x.sh.fd, .int .i64 x.sh.th, .int .i64 x.sh.ix, .int .i64 x.sh.ln, .slice x.pa x.sh.pl.length x.pc] 31) := ⟨_, rfl⟩
          have hO1 : Off (fun _ => False) wr W1 := by rw [hW1]; exact (Off.refl _ wr).alloc _
          have hOw := hO.trans hO1 (fun _ _ c => c)
          have hl0 : l0[k]? = some x.sh := by rw [← HLm.out, List.getElem?_map, hx]; rfl
          have hP := (HPl.out x (List.mem_of_getElem? hx)).off hOw (fun _ _ _ c => c)
          have FC := Lib.hid (refshare_any x.sh hP.1 x.pa x.pc _ W1 hP.2.2)
          obtain ⟨r, hr2⟩ : ∃ r, r = shN x.sh := ⟨_, rfl⟩
          rw [← hr2] at FC
          unfold Sh.val at FC
          have HX := Lib.hid hl0
          have HR := Lib.hid hr
          have HR2 := Lib.hid hr2
          have HW1 := Lib.hid hW1
          have HOw := Lib.hid hOw
          have hkn : (k : Int) < (n0 : Int) := by omega
          have w2 : IntKind.i64.wrap ((k : Int) + 1) = (k : Int) + 1 := by rw [IntKind.wrap_i64]; omega
          clear hx hr hr2 hO hW1 hO1 hOw hl0 hP hSb hat hcc
          go_wp2_with fail
          rw [← HW1.out]
          refine FC.out.mono ?_
          rintro e u ⟨rfl, hO⟩
          have HO2 := Lib.hid (HOw.out.trans hO (fun _ _ c => c))
          clear hO FC c0 c1 c2 c3 c4
          by_cases h0 : r = 0
          · have HF := Lib.hid ((firstE_cut HR.out HX.out).1.trans (HR2.out.symm.trans h0))
            subst h0
            go_wp2
            go_roundw
            case rel => exact ⟨k + 1, by omega, by simp, HF.out, HO2.out⟩
            case measure => simp [intOf]; omega
          · have hr0 : ¬ ((r : Int) = 0) := by omega
            go_wp2_with fail
            refine (FAL.out _ (HT.out.off HO2.out)).mono ?_
            rintro e u' ⟨rfl, hO⟩
            have HOf := Lib.hid (HO2.out.trans hO (fun _ _ c => c))
            clear hO
            go_wp2
            exact bodyPost_ret (results_tmp rfl _ _ _) rfl ⟨rfl, HOf.out⟩
        · obtain rfl : n0 = k := by omega
          rw [List.take_of_length_le (by rw [← HN.out]; exact Nat.le_refl _)] at hr
          have HR0 := Lib.hid hr
          have HOb := Lib.hid hO
          have hnn : ¬ (n0 : Int) < (n0 : Int) := by omega
          clear hr hO hlt hk
          obtain ⟨kk, rfl⟩ : ∃ kk : Nat, i1 = (kk : Int) := Int.eq_ofNat_of_zero_le (by have := bounds_u8 w1; omega)
          have hkk : kk < 256 := by have := bounds_u8 w1; omega
          obtain ⟨q, hq⟩ : ∃ q, q = kk % n0 := ⟨_, rfl⟩
          have hqn : q < n0 := by rw [hq]; exact Nat.mod_lt _ (by omega)
          have r0 : IntKind.i64.wrap (kk : Int) = (kk : Int) := by rw [IntKind.wrap_i64]; omega
          have r1 : ¬ (n0 : Int) = 0 := by omega
          have r2 : Int.tmod (kk : Int) (n0 : Int) = (q : Int) := by rw [hq]; exact (Int.ofNat_tmod _ _).symm
          have r3 : (kk : Int) % (n0 : Int) = (q : Int) := by rw [hq]; exact (Int.natCast_emod _ _).symm
          have r4 : IntKind.i64.wrap (q : Int) = (q : Int) := by rw [IntKind.wrap_i64]; omega
          have HQ := Lib.hid hqn
          clear hq
          obtain ⟨aS, cS, eS, hcc, _⟩ := HSv.out
          simp at eS
          obtain ⟨rfl, hnl, rfl⟩ := eS
          rw [← hnl] at hcc
          obtain ⟨a1, hs1, hb1⟩ := shs_h a0 n0 cap0 q (by omega) hcc
          obtain ⟨a2, hs2, hb2⟩ := shs_l a0 n0 cap0 q (by omega) hcc
          have FCC := Lib.hid (fun W (hO : Off (fun _ => False) wr W) (hb : W.heap[wr.heap.size]? = some (.cells #[.slice a2 (n0 - q) (cap0 - q), .slice a1 q cap0] 33 (0, 0))) => concat_sh wr.heap.size _ _ (L.drop q) (L.take q) (fun k => k < w.heap.size) W (cell_of_heap hb 0) (cell_of_heap hb 1) (hb2 _ _ _ (HSv.out.off (HOb.out.trans hO (fun _ _ c => c)) (fun _ _ _ c => c))) (hb1 _ _ _ (HSv.out.off (HOb.out.trans hO (fun _ _ c => c)) (fun _ _ _ c => c))) (by rw [List.length_drop, List.length_take, ← HNL.out]; omega))
          obtain ⟨wq, hwq⟩ : ∃ wq, wq = wr := ⟨_, rfl⟩
          clear hb1 hb2 hcc hnl
          go_upto_region 10 with fail
          rw [← hwq] at FCC HOb ⊢
          clear hwq
          obtain ⟨x34, hx⟩ : ∃ vv : Value, vv = .slice a0 n0 cap0 := ⟨_, rfl⟩
          have X34 := Lib.hid hx
          clear hx
          obtain ⟨x35, hx⟩ : ∃ vv : Value, vv = .int .i64 (q : Int) := ⟨_, rfl⟩
          have X35 := Lib.hid hx
          clear hx
          obtain ⟨x36, hx⟩ : ∃ vv : Value, vv = .slice a2 (n0 - q) (cap0 - q) := ⟨_, rfl⟩
          have X36 := Lib.hid hx
          clear hx
          obtain ⟨x37, hx⟩ : ∃ vv : Value, vv = .slice a0 n0 cap0 := ⟨_, rfl⟩
          have X37 := Lib.hid hx
          clear hx
          obtain ⟨x38, hx⟩ : ∃ vv : Value, vv = .int .i64 (q : Int) := ⟨_, rfl⟩
          have X38 := Lib.hid hx
          clear hx
          obtain ⟨x39, hx⟩ : ∃ vv : Value, vv = .slice a1 q cap0 := ⟨_, rfl⟩
          have X39 := Lib.hid hx
          clear hx
          obtain ⟨x40, hx⟩ : ∃ vv : Value, vv = .slice (some ⟨wq.heap.size, 0, none⟩) 2 2 := ⟨_, rfl⟩
          have X40 := Lib.hid hx
          clear hx
          refine wp_region_clo (fun a0 l a' w' => ∃ vz : Value, a' = (Act.put (fill a0 34 [sel (l 0) x34 undef, sel (l 1) x35 undef, sel (l 2) x36 undef, sel (l 3) x37 undef, sel (l 4) x38 undef, sel (l 5) x39 undef, sel (l 6) x40 undef, sel (l 7) vz undef, undef, undef, undef, undef, undef, undef, undef, undef, undef, undef]) (some 8) (sel (l 8) vz (undef))) ∧ Off (fun _ => False) wq w' ∧ (l 6 = false → w'.heap.size = wq.heap.size) ∧ (l 6 = true → w'.heap[wq.heap.size]? = some (.cells #[.slice a2 (n0 - q) (cap0 - q), .slice a1 q cap0] 33 (0, 0))) ∧ (l 7 = true → RowS wq.heap.size w' vz (L.drop q ++ L.take q))) (by kernel_rfl) (by kernel_rfl) ?_ ⟨?_, ?_, ?_, ?_, ?_, ?_, ?_, ?_, ?_, trivial⟩ ?_
          · refine ⟨undef, ?_, (Off.refl _ wq).drew, fun _ => rfl, fun h => (by cases h), fun h => (by cases h)⟩
            simp only [fill_eq, List.take_succ_cons, List.take_zero, List.cons_append, List.nil_append, Act.put, List.setIfInBounds_toArray, List.set_cons_zero, List.set_cons_succ, sel_start]
            try rfl
          · as_aux_lemma =>
              rintro l a wr ⟨vz, ha, hO, hS, hB, hP⟩ hc hl hd K' hK
              have hx := X34.out; subst hx
              simp only [fill_eq, List.take_succ_cons, List.take_zero, List.cons_append, List.nil_append, Act.put, List.setIfInBounds_toArray, List.set_cons_zero, List.set_cons_succ] at ha
              subst ha
              have hS0 := Lib.hid hS
              have hB0 := Lib.hid hB
              have hP0 := Lib.hid hP
              clear hS hB hP
              rw [if_pos (by rfl)]
              go_simp
              refine Shut.out hK _ _ ⟨vz, ?_, hO, fun h => hS0.out (by rwa [upd_ne l (by decide)] at h), fun h => hB0.out (by rwa [upd_ne l (by decide)] at h), fun h => hP0.out (by rwa [upd_ne l (by decide)] at h)⟩
              simp only [fill_eq, List.take_succ_cons, List.take_zero, List.cons_append, List.nil_append, Act.put, List.setIfInBounds_toArray, List.set_cons_zero, List.set_cons_succ, sel_new]
              try rfl
          · as_aux_lemma =>
              rintro l a wr ⟨vz, ha, hO, hS, hB, hP⟩ hc hl hd K' hK
              have hx := X35.out; subst hx
              simp only [fill_eq, List.take_succ_cons, List.take_zero, List.cons_append, List.nil_append, Act.put, List.setIfInBounds_toArray, List.set_cons_zero, List.set_cons_succ] at ha
              subst ha
              have hS0 := Lib.hid hS
              have hB0 := Lib.hid hB
              have hP0 := Lib.hid hP
              clear hS hB hP
              rw [if_pos (by rfl)]
              go_simp
              refine Shut.out hK _ _ ⟨vz, ?_, hO, fun h => hS0.out (by rwa [upd_ne l (by decide)] at h), fun h => hB0.out (by rwa [upd_ne l (by decide)] at h), fun h => hP0.out (by rwa [upd_ne l (by decide)] at h)⟩
              simp only [fill_eq, List.take_succ_cons, List.take_zero, List.cons_append, List.nil_append, Act.put, List.setIfInBounds_toArray, List.set_cons_zero, List.set_cons_succ, sel_new]
              try rfl
          · as_aux_lemma =>
              rintro l a wr ⟨vz, ha, hO, hS, hB, hP⟩ hc hl hd K' hK
              have d0 := hd 0 (by decide)
              have d1 := hd 1 (by decide)
              have hx := X34.out; subst hx
              have hx := X35.out; subst hx
              have hx := X36.out; subst hx
              simp only [fill_eq, List.take_succ_cons, List.take_zero, List.cons_append, List.nil_append, Act.put, List.setIfInBounds_toArray, List.set_cons_zero, List.set_cons_succ, sel_of d0, sel_of d1] at ha
              subst ha
              have hS0 := Lib.hid hS
              have hB0 := Lib.hid hB
              have hP0 := Lib.hid hP
              clear hS hB hP
              rw [if_pos (by rfl)]
              go_simp
              refine Shut.out hK _ _ ⟨vz, ?_, hO, fun h => hS0.out (by rwa [upd_ne l (by decide)] at h), fun h => hB0.out (by rwa [upd_ne l (by decide)] at h), fun h => hP0.out (by rwa [upd_ne l (by decide)] at h)⟩
              simp only [fill_eq, List.take_succ_cons, List.take_zero, List.cons_append, List.nil_append, Act.put, List.setIfInBounds_toArray, List.set_cons_zero, List.set_cons_succ, sel_new, sel_dep d0, sel_dep d1]
              try rfl
          · as_aux_lemma =>
              rintro l a wr ⟨vz, ha, hO, hS, hB, hP⟩ hc hl hd K' hK
              have hx := X37.out; subst hx
              simp only [fill_eq, List.take_succ_cons, List.take_zero, List.cons_append, List.nil_append, Act.put, List.setIfInBounds_toArray, List.set_cons_zero, List.set_cons_succ] at ha
              subst ha
              have hS0 := Lib.hid hS
              have hB0 := Lib.hid hB
              have hP0 := Lib.hid hP
              clear hS hB hP
              rw [if_pos (by rfl)]
              go_simp
              refine Shut.out hK _ _ ⟨vz, ?_, hO, fun h => hS0.out (by rwa [upd_ne l (by decide)] at h), fun h => hB0.out (by rwa [upd_ne l (by decide)] at h), fun h => hP0.out (by rwa [upd_ne l (by decide)] at h)⟩
              simp only [fill_eq, List.take_succ_cons, List.take_zero, List.cons_append, List.nil_append, Act.put, List.setIfInBounds_toArray, List.set_cons_zero, List.set_cons_succ, sel_new]
              try rfl
          · as_aux_lemma =>
              rintro l a wr ⟨vz, ha, hO, hS, hB, hP⟩ hc hl hd K' hK
              have hx := X38.out; subst hx
              simp only [fill_eq, List.take_succ_cons, List.take_zero, List.cons_append, List.nil_append, Act.put, List.setIfInBounds_toArray, List.set_cons_zero, List.set_cons_succ] at ha
              subst ha
              have hS0 := Lib.hid hS
              have hB0 := Lib.hid hB
              have hP0 := Lib.hid hP
              clear hS hB hP
              rw [if_pos (by rfl)]
              go_simp
              refine Shut.out hK _ _ ⟨vz, ?_, hO, fun h => hS0.out (by rwa [upd_ne l (by decide)] at h), fun h => hB0.out (by rwa [upd_ne l (by decide)] at h), fun h => hP0.out (by rwa [upd_ne l (by decide)] at h)⟩
              simp only [fill_eq, List.take_succ_cons, List.take_zero, List.cons_append, List.nil_append, Act.put, List.setIfInBounds_toArray, List.set_cons_zero, List.set_cons_succ, sel_new]
              try rfl
          · as_aux_lemma =>
              rintro l a wr ⟨vz, ha, hO, hS, hB, hP⟩ hc hl hd K' hK
              have d3 := hd 3 (by decide)
              have d4 := hd 4 (by decide)
              have hx := X37.out; subst hx
              have hx := X38.out; subst hx
              have hx := X39.out; subst hx
              simp only [fill_eq, List.take_succ_cons, List.take_zero, List.cons_append, List.nil_append, Act.put, List.setIfInBounds_toArray, List.set_cons_zero, List.set_cons_succ, sel_of d3, sel_of d4] at ha
              subst ha
              have hS0 := Lib.hid hS
              have hB0 := Lib.hid hB
              have hP0 := Lib.hid hP
              clear hS hB hP
              rw [if_pos (by rfl)]
              go_simp
              refine Shut.out hK _ _ ⟨vz, ?_, hO, fun h => hS0.out (by rwa [upd_ne l (by decide)] at h), fun h => hB0.out (by rwa [upd_ne l (by decide)] at h), fun h => hP0.out (by rwa [upd_ne l (by decide)] at h)⟩
              simp only [fill_eq, List.take_succ_cons, List.take_zero, List.cons_append, List.nil_append, Act.put, List.setIfInBounds_toArray, List.set_cons_zero, List.set_cons_succ, sel_new, sel_dep d3, sel_dep d4]
              try rfl
          · as_aux_lemma =>
              rintro l a wr ⟨vz, ha, hO, hS, hB, hP⟩ hc hl hd K' hK
              have d2 := hd 2 (by decide)
              have d5 := hd 5 (by decide)
              have hx := X36.out; subst hx
              have hx := X39.out; subst hx
              have hx := X40.out; subst hx
              simp only [fill_eq, List.take_succ_cons, List.take_zero, List.cons_append, List.nil_append, Act.put, List.setIfInBounds_toArray, List.set_cons_zero, List.set_cons_succ, sel_of d2, sel_of d5] at ha
              subst ha
              have hS0 := Lib.hid hS
              have hB0 := Lib.hid hB
              have hP0 := Lib.hid hP
              have hz := Lib.hid (hS hl)
              clear hS hB hP
              rw [if_pos (by rfl)]
              go_simp
              refine Shut.out hK _ _ ⟨vz, ?_, hO.alloc _, fun h => absurd h (by rw [upd_same]; decide), fun _ => heap_new' hz.out _, fun h => (fun (h1 : _) (h2 : _) => RowS.off h1 h2) (hP0.out (by rwa [upd_ne l (by decide)] at h)) ((Off.refl (fun _ => False) wr).alloc _)⟩
              simp only [fill_eq, List.take_succ_cons, List.take_zero, List.cons_append, List.nil_append, Act.put, List.setIfInBounds_toArray, List.set_cons_zero, List.set_cons_succ, sel_new, sel_dep d2, sel_dep d5, hz.out]
              try rfl
          · as_aux_lemma =>
              rintro l a wr ⟨vz, ha, hO, hS, hB, hP⟩ hc hl hd K' hK
              have d6 := hd 6 (by decide)
              have hx := X40.out; subst hx
              have gn := hc.not (i := 8) hl 9 (by kernel_rfl)
              simp only [fill_eq, List.take_succ_cons, List.take_zero, List.cons_append, List.nil_append, Act.put, List.setIfInBounds_toArray, List.set_cons_zero, List.set_cons_succ, sel_of d6, sel_no gn, sel_no hl] at ha
              subst ha
              have hS0 := Lib.hid hS
              have hB0 := Lib.hid hB
              have hP0 := Lib.hid hP
              have hb := hB d6
              have gn0 := Lib.hid gn
              have dA0 := Lib.hid d6
              clear gn
              clear hS hB hP
              rw [if_pos (by rfl)]
              go_simp
              refine (FCC.out wr hO hb).mono ?_
              rintro e w1 ⟨v', rfl, hP1, hO1⟩
              go_wp2_with fail
              refine Shut.out hK _ _ ⟨v', ?_, hO.trans hO1 (fun _ _ c => c), fun h => absurd (show (true : Bool) = false from dA0.out.symm.trans (show l 6 = false by rwa [upd_ne l (by decide)] at h)) (by decide), fun h => hO1.heap (hB0.out dA0.out) (fun c => c), fun _ => (RowS.base hP1 hO.size)⟩
              simp only [fill_eq, List.take_succ_cons, List.take_zero, List.cons_append, List.nil_append, Act.put, List.setIfInBounds_toArray, List.set_cons_zero, List.set_cons_succ, sel_new, sel_dep d6, sel_no (show upd l 7 8 = false from gn0.out)]
              try rfl
          · as_aux_lemma =>
              rintro l a wr ⟨vz, ha, hO, hS, hB, hP⟩ hc hl hd K' hK
              have d7 := hd 7 (by decide)
              simp only [fill_eq, List.take_succ_cons, List.take_zero, List.cons_append, List.nil_append, Act.put, List.setIfInBounds_toArray, List.set_cons_zero, List.set_cons_succ, sel_of d7] at ha
              subst ha
              have hS0 := Lib.hid hS
              have hB0 := Lib.hid hB
              have hP0 := Lib.hid hP
              clear hS hB hP
              rw [if_pos (by rfl)]
              go_simp
              refine Shut.out hK _ _ ⟨vz, ?_, hO, fun h => hS0.out (by rwa [upd_ne l (by decide)] at h), fun h => hB0.out (by rwa [upd_ne l (by decide)] at h), fun h => hP0.out (by rwa [upd_ne l (by decide)] at h)⟩
              simp only [fill_eq, List.take_succ_cons, List.take_zero, List.cons_append, List.nil_append, Act.put, List.setIfInBounds_toArray, List.set_cons_zero, List.set_cons_succ, sel_new, sel_dep d7]
              try rfl
          · rintro l a wc ⟨vz, ha, hO, hS, hB, hP⟩ hd
            simp only [fill_eq, List.take_succ_cons, List.take_zero, List.cons_append, List.nil_append, Act.put, List.setIfInBounds_toArray, List.set_cons_zero, List.set_cons_succ, sel_of (hd 0 (by decide)), sel_of (hd 1 (by decide)), sel_of (hd 2 (by decide)), sel_of (hd 3 (by decide)), sel_of (hd 4 (by decide)), sel_of (hd 5 (by decide)), sel_of (hd 6 (by decide)), sel_of (hd 7 (by decide)), sel_of (hd 8 (by decide))] at ha
            subst ha
            have hPP := hP (hd 7 (by decide))
            clear hS hB hP
            have HO3 := Lib.hid (HOb.out.trans hO (fun _ _ c => c))
            have hMl : (L.drop q ++ L.take q).length = n0 := by rw [List.length_append, List.length_drop, List.length_take, ← HNL.out]; have := HQ.out; omega
            obtain ⟨g, gc, rfl, hBg, hgl⟩ := hPP.form (by rw [hMl]; omega)
            rw [hMl] at hPP ⊢
            have HPP := Lib.hid hPP
            have HGW := Lib.hid (show w.heap.size ≤ g from Nat.le_trans HOb.out.size hBg)
            have HGl := Lib.hid hgl
            have HML := Lib.hid hMl
            clear hO hPP hBg hgl hMl hd
            go_wp2_with fail
            refine (reverse_sh (L.drop q ++ L.take q) wq.heap.size g n0 gc HML.out.symm (by omega) _ HPP.out HGl.out).mono ?_
            rintro e u5 ⟨rfl, hr, hO⟩
            have HO5 := Lib.hid (HO3.out.trans hO (fun k hk e => by have := HGW.out; omega))
            have HR5 := Lib.hid (show ShsAt u5 (.slice (some ⟨g, 0, none⟩) n0 gc) ((L.drop q ++ L.take q).reverse.map ShV.sh) (fun _ => True) from hr.shs (by rw [List.length_reverse, HML.out]; unfold maxLen; omega) (fun x hx => HPl.out x (by
              rw [List.mem_reverse, List.mem_append] at hx
              rcases hx with hx | hx
              · exact List.mem_of_mem_drop hx
              · exact List.mem_of_mem_take hx)) (S := fun _ => False) (HO3.out.trans hO (fun k hk e => by have := HGW.out; omega)) (fun _ _ c => c))
            clear hr hO
            have hperm : l0.Perm ((L.drop q ++ L.take q).reverse.map ShV.sh) := by
              rw [← HLm.out]
              refine List.Perm.map _ ?_
              refine List.Perm.symm ((List.reverse_perm _).trans ?_)
              refine List.perm_append_comm.trans ?_
              rw [List.take_append_drop]
            have FC := Lib.hid (fun W (hO : Off (fun _ => False) u5 W) hT => shares_par l0 a0 n0 cap0 HN.out (by omega) hp5 (fun k => k < w.heap.size) W (HL.out.off (HO5.out.trans hO (fun _ _ c => c)) (fun _ _ _ c => c)) hT)
            have FR := Lib.hid (fun W (hO : Off (fun _ => False) u5 W) hT => shares_par ((L.drop q ++ L.take q).reverse.map ShV.sh) (some ⟨g, 0, none⟩) n0 gc (by rw [List.length_map, List.length_reverse, HML.out]) (by omega) (fun s hs => hp5 s (hperm.mem_iff.2 hs)) (fun _ => True) W (HR5.out.off hO (fun _ _ _ c => c)) hT)
            have hsh := shsN_perm hperm HR0.out
            obtain ⟨r, hr⟩ : ∃ r, r = shsN l0 := ⟨_, rfl⟩
            rw [hsh, ← hr] at FR
            rw [← hr] at FC
            have HOz := Lib.hid (Off.refl (fun _ => False) u5)
            have HTu := Lib.hid (HT.out.off HO5.out)
            clear hr hsh hperm hp5
            go_wp2_with fail
            refine (FAL.out _ HTu.out).mono ?_
            rintro e u6 ⟨rfl, hO⟩
            have HO6 := Lib.hid hO
            clear hO
            go_wp2_with fail
            refine (FC.out _ HO6.out (HTu.out.off HO6.out)).mono ?_
            rintro e u7 ⟨rfl, hO⟩
            have HO7 := Lib.hid (HO6.out.trans hO (fun _ _ c => c))
            clear hO
            go_wp2_with fail
            refine (FR.out _ HO7.out (HTu.out.off HO7.out)).mono ?_
            rintro e u8 ⟨rfl, hO⟩
            have HO8 := Lib.hid (HO5.out.trans (HO7.out.trans hO (fun _ _ c => c)) (fun _ _ c => c))
            clear hO
            go_wp2
            go_ret
            exact ⟨rfl, HO8.out⟩

theorem door_met (os : Os) (args : Array Value) : laidMetH Tryd.prog [("sharecore/field.fields", Rows.laid_sharecore_field_fields)] ((World.doorLaid Tryd.prog 400 os).forCall (fun _ _ => 0) ⟨#[], args, []⟩).memory :=
  laidMetH_of_parts3 (fuel := 8) (laidMet_of_run' 8 (by kernel_rfl) (by kernel_rfl)) (by kernel_rfl) (by kernel_rfl)

set_option maxRecDepth 100000 in
theorem lifted (os : Os) (started : os.Started) (H : Type) (enc : TypeId × Value → H) :
    ReturnsInHanded {} Tryd.checked os 7 .any (fun w args => (Rows.paramsForgetOrderSpec.pre enc Tryd.prog Tryd.f7 [] false w args ∧ laidMetH Tryd.prog [("sharecore/field.fields", Rows.laid_sharecore_field_fields)] w) ∧ sizedMet enc Tryd.prog Tryd.f7 (OpenSpec.ofChange Rows.paramsForgetOrderSpec) false w args)
      (Rows.paramsForgetOrderSpec.post enc Tryd.prog Tryd.f7 false true false false) := by
  refine returnsInHanded_of_change_and (C := Tryd.checked) (X := fun w _ => laidMetH Tryd.prog [("sharecore/field.fields", Rows.laid_sharecore_field_fields)] w) (fun _ _ _ hh h => h.of_heap hh) own started (by kernel_rfl) Tryd.func7
    (ChangeSpec.witness_shaped (enc := enc) (C := Tryd.checked) (os := os) (X := fun w _ => laidMetH Tryd.prog [("sharecore/field.fields", Rows.laid_sharecore_field_fields)] w) false (World.doorLaid Tryd.prog 400 os) #[.slice none 0 0, .int .u8 0] 8 rfl (World.shaped_of_RefB (by kernel_rfl) (by kernel_rfl)) (by kernel_rfl) (by kernel_rfl) (by kernel_rfl) (door_met os _)) ?_
  intro W base args ds gs before hval0 hW _ hsz hL _
  have hval : ∀ (j : Nat) t v, Tryd.f7.params[j]? = some t → args[j]? = some v → Value.okWide Tryd.prog W .any base t v := hval0
  have hW' := hW
  obtain ⟨p, q, hA0, hV, rfl, hfz, hnd⟩ := hW
  have hA : DataW.TrodAll enc Tryd.prog W 0 (fun _ => true) true Tryd.f7.params.toList args.toList ds p := hA0
  rw [Tryd.params7] at hA hval
  obtain ⟨v0, vs0, d0, ds0, p0, q0, hargs, rfl, rfl, h0, r0⟩ := trodAll_cons hA
  obtain ⟨v1, vs1, d1, ds1, p1, q1, rfl, rfl, rfl, h1, r1⟩ := trodAll_cons r0
  obtain ⟨rfl, rfl, rfl⟩ := trodAll_nil r1
  obtain rfl : args = #[v0, v1] := by cases args; simp_all
  obtain ⟨rfl, rfl⟩ := trodVars_none hV
  obtain ⟨a0, n0, cap0, rfl⟩ := okWide_slice Tryd.underlying33 (hval 0 33 v0 rfl rfl)
  have k0 := h0
  have lt0 : ∀ x ∈ p0, x.block < W.heap.size := by obtain ⟨m, hm⟩ := k0; exact DataW.trod_lt m _ _ _ hm
  obtain ⟨l0, hn0, w0⟩ : ∃ l, n0 = l.length ∧ ShsAt W (.slice a0 n0 cap0) l (fun k => k < W.heap.size) := by
    obtain ⟨fuel, hf⟩ := h0
    exact shares_of_trod hf
  obtain ⟨i1, rfl, rfl, rfl, w1⟩ := open_int Tryd.underlying5 (hval 1 5 v1 rfl rfl) h1
  have hT := tab_of_laid hL
  clear hA0 hval0
  refine (walk a0 n0 cap0 l0 i1 W hn0 w0 w1 hT).mono fun e W' ⟨he, hoff⟩ => ?_
  have bel : Below W.heap.size W W' := hoff.below (Nat.le_refl _) (fun _ _ c => c)
  subst he
  exact ⟨_, rfl, _, _, _, [], _, [], hW', trodAll_mk1 (shut_bool Tryd.underlying4 _), (trodAll_cons_mk (Below.trod laidOut (by kernel_rfl) (of_decide_eq_true (by kernel_rfl)) k0 bel lt0) (trodAll_cons_mk (shut_int Tryd.underlying5 w1) trodAll_mk0)), rfl, bel.frame _, fun h => by cases h⟩

theorem over : Rows.paramsForgetOrderRow.holds Tryd.pinned (OpenSpec.ofChange Rows.paramsForgetOrderSpec) :=
  OpenClaim.holds_of_wide 7 Tryd.f7 rfl rfl rfl rfl rfl rfl rfl ⟨rfl, rfl, rfl, rfl, rfl⟩ rfl rfl rfl rfl rfl (by kernel_rfl) Tryd.func7 (by kernel_rfl)
    (of_decide_eq_true (by kernel_rfl)) (by unfold Func.isWrapper; first | (rw [if_pos (by decide +kernel)]; kernel_rfl) | (rw [if_neg (by decide +kernel)]; exact ⟨rfl, rfl⟩))
    (fun os started H enc _ => lifted os started H enc)

theorem proved : Rows.ParamsForgetOrderCardSaid :=
  Claim7.holds_tied_plain_at .later [] [.data] true (true, "ea8bdea48650b0fa9e78c562e70f8a09a96d303cc992c6aef33c8898e21f7be9") false
    over (fun _ h => by cases h) (by kernel_rfl) (fun _ h => by cases h) paramsForgetOrder_row_tie rfl ⟨rfl, rfl⟩ (by kernel_rfl) rfl
    (fun f fn hf hfn => by
      obtain rfl : f = 7 := Option.some.inj ((show Tryd.prog.funcNamed "sharecore/sharecorelaw15.ParamsForgetOrder" = some 7 by kernel_rfl).symm.trans hf) |>.symm
      obtain rfl : fn = Tryd.f7 := (Option.some.inj (Tryd.func7.symm.trans hfn)).symm
      exact ⟨by kernel_rfl, fun j t ht => by
        rw [Tryd.params7] at ht
        have hm : t ∈ [33, 5] := by simpa using Array.mem_of_getElem? ht
        have hall : ([33, 5].all fun u => !Tryd.prog.wantsStandIn u) = true := by kernel_rfl
        exact (show Tryd.prog.wantsStandIn t = false by simpa using List.all_eq_true.1 hall t hm)⟩)
    (by kernel_rfl)
#print axioms proved
end Go.Proofs.YtmokaikofcbboaaDoor.paramsForgetOrder
