/-
  The events of Deal are those of the reference for the parameters, and there are none together with an error: the statement of P16.4. No condition.
-/
import Derived.Test.YtclehgconbdkpaaDoorRows
import Derived.Test.YtclehgconbdkpaaDoorTie
import Derived.Test.YtclehgconbdkpaaDoorCards
import Derived.LaidMore
import Derived.LaidHandle
import Derived.SevenTiedAt
import Derived.Stop.Joined
import Derived.JoinedOf
import Derived.Test.YtclehgconbdkpaaDoorLimbWords
import Derived.Test.YtclehgconbdkpaaDoorFieldTab
import Derived.Test.YtclehgconbdkpaaDoorDealC
import Derived.Test.YtclehgconbdkpaaDoorDealAlive
import Derived.Test.YtclehgconbdkpaaDoorDealB
import Derived.Test.YtclehgconbdkpaaDoorDealA
import Derived.Test.YtclehgconbdkpaaDoorDealD
import Derived.Test.YtclehgconbdkpaaDoorTapeMore
import Derived.Test.YtclehgconbdkpaaDoorInvClo
import Derived.WalkKit
import Derived.ProofKit
import Derived.OpenShut
import Derived.ShutString
import Derived.ChangeOld
import Derived.Below
namespace Go.Proofs.YtclehgconbdkpaaDoor.dealEvents
open Go.ChangeShapes Go.WideShapes Go.ChangeAt Go.RowKit
set_option linter.unusedVariables false

theorem own : ownKnob Tryd.prog.godebug = none := by kernel_rfl
theorem laidOut : laidOutB Tryd.prog = true := by kernel_rfl

def EvAny (w : World) (v : Value) (es : List Ev) : Prop := EvsAt w v es (fun _ => True)
theorem EvAny.off {w w' : World} {v : Value} {es : List Ev} (h : EvAny w v es) (ho : Off (fun _ => False) w w') : EvAny w' v es := EvsAt.off h ho (fun _ _ _ c => c)
theorem ev_row {B : Nat} {w : World} {v : Value} {es : List Ev} (h : RowE B w v es) : EvAny w v es := (evs_of_own h).mono (fun _ _ _ => trivial)
theorem ev_events {wq wr : World} {t : Option Addr} {es : List Ev} {S : Nat → Prop} (h : Tp wq t es S) (hO : Off (fun _ => False) wq wr) (hl : es.length ≤ 66000) : Calls Tryd.prog 26 #[.pointer t] wr fun e w' => ∃ v, e = .returned v ∧ EvAny w' v es ∧ Off (fun _ => False) wr w' :=
  (events_any t es S wr (h.off0 hO).1 (by omega)).mono fun _ _ ⟨v, h1, h2, h3⟩ => ⟨v, h1, h2.mono (fun _ _ _ => trivial), h3⟩
theorem ev_same {w : World} {v u : Value} {es : List Ev} (h1 : EvAny w v es) (h2 : EvAny w u es) (hl : es.length ≤ 66000) : Calls Tryd.prog 25 #[v, u] w fun e w' => e = .returned (.bool true) ∧ Off (fun _ => False) w w' := by
  have h := same_any v u es es _ _ w h1 h2 (by omega) (by omega)
  rw [show decide (es = es) = true by simp] at h
  exact h
set_option maxRecDepth 100000 in
set_option maxHeartbeats 4000000 in
theorem walk (q0 : Pms) (a0 : Option Addr) (n0 cap0 : Nat) (bs0 : List Nat) (b0 : Option Addr) (m0 dap0 : Nat) (ys0 : List Nat) (w : World) (w0 : q0.ok ∧ n0 = bs0.length ∧ n0 ≤ cap0 ∧ Small bs0 ∧ BsAt w a0 bs0 (fun k => k < w.heap.size) ∧ m0 = ys0.length ∧ m0 ≤ dap0 ∧ Small ys0 ∧ BsAt w b0 ys0 (fun k => k < w.heap.size)) (hT : TabAt w) :
    Calls Tryd.prog 6 #[.agg #[.int .i64 q0.fd, .int .i64 q0.th, .int .i64 q0.sh, .int .i64 q0.ln, .slice a0 n0 cap0, .slice b0 m0 dap0]] w fun e w' => e = .returned (.bool true) ∧ Off (fun _ => False) w w' := by
  have FAL : Hid (∀ W, TabAt W → Calls Tryd.prog 10 #[] W fun e w' => e = .returned (.bool true) ∧ Off (fun _ => False) W w') := Lib.hid (fun W hT => alive16_any W hT)
  have HT := Lib.hid hT
  clear hT
  obtain ⟨hq, hn1, hc1, hs1, hb1, hn2, hc2, hs2, hb2⟩ := w0
  obtain ⟨c, hc⟩ : ∃ c, c = lrg16 q0 n0 m0 := ⟨_, rfl⟩
  have HZ := Lib.hid (show c = 0 → lrg16 q0 n0 m0 = 0 from fun h => hc.symm.trans h)
  have hc01 := lrg16_cases q0 n0 m0
  rw [← hc] at hc01
  have FL := Lib.hid (fun W => large16_any q0 a0 b0 n0 m0 cap0 dap0 W)
  rw [← hc] at FL
  clear hc
  by_cases hbig : c = 1
  · subst hbig
    obtain ⟨fd, th, sh, ln⟩ := q0
    unfold Pms.val at FL
    dsimp only at FL ⊢
    clear hq hn1 hc1 hs1 hb1 hn2 hc2 hs2 hb2 HZ hc01
    obtain ⟨W0, hW0⟩ : ∃ W0, W0 = w.alloc (.cells #[.int .i64 fd, .int .i64 th, .int .i64 sh, .int .i64 ln, .slice a0 n0 cap0, .slice b0 m0 dap0] 26) := ⟨_, rfl⟩
    have HO0 := Lib.hid (show Off (fun _ => False) w W0 by rw [hW0]; exact (Off.refl _ w).alloc _)
    have HG0 := Lib.hid (show W0.heap[w.heap.size]? = some (.cells #[.int .i64 fd, .int .i64 th, .int .i64 sh, .int .i64 ln, .slice a0 n0 cap0, .slice b0 m0 dap0] 26 (0, 0)) by rw [hW0]; exact heap_new' rfl _)
    have HW0 := Lib.hid hW0
    clear hW0
    go_enter Tryd.func6, Tryd.ntmps6
    go_upto_region 1 with fail
    rw [← HW0.out]
    have g := HG0.out
    have p0 := cell_of_heap g 0
    have p1 := cell_of_heap g 1
    have p2 := cell_of_heap g 2
    have p3 := cell_of_heap g 3
    have p4 := cell_of_heap g 4
    have p5 := cell_of_heap g 5
    have lp := heap_lt g
    clear g
    go_wp2_with fail
    refine (FL.out _).mono ?_
    rintro e u1 ⟨rfl, hO⟩
    have HO1 := Lib.hid (HO0.out.trans hO (fun _ _ c => c))
    have HG1 := Lib.hid (hO.heap HG0.out (fun c => c))
    clear hO
    clear p0 p1 p2 p3 p4 p5 lp
    go_wp2_with fail
    refine (FAL.out _ (HT.out.off HO1.out)).mono ?_
    rintro e u2 ⟨rfl, hO⟩
    have HO2 := Lib.hid (HO1.out.trans hO (fun _ _ c => c))
    clear hO
    go_wp2
    go_ret
    exact ⟨rfl, HO2.out⟩
  · obtain rfl : c = 0 := by omega
    have hz := HZ.out rfl
    have hz2 := lrg16_zero hz
    clear hbig hc01 HZ
    obtain ⟨r, hr⟩ : ∃ r, r = polE q0 bs0 ys0 := ⟨_, rfl⟩
    have hbd : polE q0 bs0 ys0 = 0 → (dealEv q0.cn q0.T q0.sh.toNat).length ≤ 66000 := fun h0 => by
      have h1 := polE_ok h0
      exact ev_bound hz h1.1 (by omega)
    have FD := Lib.hid (fun W (h : Off (fun _ => False) w W) t S hS hT => deal_deal q0 hq a0 b0 n0 m0 cap0 dap0 bs0 ys0 (fun k => k < w.heap.size) W (fun k hk => Nat.lt_of_lt_of_le hk h.size) hn1 hn2 hc1 hc2 hs1 hs2 (by omega) (by omega) (hb1.off h (fun _ _ _ c => c)) (hb2.off h (fun _ _ _ c => c)) t [] S hS (fun h0 => by have := hbd h0; simp; omega) hT)
    have FR := Lib.hid (fun W (h : Off (fun _ => False) w W) => refpols_any q0 hq a0 b0 n0 m0 cap0 dap0 bs0 ys0 (fun k => k < w.heap.size) W (fun k hk => Nat.lt_of_lt_of_le hk h.size) hn1 hn2 hc1 hc2 hs1 hs2 (by omega) (by omega) (hb1.off h (fun _ _ _ c => c)) (hb2.off h (fun _ _ _ c => c)))
    rw [← hr] at FD FR
    by_cases h0 : r = 0
    · have hok := (polE_ok (hr.symm.trans h0)).1
      have hb := hbd (hr.symm.trans h0)
      obtain ⟨evs, hevs⟩ : ∃ evs, evs = dealEv q0.cn q0.T q0.sh.toNat := ⟨_, rfl⟩
      have FEV := Lib.hid (fun W => (refevs_any q0 hq hok (by rw [dealEv_len] at hb; omega) W).mono (fun e w' h => show ∃ v, e = .returned v ∧ EvAny w' v evs ∧ Off (fun _ => False) W w' from by
        obtain ⟨v, he, h1, h2⟩ := h
        exact ⟨v, he, hevs ▸ ev_row h1, h2⟩))
      rw [← hevs] at hb
      rw [← hevs] at FD
      have HLe := Lib.hid hb
      subst h0
      obtain ⟨fd, th, sh, ln⟩ := q0
      unfold Pms.val at FL FD FR FEV
      dsimp only at FL FD FR FEV ⊢
      clear hq hn1 hc1 hs1 hb1 hn2 hc2 hs2 hb2 hz hz2 hr hok hevs hb hbd
      obtain ⟨W0, hW0⟩ : ∃ W0, W0 = w.alloc (.cells #[.int .i64 fd, .int .i64 th, .int .i64 sh, .int .i64 ln, .slice a0 n0 cap0, .slice b0 m0 dap0] 26) := ⟨_, rfl⟩
      have HO0 := Lib.hid (show Off (fun _ => False) w W0 by rw [hW0]; exact (Off.refl _ w).alloc _)
      have HG0 := Lib.hid (show W0.heap[w.heap.size]? = some (.cells #[.int .i64 fd, .int .i64 th, .int .i64 sh, .int .i64 ln, .slice a0 n0 cap0, .slice b0 m0 dap0] 26 (0, 0)) by rw [hW0]; exact heap_new' rfl _)
      have HW0 := Lib.hid hW0
      clear hW0
      go_enter Tryd.func6, Tryd.ntmps6
      go_upto_region 1 with fail
      rw [← HW0.out]
      have g := HG0.out
      have p0 := cell_of_heap g 0
      have p1 := cell_of_heap g 1
      have p2 := cell_of_heap g 2
      have p3 := cell_of_heap g 3
      have p4 := cell_of_heap g 4
      have p5 := cell_of_heap g 5
      have lp := heap_lt g
      clear g
      go_wp2_with fail
      refine (FL.out _).mono ?_
      rintro e u1 ⟨rfl, hO⟩
      have HO1 := Lib.hid (HO0.out.trans hO (fun _ _ c => c))
      have HG1 := Lib.hid (hO.heap HG0.out (fun c => c))
      clear hO
      clear p0 p1 p2 p3 p4 p5 lp
      go_wp2_with fail
      refine (new_tp _).mono ?_
      rintro e u2 ⟨rfl, hTp, hO⟩
      obtain ⟨tb, htb⟩ : ∃ tb, tb = u1.heap.size := ⟨_, rfl⟩
      rw [← htb] at hTp ⊢
      have HO2 := Lib.hid (HO1.out.trans hO (fun _ _ c => c))
      have HG2 := Lib.hid (hO.heap HG1.out (fun c => c))
      have HTP := Lib.hid hTp
      have HTB := Lib.hid (show w.heap.size < tb by rw [htb]; exact heap_lt HG1.out)
      clear hO hTp htb
      have g := HG2.out
      have p0 := cell_of_heap g 0
      have p1 := cell_of_heap g 1
      have p2 := cell_of_heap g 2
      have p3 := cell_of_heap g 3
      have p4 := cell_of_heap g 4
      have p5 := cell_of_heap g 5
      have lp := heap_lt g
      clear g
      go_wp2_with fail
      refine (FD.out _ HO2.out _ _ HTP.out (HT.out.off HO2.out)).mono ?_
      rintro e u3 ⟨v3, rfl, hA, hB, hO⟩
      have hO' : Off (fun j => tb ≤ j) u2 u3 := hO.mono (fun k _ hk => hk.1)
      have HO3 := Lib.hid (HO2.out.trans hO' (fun k hk e => by have := HTB.out; omega))
      have HG3 := Lib.hid (hO'.heap HG2.out (fun e => by have := HTB.out; omega))
      clear p0 p1 p2 p3 p4 p5 lp
      obtain ⟨_, S', hT3, _⟩ := hB (by simp)
      rw [ext_new] at hT3
      have HTp := Lib.hid hT3
      clear hA hB hO hO' hT3
      have g := HG3.out
      have p0 := cell_of_heap g 0
      have p1 := cell_of_heap g 1
      have p2 := cell_of_heap g 2
      have p3 := cell_of_heap g 3
      have p4 := cell_of_heap g 4
      have p5 := cell_of_heap g 5
      have lp := heap_lt g
      clear g
      go_wp2_with fail
      refine (FR.out _ HO3.out).mono ?_
      rintro e u4 ⟨v4, rfl, _, hO⟩
      have HO4 := Lib.hid (HO3.out.trans hO (fun _ _ c => c))
      have HG3 := Lib.hid (hO.heap HG3.out (fun c => c))
      have HTp := Lib.hid (HTp.out.off0 hO)
      clear hO
      clear p0 p1 p2 p3 p4 p5 lp
      obtain ⟨wq, hwq⟩ : ∃ wq, wq = u4 := ⟨_, rfl⟩
      rw [← hwq] at HO4 HG3 HTp ⊢
      clear hwq
      have HTq := Lib.hid (HT.out.off HO4.out)
      go_upto_region 8 with fail
      obtain ⟨x52, hx⟩ : ∃ vv : Value, vv = .bool true := ⟨_, rfl⟩
      have X52 := Lib.hid hx
      clear hx
      obtain ⟨x53, hx⟩ : ∃ vv : Value, vv = .bool true := ⟨_, rfl⟩
      have X53 := Lib.hid hx
      clear hx
      obtain ⟨x54, hx⟩ : ∃ vv : Value, vv = .int .i64 0 := ⟨_, rfl⟩
      have X54 := Lib.hid hx
      clear hx
      obtain ⟨x55, hx⟩ : ∃ vv : Value, vv = .bool true := ⟨_, rfl⟩
      have X55 := Lib.hid hx
      clear hx
      obtain ⟨x56, hx⟩ : ∃ vv : Value, vv = .bool true := ⟨_, rfl⟩
      have X56 := Lib.hid hx
      clear hx
      obtain ⟨x57, hx⟩ : ∃ vv : Value, vv = .bool true := ⟨_, rfl⟩
      have X57 := Lib.hid hx
      clear hx
      obtain ⟨x58, hx⟩ : ∃ vv : Value, vv = .pointer (some ⟨tb, 0, none⟩) := ⟨_, rfl⟩
      have X58 := Lib.hid hx
      clear hx
      obtain ⟨x60, hx⟩ : ∃ vv : Value, vv = .pointer (some ⟨w.heap.size, 0, none⟩) := ⟨_, rfl⟩
      have X60 := Lib.hid hx
      clear hx
      obtain ⟨x61, hx⟩ : ∃ vv : Value, vv = .agg #[.int .i64 fd, .int .i64 th, .int .i64 sh, .int .i64 ln] := ⟨_, rfl⟩
      have X61 := Lib.hid hx
      clear hx
      obtain ⟨x63, hx⟩ : ∃ vv : Value, vv = .bool true := ⟨_, rfl⟩
      have X63 := Lib.hid hx
      clear hx
      obtain ⟨x64, hx⟩ : ∃ vv : Value, vv = .bool true := ⟨_, rfl⟩
      have X64 := Lib.hid hx
      clear hx
      obtain ⟨x2, hx⟩ : ∃ vv : Value, vv = .bool true := ⟨_, rfl⟩
      have X2 := Lib.hid hx
      clear hx
      refine wp_region_clo (fun a0 l a' w' => ∃ (ve : Value) (vg : Value), a' = (Act.put (fill a0 52 [sel (l 0) x52 (undef), sel (l 1) x53 (undef), sel (l 2) x54 (undef), sel (l 3) x55 (undef), sel (l 4) x56 (undef), sel (l 5) x57 (undef), sel (l 6) x58 (undef), sel (l 7) (ve) (undef), sel (l 8) x60 (undef), sel (l 9) x61 (undef), sel (l 10) (vg) (undef), sel (l 11) x63 (undef), sel (l 12) x64 (undef)]) (some 2) (sel (l 13) x2 (.bool false))) ∧ Off (fun _ => False) wq w' ∧ (l 7 = true → EvAny w' ve evs) ∧ (l 10 = true → EvAny w' vg evs)) (by kernel_rfl) (by kernel_rfl) ?_ ⟨?_, ?_, ?_, ?_, ?_, ?_, ?_, ?_, ?_, ?_, ?_, ?_, ?_, ?_, trivial⟩ ?_
      · refine ⟨undef, undef, ?_, (Off.refl _ wq).drew, (fun h => by cases h), (fun h => by cases h)⟩
        simp only [fill_eq, List.take_succ_cons, List.take_zero, List.cons_append, List.nil_append, Act.put, List.setIfInBounds_toArray, List.set_cons_zero, List.set_cons_succ, sel_start]
        try rfl
      · as_aux_lemma =>
          rintro l a wr ⟨ve, vg, ha, hO, h7, h10⟩ hc hl hd K' hK
          have hx := X52.out; subst hx
          simp only [fill_eq, List.take_succ_cons, List.take_zero, List.cons_append, List.nil_append, Act.put, List.setIfInBounds_toArray, List.set_cons_zero, List.set_cons_succ] at ha
          subst ha
          have H7 := Lib.hid h7
          clear h7
          have H10 := Lib.hid h10
          clear h10
          rw [if_pos (by rfl)]
          go_simp
          refine (FAL.out wr (HTq.out.off hO)).mono ?_
          rintro e w1 ⟨rfl, hO1⟩
          go_wp2_with fail
          refine Shut.out hK _ _ ⟨ve, vg, ?_, (hO.trans hO1 (fun _ _ c => c)), (fun h => EvAny.off (H7.out (show l 7 = true by rwa [upd_ne l (by decide)] at h)) hO1), (fun h => EvAny.off (H10.out (show l 10 = true by rwa [upd_ne l (by decide)] at h)) hO1)⟩
          simp only [fill_eq, List.take_succ_cons, List.take_zero, List.cons_append, List.nil_append, Act.put, List.setIfInBounds_toArray, List.set_cons_zero, List.set_cons_succ, sel_new]
          try rfl
      · as_aux_lemma =>
          rintro l a wr ⟨ve, vg, ha, hO, h7, h10⟩ hc hl hd K' hK
          have d0 := hd 0 (by decide)
          have hx := X52.out; subst hx
          have hx := X53.out; subst hx
          simp only [fill_eq, List.take_succ_cons, List.take_zero, List.cons_append, List.nil_append, Act.put, List.setIfInBounds_toArray, List.set_cons_zero, List.set_cons_succ, sel_of d0] at ha
          subst ha
          have H7 := Lib.hid h7
          clear h7
          have H10 := Lib.hid h10
          clear h10
          rw [if_pos (by rfl)]
          go_simp
          refine Shut.out hK _ _ ⟨ve, vg, ?_, hO, (fun h => EvAny.off (H7.out (show l 7 = true by rwa [upd_ne l (by decide)] at h)) (Off.refl (fun _ => False) wr)), (fun h => EvAny.off (H10.out (show l 10 = true by rwa [upd_ne l (by decide)] at h)) (Off.refl (fun _ => False) wr))⟩
          simp only [fill_eq, List.take_succ_cons, List.take_zero, List.cons_append, List.nil_append, Act.put, List.setIfInBounds_toArray, List.set_cons_zero, List.set_cons_succ, sel_new, sel_dep d0]
          try rfl
      · as_aux_lemma =>
          rintro l a wr ⟨ve, vg, ha, hO, h7, h10⟩ hc hl hd K' hK
          have d1 := hd 1 (by decide)
          have hx := X53.out; subst hx
          have hx := X54.out; subst hx
          simp only [fill_eq, List.take_succ_cons, List.take_zero, List.cons_append, List.nil_append, Act.put, List.setIfInBounds_toArray, List.set_cons_zero, List.set_cons_succ, sel_of d1] at ha
          subst ha
          have H7 := Lib.hid h7
          clear h7
          have H10 := Lib.hid h10
          clear h10
          rw [if_pos (by rfl)]
          go_simp
          refine Shut.out hK _ _ ⟨ve, vg, ?_, hO, (fun h => EvAny.off (H7.out (show l 7 = true by rwa [upd_ne l (by decide)] at h)) (Off.refl (fun _ => False) wr)), (fun h => EvAny.off (H10.out (show l 10 = true by rwa [upd_ne l (by decide)] at h)) (Off.refl (fun _ => False) wr))⟩
          simp only [fill_eq, List.take_succ_cons, List.take_zero, List.cons_append, List.nil_append, Act.put, List.setIfInBounds_toArray, List.set_cons_zero, List.set_cons_succ, sel_new, sel_dep d1]
          try rfl
      · as_aux_lemma =>
          rintro l a wr ⟨ve, vg, ha, hO, h7, h10⟩ hc hl hd K' hK
          have d1 := hd 1 (by decide)
          have d2 := hd 2 (by decide)
          have hx := X53.out; subst hx
          have hx := X54.out; subst hx
          have hx := X55.out; subst hx
          simp only [fill_eq, List.take_succ_cons, List.take_zero, List.cons_append, List.nil_append, Act.put, List.setIfInBounds_toArray, List.set_cons_zero, List.set_cons_succ, sel_of d1, sel_of d2] at ha
          subst ha
          have H7 := Lib.hid h7
          clear h7
          have H10 := Lib.hid h10
          clear h10
          rw [if_pos (by rfl)]
          go_simp
          refine Shut.out hK _ _ ⟨ve, vg, ?_, hO, (fun h => EvAny.off (H7.out (show l 7 = true by rwa [upd_ne l (by decide)] at h)) (Off.refl (fun _ => False) wr)), (fun h => EvAny.off (H10.out (show l 10 = true by rwa [upd_ne l (by decide)] at h)) (Off.refl (fun _ => False) wr))⟩
          simp only [fill_eq, List.take_succ_cons, List.take_zero, List.cons_append, List.nil_append, Act.put, List.setIfInBounds_toArray, List.set_cons_zero, List.set_cons_succ, sel_new, sel_dep d1, sel_dep d2]
          try rfl
      · as_aux_lemma =>
          rintro l a wr ⟨ve, vg, ha, hO, h7, h10⟩ hc hl hd K' hK
          have d1 := hd 1 (by decide)
          have d3 := hd 3 (by decide)
          have hx := X53.out; subst hx
          have hx := X55.out; subst hx
          have hx := X56.out; subst hx
          simp only [fill_eq, List.take_succ_cons, List.take_zero, List.cons_append, List.nil_append, Act.put, List.setIfInBounds_toArray, List.set_cons_zero, List.set_cons_succ, sel_of d1, sel_of d3] at ha
          subst ha
          have H7 := Lib.hid h7
          clear h7
          have H10 := Lib.hid h10
          clear h10
          rw [if_pos (by rfl)]
          go_simp
          refine Shut.out hK _ _ ⟨ve, vg, ?_, hO, (fun h => EvAny.off (H7.out (show l 7 = true by rwa [upd_ne l (by decide)] at h)) (Off.refl (fun _ => False) wr)), (fun h => EvAny.off (H10.out (show l 10 = true by rwa [upd_ne l (by decide)] at h)) (Off.refl (fun _ => False) wr))⟩
          simp only [fill_eq, List.take_succ_cons, List.take_zero, List.cons_append, List.nil_append, Act.put, List.setIfInBounds_toArray, List.set_cons_zero, List.set_cons_succ, sel_new, sel_dep d1, sel_dep d3]
          try rfl
      · as_aux_lemma =>
          rintro l a wr ⟨ve, vg, ha, hO, h7, h10⟩ hc hl hd K' hK
          have d4 := hd 4 (by decide)
          have hx := X56.out; subst hx
          have hx := X57.out; subst hx
          simp only [fill_eq, List.take_succ_cons, List.take_zero, List.cons_append, List.nil_append, Act.put, List.setIfInBounds_toArray, List.set_cons_zero, List.set_cons_succ, sel_of d4] at ha
          subst ha
          have H7 := Lib.hid h7
          clear h7
          have H10 := Lib.hid h10
          clear h10
          rw [if_pos (by rfl)]
          go_simp
          refine Shut.out hK _ _ ⟨ve, vg, ?_, hO, (fun h => EvAny.off (H7.out (show l 7 = true by rwa [upd_ne l (by decide)] at h)) (Off.refl (fun _ => False) wr)), (fun h => EvAny.off (H10.out (show l 10 = true by rwa [upd_ne l (by decide)] at h)) (Off.refl (fun _ => False) wr))⟩
          simp only [fill_eq, List.take_succ_cons, List.take_zero, List.cons_append, List.nil_append, Act.put, List.setIfInBounds_toArray, List.set_cons_zero, List.set_cons_succ, sel_new, sel_dep d4]
          try rfl
      · as_aux_lemma =>
          rintro l a wr ⟨ve, vg, ha, hO, h7, h10⟩ hc hl hd K' hK
          have d5 := hd 5 (by decide)
          have hx := X57.out; subst hx
          have hx := X58.out; subst hx
          simp only [fill_eq, List.take_succ_cons, List.take_zero, List.cons_append, List.nil_append, Act.put, List.setIfInBounds_toArray, List.set_cons_zero, List.set_cons_succ, sel_of d5] at ha
          subst ha
          have H7 := Lib.hid h7
          clear h7
          have H10 := Lib.hid h10
          clear h10
          rw [if_pos (by rfl)]
          go_simp
          refine Shut.out hK _ _ ⟨ve, vg, ?_, hO, (fun h => EvAny.off (H7.out (show l 7 = true by rwa [upd_ne l (by decide)] at h)) (Off.refl (fun _ => False) wr)), (fun h => EvAny.off (H10.out (show l 10 = true by rwa [upd_ne l (by decide)] at h)) (Off.refl (fun _ => False) wr))⟩
          simp only [fill_eq, List.take_succ_cons, List.take_zero, List.cons_append, List.nil_append, Act.put, List.setIfInBounds_toArray, List.set_cons_zero, List.set_cons_succ, sel_new, sel_dep d5]
          try rfl
      · as_aux_lemma =>
          rintro l a wr ⟨ve, vg, ha, hO, h7, h10⟩ hc hl hd K' hK
          have d5 := hd 5 (by decide)
          have d6 := hd 6 (by decide)
          have hx := X57.out; subst hx
          have hx := X58.out; subst hx
          have g11 := hc.not (i := 11) hl 14 (by kernel_rfl)
          have g12 := hc.not (i := 12) hl 14 (by kernel_rfl)
          have g13 := hc.not (i := 13) hl 14 (by kernel_rfl)
          simp only [fill_eq, List.take_succ_cons, List.take_zero, List.cons_append, List.nil_append, Act.put, List.setIfInBounds_toArray, List.set_cons_zero, List.set_cons_succ, sel_of d5, sel_of d6, sel_no g11, sel_no g12, sel_no g13, sel_no hl] at ha
          subst ha
          have G11 := Lib.hid g11
          clear g11
          have G12 := Lib.hid g12
          clear g12
          have G13 := Lib.hid g13
          clear g13
          have H7 := Lib.hid h7
          clear h7
          have H10 := Lib.hid h10
          clear h10
          rw [if_pos (by rfl)]
          go_simp
          refine (ev_events HTp.out hO HLe.out).mono ?_
          rintro e w1 ⟨ve', rfl, hP1, hO1⟩
          go_wp2_with fail
          refine Shut.out hK _ _ ⟨ve', vg, ?_, (hO.trans hO1 (fun _ _ c => c)), (fun _ => hP1), (fun h => EvAny.off (H10.out (show l 10 = true by rwa [upd_ne l (by decide)] at h)) hO1)⟩
          simp only [fill_eq, List.take_succ_cons, List.take_zero, List.cons_append, List.nil_append, Act.put, List.setIfInBounds_toArray, List.set_cons_zero, List.set_cons_succ, sel_new, sel_dep d5, sel_dep d6, sel_no (show upd l 7 11 = false by rw [upd_ne l (by decide)]; exact G11.out), sel_no (show upd l 7 12 = false by rw [upd_ne l (by decide)]; exact G12.out), sel_no (show upd l 7 13 = false by rw [upd_ne l (by decide)]; exact G13.out)]
          try rfl
      · as_aux_lemma =>
          rintro l a wr ⟨ve, vg, ha, hO, h7, h10⟩ hc hl hd K' hK
          have d5 := hd 5 (by decide)
          have hx := X57.out; subst hx
          have hx := X60.out; subst hx
          simp only [fill_eq, List.take_succ_cons, List.take_zero, List.cons_append, List.nil_append, Act.put, List.setIfInBounds_toArray, List.set_cons_zero, List.set_cons_succ, sel_of d5] at ha
          subst ha
          have H7 := Lib.hid h7
          clear h7
          have H10 := Lib.hid h10
          clear h10
          have hlq := heap_lt (hO.heap HG3.out (fun c => c))
          rw [if_pos (by rfl)]
          go_simp
          refine Shut.out hK _ _ ⟨ve, vg, ?_, hO, (fun h => EvAny.off (H7.out (show l 7 = true by rwa [upd_ne l (by decide)] at h)) (Off.refl (fun _ => False) wr)), (fun h => EvAny.off (H10.out (show l 10 = true by rwa [upd_ne l (by decide)] at h)) (Off.refl (fun _ => False) wr))⟩
          simp only [fill_eq, List.take_succ_cons, List.take_zero, List.cons_append, List.nil_append, Act.put, List.setIfInBounds_toArray, List.set_cons_zero, List.set_cons_succ, sel_new, sel_dep d5]
          try rfl
      · as_aux_lemma =>
          rintro l a wr ⟨ve, vg, ha, hO, h7, h10⟩ hc hl hd K' hK
          have d5 := hd 5 (by decide)
          have d8 := hd 8 (by decide)
          have hx := X57.out; subst hx
          have hx := X60.out; subst hx
          have hx := X61.out; subst hx
          simp only [fill_eq, List.take_succ_cons, List.take_zero, List.cons_append, List.nil_append, Act.put, List.setIfInBounds_toArray, List.set_cons_zero, List.set_cons_succ, sel_of d5, sel_of d8] at ha
          subst ha
          have H7 := Lib.hid h7
          clear h7
          have H10 := Lib.hid h10
          clear h10
          have g := hO.heap HG3.out (fun c => c)
          have p0 := cell_of_heap g 0
          have p1 := cell_of_heap g 1
          have p2 := cell_of_heap g 2
          have p3 := cell_of_heap g 3
          have hlq := heap_lt g
          clear g
          rw [if_pos (by rfl)]
          go_simp
          refine Shut.out hK _ _ ⟨ve, vg, ?_, hO, (fun h => EvAny.off (H7.out (show l 7 = true by rwa [upd_ne l (by decide)] at h)) (Off.refl (fun _ => False) wr)), (fun h => EvAny.off (H10.out (show l 10 = true by rwa [upd_ne l (by decide)] at h)) (Off.refl (fun _ => False) wr))⟩
          simp only [fill_eq, List.take_succ_cons, List.take_zero, List.cons_append, List.nil_append, Act.put, List.setIfInBounds_toArray, List.set_cons_zero, List.set_cons_succ, sel_new, sel_dep d5, sel_dep d8]
          try rfl
      · as_aux_lemma =>
          rintro l a wr ⟨ve, vg, ha, hO, h7, h10⟩ hc hl hd K' hK
          have d5 := hd 5 (by decide)
          have d9 := hd 9 (by decide)
          have hx := X57.out; subst hx
          have hx := X61.out; subst hx
          have g11 := hc.not (i := 11) hl 14 (by kernel_rfl)
          have g12 := hc.not (i := 12) hl 14 (by kernel_rfl)
          have g13 := hc.not (i := 13) hl 14 (by kernel_rfl)
          simp only [fill_eq, List.take_succ_cons, List.take_zero, List.cons_append, List.nil_append, Act.put, List.setIfInBounds_toArray, List.set_cons_zero, List.set_cons_succ, sel_of d5, sel_of d9, sel_no g11, sel_no g12, sel_no g13, sel_no hl] at ha
          subst ha
          have G11 := Lib.hid g11
          clear g11
          have G12 := Lib.hid g12
          clear g12
          have G13 := Lib.hid g13
          clear g13
          have H7 := Lib.hid h7
          clear h7
          have H10 := Lib.hid h10
          clear h10
          rw [if_pos (by rfl)]
          go_simp
          refine (FEV.out wr).mono ?_
          rintro e w1 ⟨vg', rfl, hP1, hO1⟩
          go_wp2_with fail
          refine Shut.out hK _ _ ⟨ve, vg', ?_, (hO.trans hO1 (fun _ _ c => c)), (fun h => EvAny.off (H7.out (show l 7 = true by rwa [upd_ne l (by decide)] at h)) hO1), (fun _ => hP1)⟩
          simp only [fill_eq, List.take_succ_cons, List.take_zero, List.cons_append, List.nil_append, Act.put, List.setIfInBounds_toArray, List.set_cons_zero, List.set_cons_succ, sel_new, sel_dep d5, sel_dep d9, sel_no (show upd l 10 11 = false by rw [upd_ne l (by decide)]; exact G11.out), sel_no (show upd l 10 12 = false by rw [upd_ne l (by decide)]; exact G12.out), sel_no (show upd l 10 13 = false by rw [upd_ne l (by decide)]; exact G13.out)]
          try rfl
      · as_aux_lemma =>
          rintro l a wr ⟨ve, vg, ha, hO, h7, h10⟩ hc hl hd K' hK
          have d5 := hd 5 (by decide)
          have d7 := hd 7 (by decide)
          have d10 := hd 10 (by decide)
          have hx := X57.out; subst hx
          have hx := X63.out; subst hx
          simp only [fill_eq, List.take_succ_cons, List.take_zero, List.cons_append, List.nil_append, Act.put, List.setIfInBounds_toArray, List.set_cons_zero, List.set_cons_succ, sel_of d5, sel_of d7, sel_of d10] at ha
          subst ha
          have q7 := h7 d7
          have Q7 := Lib.hid q7
          clear q7
          have q10 := h10 d10
          have Q10 := Lib.hid q10
          clear q10
          have H7 := Lib.hid h7
          clear h7
          have H10 := Lib.hid h10
          clear h10
          rw [if_pos (by rfl)]
          go_simp
          refine (ev_same Q7.out Q10.out HLe.out).mono ?_
          rintro e w1 ⟨rfl, hO1⟩
          go_wp2_with fail
          refine Shut.out hK _ _ ⟨ve, vg, ?_, (hO.trans hO1 (fun _ _ c => c)), (fun h => EvAny.off (H7.out (show l 7 = true by rwa [upd_ne l (by decide)] at h)) hO1), (fun h => EvAny.off (H10.out (show l 10 = true by rwa [upd_ne l (by decide)] at h)) hO1)⟩
          simp only [fill_eq, List.take_succ_cons, List.take_zero, List.cons_append, List.nil_append, Act.put, List.setIfInBounds_toArray, List.set_cons_zero, List.set_cons_succ, sel_new, sel_dep d5, sel_dep d7, sel_dep d10]
          try rfl
      · as_aux_lemma =>
          rintro l a wr ⟨ve, vg, ha, hO, h7, h10⟩ hc hl hd K' hK
          have d5 := hd 5 (by decide)
          have d11 := hd 11 (by decide)
          have hx := X57.out; subst hx
          have hx := X63.out; subst hx
          have hx := X64.out; subst hx
          simp only [fill_eq, List.take_succ_cons, List.take_zero, List.cons_append, List.nil_append, Act.put, List.setIfInBounds_toArray, List.set_cons_zero, List.set_cons_succ, sel_of d5, sel_of d11] at ha
          subst ha
          have q7 := h7 (hc.up 14 11 7 d11 (by kernel_rfl))
          have Q7 := Lib.hid q7
          clear q7
          have q10 := h10 (hc.up 14 11 10 d11 (by kernel_rfl))
          have Q10 := Lib.hid q10
          clear q10
          have H7 := Lib.hid h7
          clear h7
          have H10 := Lib.hid h10
          clear h10
          rw [if_pos (by rfl)]
          go_simp
          refine Shut.out hK _ _ ⟨ve, vg, ?_, hO, (fun h => EvAny.off (H7.out (show l 7 = true by rwa [upd_ne l (by decide)] at h)) (Off.refl (fun _ => False) wr)), (fun h => EvAny.off (H10.out (show l 10 = true by rwa [upd_ne l (by decide)] at h)) (Off.refl (fun _ => False) wr))⟩
          simp only [fill_eq, List.take_succ_cons, List.take_zero, List.cons_append, List.nil_append, Act.put, List.setIfInBounds_toArray, List.set_cons_zero, List.set_cons_succ, sel_new, sel_dep d5, sel_dep d11]
          try rfl
      · as_aux_lemma =>
          rintro l a wr ⟨ve, vg, ha, hO, h7, h10⟩ hc hl hd K' hK
          have d12 := hd 12 (by decide)
          have hx := X64.out; subst hx
          have hx := X2.out; subst hx
          simp only [fill_eq, List.take_succ_cons, List.take_zero, List.cons_append, List.nil_append, Act.put, List.setIfInBounds_toArray, List.set_cons_zero, List.set_cons_succ, sel_of d12] at ha
          subst ha
          have q7 := h7 (hc.up 14 12 7 d12 (by kernel_rfl))
          have Q7 := Lib.hid q7
          clear q7
          have q10 := h10 (hc.up 14 12 10 d12 (by kernel_rfl))
          have Q10 := Lib.hid q10
          clear q10
          have H7 := Lib.hid h7
          clear h7
          have H10 := Lib.hid h10
          clear h10
          rw [if_pos (by rfl)]
          go_simp
          refine Shut.out hK _ _ ⟨ve, vg, ?_, hO, (fun h => EvAny.off (H7.out (show l 7 = true by rwa [upd_ne l (by decide)] at h)) (Off.refl (fun _ => False) wr)), (fun h => EvAny.off (H10.out (show l 10 = true by rwa [upd_ne l (by decide)] at h)) (Off.refl (fun _ => False) wr))⟩
          simp only [fill_eq, List.take_succ_cons, List.take_zero, List.cons_append, List.nil_append, Act.put, List.setIfInBounds_toArray, List.set_cons_zero, List.set_cons_succ, sel_new, sel_dep d12]
          try rfl
      · rintro l a wc ⟨ve, vg, ha, hO, h7, h10⟩ hd
        simp only [fill_eq, List.take_succ_cons, List.take_zero, List.cons_append, List.nil_append, Act.put, List.setIfInBounds_toArray, List.set_cons_zero, List.set_cons_succ, sel_of (hd 0 (by decide)), sel_of (hd 1 (by decide)), sel_of (hd 2 (by decide)), sel_of (hd 3 (by decide)), sel_of (hd 4 (by decide)), sel_of (hd 5 (by decide)), sel_of (hd 6 (by decide)), sel_of (hd 7 (by decide)), sel_of (hd 8 (by decide)), sel_of (hd 9 (by decide)), sel_of (hd 10 (by decide)), sel_of (hd 11 (by decide)), sel_of (hd 12 (by decide)), sel_of (hd 13 (by decide))] at ha
        subst ha
        have hx := X2.out; subst hx
        have q7 := h7 (hd 7 (by decide))
        have q10 := h10 (hd 10 (by decide))
        clear h7 h10
        have HOf := Lib.hid (HO4.out.trans hO (fun _ _ c => c))
        clear hO hd q7 q10
        go_wp2
        go_ret
        exact ⟨rfl, HOf.out⟩
    · have hr0 : ¬ ((r : Int) = 0) := by omega
      have H0 := Lib.hid h0
      obtain ⟨fd, th, sh, ln⟩ := q0
      unfold Pms.val at FL FD FR
      dsimp only at FL FD FR ⊢
      clear hq hn1 hc1 hs1 hb1 hn2 hc2 hs2 hb2 hz hz2 hr h0 hbd
      obtain ⟨W0, hW0⟩ : ∃ W0, W0 = w.alloc (.cells #[.int .i64 fd, .int .i64 th, .int .i64 sh, .int .i64 ln, .slice a0 n0 cap0, .slice b0 m0 dap0] 26) := ⟨_, rfl⟩
      have HO0 := Lib.hid (show Off (fun _ => False) w W0 by rw [hW0]; exact (Off.refl _ w).alloc _)
      have HG0 := Lib.hid (show W0.heap[w.heap.size]? = some (.cells #[.int .i64 fd, .int .i64 th, .int .i64 sh, .int .i64 ln, .slice a0 n0 cap0, .slice b0 m0 dap0] 26 (0, 0)) by rw [hW0]; exact heap_new' rfl _)
      have HW0 := Lib.hid hW0
      clear hW0
      go_enter Tryd.func6, Tryd.ntmps6
      go_upto_region 1 with fail
      rw [← HW0.out]
      have g := HG0.out
      have p0 := cell_of_heap g 0
      have p1 := cell_of_heap g 1
      have p2 := cell_of_heap g 2
      have p3 := cell_of_heap g 3
      have p4 := cell_of_heap g 4
      have p5 := cell_of_heap g 5
      have lp := heap_lt g
      clear g
      go_wp2_with fail
      refine (FL.out _).mono ?_
      rintro e u1 ⟨rfl, hO⟩
      have HO1 := Lib.hid (HO0.out.trans hO (fun _ _ c => c))
      have HG1 := Lib.hid (hO.heap HG0.out (fun c => c))
      clear hO
      clear p0 p1 p2 p3 p4 p5 lp
      go_wp2_with fail
      refine (new_tp _).mono ?_
      rintro e u2 ⟨rfl, hTp, hO⟩
      obtain ⟨tb, htb⟩ : ∃ tb, tb = u1.heap.size := ⟨_, rfl⟩
      rw [← htb] at hTp ⊢
      have HO2 := Lib.hid (HO1.out.trans hO (fun _ _ c => c))
      have HG2 := Lib.hid (hO.heap HG1.out (fun c => c))
      have HTP := Lib.hid hTp
      have HTB := Lib.hid (show w.heap.size < tb by rw [htb]; exact heap_lt HG1.out)
      clear hO hTp htb
      have g := HG2.out
      have p0 := cell_of_heap g 0
      have p1 := cell_of_heap g 1
      have p2 := cell_of_heap g 2
      have p3 := cell_of_heap g 3
      have p4 := cell_of_heap g 4
      have p5 := cell_of_heap g 5
      have lp := heap_lt g
      clear g
      go_wp2_with fail
      refine (FD.out _ HO2.out _ _ HTP.out (HT.out.off HO2.out)).mono ?_
      rintro e u3 ⟨v3, rfl, hA, hB, hO⟩
      have hO' : Off (fun j => tb ≤ j) u2 u3 := hO.mono (fun k _ hk => hk.1)
      have HO3 := Lib.hid (HO2.out.trans hO' (fun k hk e => by have := HTB.out; omega))
      have HG3 := Lib.hid (hO'.heap HG2.out (fun e => by have := HTB.out; omega))
      clear p0 p1 p2 p3 p4 p5 lp
      obtain ⟨rfl, S', hT3, _⟩ := hA H0.out
      rw [ext_nil] at hT3
      have HTp := Lib.hid hT3
      clear hA hB hO hO' hT3
      have g := HG3.out
      have p0 := cell_of_heap g 0
      have p1 := cell_of_heap g 1
      have p2 := cell_of_heap g 2
      have p3 := cell_of_heap g 3
      have p4 := cell_of_heap g 4
      have p5 := cell_of_heap g 5
      have lp := heap_lt g
      clear g
      go_wp2_with fail
      refine (FR.out _ HO3.out).mono ?_
      rintro e u4 ⟨v4, rfl, _, hO⟩
      have HO4 := Lib.hid (HO3.out.trans hO (fun _ _ c => c))
      have HG3 := Lib.hid (hO.heap HG3.out (fun c => c))
      have HTp := Lib.hid (HTp.out.off0 hO)
      clear hO
      clear p0 p1 p2 p3 p4 p5 lp
      go_wp2_with fail
      refine (FAL.out _ (HT.out.off HO4.out)).mono ?_
      rintro e u5 ⟨rfl, hO⟩
      have HO5 := Lib.hid (HO4.out.trans hO (fun _ _ c => c))
      have HTp := Lib.hid (HTp.out.off0 hO)
      clear hO
      go_wp2_with fail
      refine (len_any _ _ _ _ HTp.out.1).mono ?_
      rintro e u6 ⟨rfl, rfl⟩
      go_wp2
      go_ret
      exact ⟨rfl, HO5.out⟩

theorem door_met (os : Os) (args : Array Value) : laidMetH Tryd.prog [("sharecore/field.fields", Rows.laid_sharecore_field_fields)] ((World.doorLaid Tryd.prog 400 os).forCall (fun _ _ => 0) ⟨#[], args, []⟩).memory :=
  laidMetH_of_parts3 (fuel := 8) (laidMet_of_run' 8 (by kernel_rfl) (by kernel_rfl)) (by kernel_rfl) (by kernel_rfl)

set_option maxRecDepth 100000 in
theorem lifted (os : Os) (started : os.Started) (H : Type) (enc : TypeId × Value → H) :
    ReturnsInHanded {} Tryd.checked os 6 .any (fun w args => (Rows.dealEventsSpec.pre enc Tryd.prog Tryd.f6 [] false w args ∧ laidMetH Tryd.prog [("sharecore/field.fields", Rows.laid_sharecore_field_fields)] w) ∧ sizedMet enc Tryd.prog Tryd.f6 (OpenSpec.ofChange Rows.dealEventsSpec) false w args)
      (Rows.dealEventsSpec.post enc Tryd.prog Tryd.f6 false true false false) := by
  refine returnsInHanded_of_change_and (C := Tryd.checked) (X := fun w _ => laidMetH Tryd.prog [("sharecore/field.fields", Rows.laid_sharecore_field_fields)] w) (fun _ _ _ hh h => h.of_heap hh) own started (by kernel_rfl) Tryd.func6
    (ChangeSpec.witness_shaped (enc := enc) (C := Tryd.checked) (os := os) (X := fun w _ => laidMetH Tryd.prog [("sharecore/field.fields", Rows.laid_sharecore_field_fields)] w) false (World.doorLaid Tryd.prog 400 os) #[.agg #[.int .i64 0, .int .i64 0, .int .i64 0, .int .i64 0, .slice none 0 0, .slice none 0 0]] 8 rfl (World.shaped_of_RefB (by kernel_rfl) (by kernel_rfl)) (by kernel_rfl) (by kernel_rfl) (by kernel_rfl) (door_met os _)) ?_
  intro W base args ds gs before hval0 hW _ hsz hL _
  have hval : ∀ (j : Nat) t v, Tryd.f6.params[j]? = some t → args[j]? = some v → Value.okWide Tryd.prog W .any base t v := hval0
  have hW' := hW
  obtain ⟨p, q, hA0, hV, rfl, hfz, hnd⟩ := hW
  have hA : DataW.TrodAll enc Tryd.prog W 0 (fun _ => true) true Tryd.f6.params.toList args.toList ds p := hA0
  rw [Tryd.params6] at hA hval
  obtain ⟨v0, vs0, d0, ds0, p0, q0, hargs, rfl, rfl, h0, r0⟩ := trodAll_cons hA
  obtain ⟨rfl, rfl, rfl⟩ := trodAll_nil r0
  obtain rfl : args = #[v0] := by cases args; simp_all
  obtain ⟨rfl, rfl⟩ := trodVars_none hV
  have k0 := h0
  have lt0 : ∀ x ∈ p0, x.block < W.heap.size := by obtain ⟨m, hm⟩ := k0; exact DataW.trod_lt m _ _ _ hm
  obtain ⟨q0, a0, n0, cap0, bs0, b0, m0, dap0, ys0, w0, rfl⟩ := open_secret (hval 0 26 v0 rfl rfl) h0
  have hT := tab_of_laid hL
  clear hA0 hval0
  refine (walk q0 a0 n0 cap0 bs0 b0 m0 dap0 ys0 W w0 hT).mono fun e W' ⟨he, hoff⟩ => ?_
  have bel : Below W.heap.size W W' := hoff.below (Nat.le_refl _) (fun _ _ c => c)
  subst he
  exact ⟨_, rfl, _, _, _, [], _, [], hW', trodAll_mk1 (shut_bool Tryd.underlying4 _), (trodAll_cons_mk (Below.trod laidOut (by kernel_rfl) (of_decide_eq_true (by kernel_rfl)) k0 bel lt0) trodAll_mk0), rfl, bel.frame _, fun h => by cases h⟩

theorem over : Rows.dealEventsRow.holds Tryd.pinned (OpenSpec.ofChange Rows.dealEventsSpec) :=
  OpenClaim.holds_of_wide 6 Tryd.f6 rfl rfl rfl rfl rfl rfl rfl ⟨rfl, rfl, rfl, rfl, rfl⟩ rfl rfl rfl rfl rfl (by kernel_rfl) Tryd.func6 (by kernel_rfl)
    (of_decide_eq_true (by kernel_rfl)) (by unfold Func.isWrapper; first | (rw [if_pos (by decide +kernel)]; kernel_rfl) | (rw [if_neg (by decide +kernel)]; exact ⟨rfl, rfl⟩))
    (fun os started H enc _ => lifted os started H enc)

theorem proved : Rows.DealEventsCardSaid :=
  Claim7.holds_tied_plain_at .later [] [.data] true (true, "dc9d05a06bd05c20369e2833d9d45cce8227d62a1aa5c978d1cfbc5d369dc45f") false
    over (fun _ h => by cases h) (by kernel_rfl) (fun _ h => by cases h) dealEvents_row_tie rfl ⟨rfl, rfl⟩ (by kernel_rfl) rfl
    (fun f fn hf hfn => by
      obtain rfl : f = 6 := Option.some.inj ((show Tryd.prog.funcNamed "sharecore/sharecorelaw16.DealEvents" = some 6 by kernel_rfl).symm.trans hf) |>.symm
      obtain rfl : fn = Tryd.f6 := (Option.some.inj (Tryd.func6.symm.trans hfn)).symm
      exact ⟨by kernel_rfl, fun j t ht => by
        rw [Tryd.params6] at ht
        have hm : t ∈ [26] := by simpa using Array.mem_of_getElem? ht
        have hall : ([26].all fun u => !Tryd.prog.wantsStandIn u) = true := by kernel_rfl
        exact (show Tryd.prog.wantsStandIn t = false by simpa using List.all_eq_true.1 hall t hm)⟩)
    (by kernel_rfl)
#print axioms proved
end Go.Proofs.YtclehgconbdkpaaDoor.dealEvents
