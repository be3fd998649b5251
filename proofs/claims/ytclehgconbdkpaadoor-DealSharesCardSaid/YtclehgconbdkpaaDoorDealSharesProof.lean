/-
  For all parameters, secrets and random bytes, Deal returns the same shares, or the same error, as the reference: the statement of P16.3. No condition.
-/
import Derived.Test.YtclehgconbdkpaaDoorRows
import Derived.Test.YtclehgconbdkpaaDoorTie
import Derived.Test.YtclehgconbdkpaaDoorCards
import Derived.LaidMore
import Derived.LaidHandle
import Derived.SevenTiedAt
import Derived.Stop.Joined
import Derived.JoinedOf
import Derived.Test.YtclehgconbdkpaaDoorLimbWords
import Derived.Test.YtclehgconbdkpaaDoorFieldTab
import Derived.Test.YtclehgconbdkpaaDoorDealC
import Derived.Test.YtclehgconbdkpaaDoorDealAlive
import Derived.Test.YtclehgconbdkpaaDoorDealB
import Derived.Test.YtclehgconbdkpaaDoorDealA
import Derived.WalkKit
import Derived.ProofKit
import Derived.OpenShut
import Derived.ShutString
import Derived.ChangeOld
import Derived.Below
namespace Go.Proofs.YtclehgconbdkpaaDoor.dealShares
open Go.ChangeShapes Go.WideShapes Go.ChangeAt Go.RowKit
set_option linter.unusedVariables false

theorem own : ownKnob Tryd.prog.godebug = none := by kernel_rfl
theorem laidOut : laidOutB Tryd.prog = true := by kernel_rfl

theorem shs_nil (W : World) : ShsAt W (.slice none 0 0) [] (fun _ => True) := ⟨none, 0, rfl, Nat.le_refl _, Nat.zero_le _, fun _ h => (by cases h), fun h => by simp at h⟩
theorem shs_all {W : World} {v : Value} {l : List Sh} {S : Nat → Prop} (h : ShsAt W v l S) : ShsAt W v l (fun _ => True) := by
  obtain ⟨a, cap, hv, hc, h1, h2, h4⟩ := h
  refine ⟨a, cap, hv, hc, h1, h2, fun hp => ?_⟩
  obtain ⟨b, off, ha, _, hx⟩ := h4 hp
  refine ⟨b, off, ha, trivial, fun j s hj => ?_⟩
  obtain ⟨c0, c1, c2, c3, pa, pc, c4, c5, c6⟩ := hx j s hj
  exact ⟨c0, c1, c2, c3, pa, pc, c4, c5, c6.wide (fun _ _ _ => trivial)⟩
theorem made_l {r B : Nat} {l l' : List Sh} {W : World} {v : Value} {A N : Prop} (hl : l = if r = 0 then l' else []) (h1 : r ≠ 0 → v = .slice none 0 0 ∧ N) (h2 : r = 0 → Made B W v l' ∧ A) : ShsAt W v l (fun _ => True) := by
  by_cases h : r = 0
  · rw [hl, if_pos h]; exact shs_all (h2 h).1
  · rw [hl, if_neg h, (h1 h).1]; exact shs_nil W
theorem refd_l {q : Pms} {r B : Nat} {l : List Sh} {sec rnd : List Nat} {W : World} {v : Value} (hq : q.ok) (hr : r = polE q sec rnd) (hl : l = if r = 0 then shrsN q (modN q.fd) (polsN q sec rnd) else []) (h1 : r = 0 → EvL q (modN q.fd) (polsV q (modN q.fd) sec rnd q.cn) q.sh.toNat B W v) (h2 : r ≠ 0 → v = .slice none 0 0) : ShsAt W v l (fun _ => True) := by
  by_cases h : r = 0
  · have hok := prN_ok (polE_ok (hr.symm.trans h)).1
    have hpos := modN_pos hok.1
    rw [hl, if_pos h, ← shrsN_red]
    exact shs_all (EvL.shs hq (by omega) hpos.2 (by omega) (by rw [polsV_length]; unfold Pms.cn cntI cntN; split <;> omega) (h1 h))
  · rw [hl, if_neg h, h2 h]; exact shs_nil W
set_option maxRecDepth 100000 in
set_option maxHeartbeats 4000000 in
theorem walk (q0 : Pms) (a0 : Option Addr) (n0 cap0 : Nat) (bs0 : List Nat) (b0 : Option Addr) (m0 dap0 : Nat) (ys0 : List Nat) (w : World) (w0 : q0.ok ∧ n0 = bs0.length ∧ n0 ≤ cap0 ∧ Small bs0 ∧ BsAt w a0 bs0 (fun k => k < w.heap.size) ∧ m0 = ys0.length ∧ m0 ≤ dap0 ∧ Small ys0 ∧ BsAt w b0 ys0 (fun k => k < w.heap.size)) (hT : TabAt w) :
    Calls Tryd.prog 4 #[.agg #[.int .i64 q0.fd, .int .i64 q0.th, .int .i64 q0.sh, .int .i64 q0.ln, .slice a0 n0 cap0, .slice b0 m0 dap0]] w fun e w' => e = .returned (.bool true) ∧ Off (fun _ => False) w w' := by
  have FAL : Hid (∀ W, TabAt W → Calls Tryd.prog 10 #[] W fun e w' => e = .returned (.bool true) ∧ Off (fun _ => False) W w') := Lib.hid (fun W hT => alive16_any W hT)
  have HT := Lib.hid hT
  clear hT
  obtain ⟨hq, hn1, hc1, hs1, hb1, hn2, hc2, hs2, hb2⟩ := w0
  obtain ⟨c, hc⟩ : ∃ c, c = lrg16 q0 n0 m0 := ⟨_, rfl⟩
  have HZ := Lib.hid (show c = 0 → lrg16 q0 n0 m0 = 0 from fun h => hc.symm.trans h)
  have hc01 := lrg16_cases q0 n0 m0
  rw [← hc] at hc01
  have FL := Lib.hid (fun W => large16_any q0 a0 b0 n0 m0 cap0 dap0 W)
  rw [← hc] at FL
  clear hc
  by_cases hbig : c = 1
  · subst hbig
    obtain ⟨fd, th, sh, ln⟩ := q0
    unfold Pms.val at FL
    dsimp only at FL ⊢
    clear hq hn1 hc1 hs1 hb1 hn2 hc2 hs2 hb2 HZ hc01
    obtain ⟨W0, hW0⟩ : ∃ W0, W0 = w.alloc (.cells #[.int .i64 fd, .int .i64 th, .int .i64 sh, .int .i64 ln, .slice a0 n0 cap0, .slice b0 m0 dap0] 26) := ⟨_, rfl⟩
    have HO0 := Lib.hid (show Off (fun _ => False) w W0 by rw [hW0]; exact (Off.refl _ w).alloc _)
    have HG0 := Lib.hid (show W0.heap[w.heap.size]? = some (.cells #[.int .i64 fd, .int .i64 th, .int .i64 sh, .int .i64 ln, .slice a0 n0 cap0, .slice b0 m0 dap0] 26 (0, 0)) by rw [hW0]; exact heap_new' rfl _)
    have HW0 := Lib.hid hW0
    clear hW0
    go_enter Tryd.func4, Tryd.ntmps4
    go_upto_region 1 with fail
    rw [← HW0.out]
    have g := HG0.out
    have p0 := cell_of_heap g 0
    have p1 := cell_of_heap g 1
    have p2 := cell_of_heap g 2
    have p3 := cell_of_heap g 3
    have p4 := cell_of_heap g 4
    have p5 := cell_of_heap g 5
    have lp := heap_lt g
    clear g
    go_wp2_with fail
    refine (FL.out _).mono ?_
    rintro e u1 ⟨rfl, hO⟩
    have HO1 := Lib.hid (HO0.out.trans hO (fun _ _ c => c))
    have HG1 := Lib.hid (hO.heap HG0.out (fun c => c))
    clear hO
    clear p0 p1 p2 p3 p4 p5 lp
    go_wp2_with fail
    refine (FAL.out _ (HT.out.off HO1.out)).mono ?_
    rintro e u2 ⟨rfl, hO⟩
    have HO2 := Lib.hid (HO1.out.trans hO (fun _ _ c => c))
    clear hO
    go_wp2
    go_ret
    exact ⟨rfl, HO2.out⟩
  · obtain rfl : c = 0 := by omega
    have hz := HZ.out rfl
    have hz2 := lrg16_zero hz
    clear hbig hc01 HZ
    obtain ⟨r, hr⟩ : ∃ r, r = polE q0 bs0 ys0 := ⟨_, rfl⟩
    have hev : polE q0 bs0 ys0 = 0 → ([] : List Ev).length + (dealEv q0.cn q0.T q0.sh.toNat).length ≤ 70000 := fun h0 => by
      have h1 := polE_ok h0
      have := ev_bound hz h1.1 (by omega)
      simp; omega
    have FD := Lib.hid (fun W (h : Off (fun _ => False) w W) hT => deal_deal q0 hq a0 b0 n0 m0 cap0 dap0 bs0 ys0 (fun k => k < w.heap.size) W (fun k hk => Nat.lt_of_lt_of_le hk h.size) hn1 hn2 hc1 hc2 hs1 hs2 (by omega) (by omega) (hb1.off h (fun _ _ _ c => c)) (hb2.off h (fun _ _ _ c => c)) none [] (fun _ => False) (Tp.none W) hev hT)
    have FR := Lib.hid (fun W (h : Off (fun _ => False) w W) => refdeal_any q0 hq a0 b0 n0 m0 cap0 dap0 bs0 ys0 (fun k => k < w.heap.size) W (fun k hk => Nat.lt_of_lt_of_le hk h.size) hn1 hn2 hc1 hc2 hs1 hs2 (by omega) (by omega) (hb1.off h (fun _ _ _ c => c)) (hb2.off h (fun _ _ _ c => c)))
    rw [← hr] at FD FR
    obtain ⟨l, hl⟩ : ∃ l, l = if r = 0 then shrsN q0 (modN q0.fd) (polsN q0 bs0 ys0) else [] := ⟨_, rfl⟩
    have FD' : Hid (∀ W, Off (fun _ => False) w W → TabAt W → Calls Tryd.prog 14 #[.pointer none, q0.val, .slice a0 n0 cap0, .slice b0 m0 dap0] W fun e w' => ∃ v', e = .returned (.tuple #[v', .int .i64 (r : Int)]) ∧ ShsAt w' v' l (fun _ => True) ∧ Off (fun _ => False) W w') := Lib.hid (fun W h hT => (FD.out W h hT).mono (fun e w' ⟨v', he, h1, h2, h3⟩ => ⟨v', he, made_l hl h1 h2, h3⟩))
    have FR' : Hid (∀ W, Off (fun _ => False) w W → Calls Tryd.prog 15 #[q0.val, .slice a0 n0 cap0, .slice b0 m0 dap0] W fun e w' => ∃ v', e = .returned (.tuple #[v', .int .i64 (r : Int)]) ∧ ShsAt w' v' l (fun _ => True) ∧ Off (fun _ => False) W w') := Lib.hid (fun W h => (FR.out W h).mono (fun e w' ⟨v', he, h1, h2, h3⟩ => ⟨v', he, refd_l hq hr hl h1 h2, h3⟩))
    clear FD FR hev hq hn1 hc1 hs1 hb1 hn2 hc2 hs2 hb2 hz hz2 hr hl
    obtain ⟨fd, th, sh, ln⟩ := q0
    unfold Pms.val at FL FD' FR'
    dsimp only at FL FD' FR' ⊢
    obtain ⟨W0, hW0⟩ : ∃ W0, W0 = w.alloc (.cells #[.int .i64 fd, .int .i64 th, .int .i64 sh, .int .i64 ln, .slice a0 n0 cap0, .slice b0 m0 dap0] 26) := ⟨_, rfl⟩
    have HO0 := Lib.hid (show Off (fun _ => False) w W0 by rw [hW0]; exact (Off.refl _ w).alloc _)
    have HG0 := Lib.hid (show W0.heap[w.heap.size]? = some (.cells #[.int .i64 fd, .int .i64 th, .int .i64 sh, .int .i64 ln, .slice a0 n0 cap0, .slice b0 m0 dap0] 26 (0, 0)) by rw [hW0]; exact heap_new' rfl _)
    have HW0 := Lib.hid hW0
    clear hW0
    go_enter Tryd.func4, Tryd.ntmps4
    go_upto_region 1 with fail
    rw [← HW0.out]
    have g := HG0.out
    have p0 := cell_of_heap g 0
    have p1 := cell_of_heap g 1
    have p2 := cell_of_heap g 2
    have p3 := cell_of_heap g 3
    have p4 := cell_of_heap g 4
    have p5 := cell_of_heap g 5
    have lp := heap_lt g
    clear g
    go_wp2_with fail
    refine (FL.out _).mono ?_
    rintro e u1 ⟨rfl, hO⟩
    have HO1 := Lib.hid (HO0.out.trans hO (fun _ _ c => c))
    have HG1 := Lib.hid (hO.heap HG0.out (fun c => c))
    clear hO
    clear p0 p1 p2 p3 p4 p5 lp
    have g := HG1.out
    have p0 := cell_of_heap g 0
    have p1 := cell_of_heap g 1
    have p2 := cell_of_heap g 2
    have p3 := cell_of_heap g 3
    have p4 := cell_of_heap g 4
    have p5 := cell_of_heap g 5
    have lp := heap_lt g
    clear g
    go_wp2_with fail
    refine (FD'.out _ HO1.out (HT.out.off HO1.out)).mono ?_
    rintro e u2 ⟨v2, rfl, hv, hO⟩
    have HO2 := Lib.hid (HO1.out.trans hO (fun _ _ c => c))
    have HG2 := Lib.hid (hO.heap HG1.out (fun c => c))
    have HV2 := Lib.hid hv
    clear hO hv
    clear p0 p1 p2 p3 p4 p5 lp
    have g := HG2.out
    have p0 := cell_of_heap g 0
    have p1 := cell_of_heap g 1
    have p2 := cell_of_heap g 2
    have p3 := cell_of_heap g 3
    have p4 := cell_of_heap g 4
    have p5 := cell_of_heap g 5
    have lp := heap_lt g
    clear g
    go_wp2_with fail
    refine (FR'.out _ HO2.out).mono ?_
    rintro e u3 ⟨v3, rfl, hv, hO⟩
    have HO3 := Lib.hid (HO2.out.trans hO (fun _ _ c => c))
    have HV2 := Lib.hid (HV2.out.off hO (fun _ _ _ c => c))
    have HV3 := Lib.hid hv
    clear hO hv
    clear p0 p1 p2 p3 p4 p5 lp
    go_wp2_with fail
    refine (FAL.out _ (HT.out.off HO3.out)).mono ?_
    rintro e u4 ⟨rfl, hO⟩
    have HO4 := Lib.hid (HO3.out.trans hO (fun _ _ c => c))
    have hv2 := HV2.out.off hO (fun _ _ _ c => c)
    have hv3 := HV3.out.off hO (fun _ _ _ c => c)
    clear hO
    obtain ⟨a2, c2, rfl, _⟩ := (show ShsAt u4 v2 l (fun _ => True) from hv2)
    obtain ⟨a3, c3, rfl, _⟩ := (show ShsAt u4 v3 l (fun _ => True) from hv3)
    obtain ⟨m, hm⟩ : ∃ m, m = l.length := ⟨_, rfl⟩
    rw [← hm] at hv2 hv3 ⊢
    have FS := Lib.hid (refsame_any l a2 a3 m c2 c3 hm _ _ u4 hv2 hv3)
    clear hv2 hv3 hm
    go_wp2_with fail
    refine FS.out.mono ?_
    rintro e u5 ⟨rfl, hO⟩
    have HO5 := Lib.hid (HO4.out.trans hO (fun _ _ c => c))
    clear hO
    go_wp2
    go_ret
    exact ⟨rfl, HO5.out⟩

theorem door_met (os : Os) (args : Array Value) : laidMetH Tryd.prog [("sharecore/field.fields", Rows.laid_sharecore_field_fields)] ((World.doorLaid Tryd.prog 400 os).forCall (fun _ _ => 0) ⟨#[], args, []⟩).memory :=
  laidMetH_of_parts3 (fuel := 8) (laidMet_of_run' 8 (by kernel_rfl) (by kernel_rfl)) (by kernel_rfl) (by kernel_rfl)

set_option maxRecDepth 100000 in
theorem lifted (os : Os) (started : os.Started) (H : Type) (enc : TypeId × Value → H) :
    ReturnsInHanded {} Tryd.checked os 4 .any (fun w args => (Rows.dealSharesSpec.pre enc Tryd.prog Tryd.f4 [] false w args ∧ laidMetH Tryd.prog [("sharecore/field.fields", Rows.laid_sharecore_field_fields)] w) ∧ sizedMet enc Tryd.prog Tryd.f4 (OpenSpec.ofChange Rows.dealSharesSpec) false w args)
      (Rows.dealSharesSpec.post enc Tryd.prog Tryd.f4 false true false false) := by
  refine returnsInHanded_of_change_and (C := Tryd.checked) (X := fun w _ => laidMetH Tryd.prog [("sharecore/field.fields", Rows.laid_sharecore_field_fields)] w) (fun _ _ _ hh h => h.of_heap hh) own started (by kernel_rfl) Tryd.func4
    (ChangeSpec.witness_shaped (enc := enc) (C := Tryd.checked) (os := os) (X := fun w _ => laidMetH Tryd.prog [("sharecore/field.fields", Rows.laid_sharecore_field_fields)] w) false (World.doorLaid Tryd.prog 400 os) #[.agg #[.int .i64 0, .int .i64 0, .int .i64 0, .int .i64 0, .slice none 0 0, .slice none 0 0]] 8 rfl (World.shaped_of_RefB (by kernel_rfl) (by kernel_rfl)) (by kernel_rfl) (by kernel_rfl) (by kernel_rfl) (door_met os _)) ?_
  intro W base args ds gs before hval0 hW _ hsz hL _
  have hval : ∀ (j : Nat) t v, Tryd.f4.params[j]? = some t → args[j]? = some v → Value.okWide Tryd.prog W .any base t v := hval0
  have hW' := hW
  obtain ⟨p, q, hA0, hV, rfl, hfz, hnd⟩ := hW
  have hA : DataW.TrodAll enc Tryd.prog W 0 (fun _ => true) true Tryd.f4.params.toList args.toList ds p := hA0
  rw [Tryd.params4] at hA hval
  obtain ⟨v0, vs0, d0, ds0, p0, q0, hargs, rfl, rfl, h0, r0⟩ := trodAll_cons hA
  obtain ⟨rfl, rfl, rfl⟩ := trodAll_nil r0
  obtain rfl : args = #[v0] := by cases args; simp_all
  obtain ⟨rfl, rfl⟩ := trodVars_none hV
  have k0 := h0
  have lt0 : ∀ x ∈ p0, x.block < W.heap.size := by obtain ⟨m, hm⟩ := k0; exact DataW.trod_lt m _ _ _ hm
  obtain ⟨q0, a0, n0, cap0, bs0, b0, m0, dap0, ys0, w0, rfl⟩ := open_secret (hval 0 26 v0 rfl rfl) h0
  have hT := tab_of_laid hL
  clear hA0 hval0
  refine (walk q0 a0 n0 cap0 bs0 b0 m0 dap0 ys0 W w0 hT).mono fun e W' ⟨he, hoff⟩ => ?_
  have bel : Below W.heap.size W W' := hoff.below (Nat.le_refl _) (fun _ _ c => c)
  subst he
  exact ⟨_, rfl, _, _, _, [], _, [], hW', trodAll_mk1 (shut_bool Tryd.underlying4 _), (trodAll_cons_mk (Below.trod laidOut (by kernel_rfl) (of_decide_eq_true (by kernel_rfl)) k0 bel lt0) trodAll_mk0), rfl, bel.frame _, fun h => by cases h⟩

theorem over : Rows.dealSharesRow.holds Tryd.pinned (OpenSpec.ofChange Rows.dealSharesSpec) :=
  OpenClaim.holds_of_wide 4 Tryd.f4 rfl rfl rfl rfl rfl rfl rfl ⟨rfl, rfl, rfl, rfl, rfl⟩ rfl rfl rfl rfl rfl (by kernel_rfl) Tryd.func4 (by kernel_rfl)
    (of_decide_eq_true (by kernel_rfl)) (by unfold Func.isWrapper; first | (rw [if_pos (by decide +kernel)]; kernel_rfl) | (rw [if_neg (by decide +kernel)]; exact ⟨rfl, rfl⟩))
    (fun os started H enc _ => lifted os started H enc)

theorem proved : Rows.DealSharesCardSaid :=
  Claim7.holds_tied_plain_at .later [] [.data] true (true, "dc9d05a06bd05c20369e2833d9d45cce8227d62a1aa5c978d1cfbc5d369dc45f") false
    over (fun _ h => by cases h) (by kernel_rfl) (fun _ h => by cases h) dealShares_row_tie rfl ⟨rfl, rfl⟩ (by kernel_rfl) rfl
    (fun f fn hf hfn => by
      obtain rfl : f = 4 := Option.some.inj ((show Tryd.prog.funcNamed "sharecore/sharecorelaw16.DealShares" = some 4 by kernel_rfl).symm.trans hf) |>.symm
      obtain rfl : fn = Tryd.f4 := (Option.some.inj (Tryd.func4.symm.trans hfn)).symm
      exact ⟨by kernel_rfl, fun j t ht => by
        rw [Tryd.params4] at ht
        have hm : t ∈ [26] := by simpa using Array.mem_of_getElem? ht
        have hall : ([26].all fun u => !Tryd.prog.wantsStandIn u) = true := by kernel_rfl
        exact (show Tryd.prog.wantsStandIn t = false by simpa using List.all_eq_true.1 hall t hm)⟩)
    (by kernel_rfl)
#print axioms proved
end Go.Proofs.YtclehgconbdkpaaDoor.dealShares
