/-
  For all parameters and lists of numbers, Evaluate returns the shares of the reference, or the error: the statement of P16.2. No condition.
-/
import Derived.Test.YtclehgconbdkpaaDoorRows
import Derived.Test.YtclehgconbdkpaaDoorTie
import Derived.Test.YtclehgconbdkpaaDoorCards
import Derived.LaidMore
import Derived.LaidHandle
import Derived.SevenTiedAt
import Derived.Stop.Joined
import Derived.JoinedOf
import Derived.Test.YtclehgconbdkpaaDoorLimbWords
import Derived.Test.YtclehgconbdkpaaDoorFieldTab
import Derived.Test.YtclehgconbdkpaaDoorDealVecs
import Derived.Test.YtclehgconbdkpaaDoorDealAlive
import Derived.Test.YtclehgconbdkpaaDoorDealB
import Derived.Test.YtclehgconbdkpaaDoorDealC
import Derived.Test.YtclehgconbdkpaaDoorDealEva
import Derived.Test.YtclehgconbdkpaaDoorDealA
import Derived.WalkKit
import Derived.ProofKit
import Derived.OpenShut
import Derived.ShutString
import Derived.ChangeOld
import Derived.Below
namespace Go.Proofs.YtclehgconbdkpaaDoor.dealEvaluates
open Go.ChangeShapes Go.WideShapes Go.ChangeAt Go.RowKit
set_option linter.unusedVariables false

theorem own : ownKnob Tryd.prog.godebug = none := by kernel_rfl
theorem laidOut : laidOutB Tryd.prog = true := by kernel_rfl

set_option maxRecDepth 100000 in
set_option maxHeartbeats 4000000 in
theorem walk (q0 : Pms) (a1 : Option Addr) (n1 cap1 : Nat) (l1 : List (List Nat)) (w : World) (w0 : q0.ok) (hn1 : n1 = l1.length) (w1 : VVsAt w (.slice a1 n1 cap1) l1 (fun k => k < w.heap.size)) (hT : TabAt w) :
    Calls Tryd.prog 5 #[q0.val, .slice a1 n1 cap1] w fun e w' => e = .returned (.bool true) ∧ Off (fun _ => False) w w' := by
  have FAL : Hid (∀ W, TabAt W → Calls Tryd.prog 10 #[] W fun e w' => e = .returned (.bool true) ∧ Off (fun _ => False) W w') := Lib.hid (fun W hT => alive16_any W hT)
  have HT := Lib.hid hT
  clear hT
  obtain ⟨c, hc⟩ : ∃ c, c = lrg16 q0 0 0 := ⟨_, rfl⟩
  have HZ := Lib.hid (show c = 0 → lrg16 q0 0 0 = 0 from fun h => hc.symm.trans h)
  have hc01 := lrg16_cases q0 0 0
  rw [← hc] at hc01
  have FL := Lib.hid (fun W => large16_any q0 none none 0 0 0 0 W)
  rw [← hc] at FL
  clear hc
  obtain ⟨W0, hW0⟩ : ∃ W0, W0 = w.alloc (.cells #[.int .i64 q0.fd, .int .i64 q0.th, .int .i64 q0.sh, .int .i64 q0.ln] 23) := ⟨_, rfl⟩
  have HO0 := Lib.hid (show Off (fun _ => False) w W0 by rw [hW0]; exact (Off.refl _ w).alloc _)
  have HG0 := Lib.hid (show W0.heap[w.heap.size]? = some (.cells #[.int .i64 q0.fd, .int .i64 q0.th, .int .i64 q0.sh, .int .i64 q0.ln] 23 (0, 0)) by rw [hW0]; exact heap_new' rfl _)
  have HW0 := Lib.hid hW0
  clear hW0
  have HQ := Lib.hid w0
  have HV := Lib.hid (w1.off HO0.out (fun _ _ _ c => c))
  clear w0 w1
  obtain ⟨fd, th, sh, ln⟩ := q0
  unfold Pms.val at FL ⊢
  dsimp only at FL HW0 HG0 ⊢
  have HN := Lib.hid hn1
  clear hn1
  by_cases hbig : c = 1 ∨ (6 : Int) < (n1 : Int)
  · clear HZ HQ HV
    go_enter Tryd.func5, Tryd.ntmps5
    go_upto_region 1 with fail
    rw [← HW0.out]
    have g := HG0.out
    have p0 := cell_of_heap g 0
    have p1 := cell_of_heap g 1
    have p2 := cell_of_heap g 2
    have p3 := cell_of_heap g 3
    have lp := heap_lt g
    clear g
    go_wp2_with fail
    refine (FL.out _).mono ?_
    rintro e u1 ⟨rfl, hO⟩
    have HO1 := Lib.hid (HO0.out.trans hO (fun _ _ c => c))
    clear hO p0 p1 p2 p3 lp
    obtain hc0 | hc0 : c = 0 ∨ c = 1 := hc01
    · subst hc0
      have hn6 : (6 : Int) < (n1 : Int) := by omega
      clear hbig
      go_wp2_with fail
      refine (FAL.out _ (HT.out.off HO1.out)).mono ?_
      rintro e u2 ⟨rfl, hO⟩
      have HO2 := Lib.hid (HO1.out.trans hO (fun _ _ c => c))
      clear hO
      go_wp2
      go_ret
      exact ⟨rfl, HO2.out⟩
    · subst hc0
      clear hbig
      go_wp2_with fail
      refine (FAL.out _ (HT.out.off HO1.out)).mono ?_
      rintro e u2 ⟨rfl, hO⟩
      have HO2 := Lib.hid (HO1.out.trans hO (fun _ _ c => c))
      clear hO
      go_wp2
      go_ret
      exact ⟨rfl, HO2.out⟩
  · obtain rfl : c = 0 := by omega
    have hz := HZ.out rfl
    have hn6 : ¬ (6 : Int) < (n1 : Int) := by omega
    clear hbig hc01 HZ
    have hln := HN.out
    have hmx : n1 ≤ 6 := by omega
    obtain ⟨q, hqe⟩ : ∃ q : Pms, q = ⟨fd, th, sh, ln⟩ := ⟨_, rfl⟩
    have HQe := Lib.hid hqe
    have hqo : q.ok := by rw [hqe]; exact HQ.out
    -- the field's number
    obtain ⟨id, hid⟩ : ∃ id, id = idE fd := ⟨_, rfl⟩
    have hkn : Kn id := by rw [hid]; exact idE_known fd
    obtain ⟨m, hm⟩ : ∃ m, m = modN id := ⟨_, rfl⟩
    obtain ⟨hm1, hm2⟩ := modN_pos hkn
    rw [← hm] at hm1 hm2
    have FMo := Lib.hid (fun W => mod_modulus id W)
    rw [← hm] at FMo
    have HMm := Lib.hid (And.intro hm1 hm2)
    have FRC := Lib.hid (fun W => refprm_any q W)
    have FCn := Lib.hid (fun W => refcount_any ln HQ.out.2.2.2 W)
    obtain ⟨e0, he0⟩ : ∃ e0, e0 = prN q := ⟨_, rfl⟩
    obtain ⟨cn, hcn⟩ : ∃ cn, cn = cntI ln := ⟨_, rfl⟩
    rw [← he0] at FRC
    rw [← hcn] at FCn
    obtain ⟨d0, hd0⟩ : ∃ d0, d0 = wantN q n1 [] := ⟨_, rfl⟩
    have hd0' : d0 = if e0 ≠ 0 then e0 else if n1 ≠ cn then 8 else 0 := by rw [hd0, wantN_nil, ← he0, hcn, hqe]; rfl
    -- the elements' lists
    obtain ⟨X, hX⟩ : ∃ X : List (List Nat) → List (List Nat), X = fun l => (l.map (·.map (· % m))).map (·.map (fm m)) := ⟨_, rfl⟩
    have HX := Lib.hid hX
    have hE : wantN q n1 l1 = evaE q (X l1) := by
      rw [hX, hln, wantN_full q l1 (fun x => fm m (x % m))]
      congr 1
      simp [List.map_map, Function.comp_def]
    obtain ⟨E, hEE⟩ : ∃ E, E = wantN q n1 l1 := ⟨_, rfl⟩
    have hev : E = 0 → ([] : List Ev).length + (dealEv q.cn q.T q.sh.toNat).length ≤ 70000 := fun h => by
      have h1 : prN q = 0 ∧ n1 = q.cn := by
        rw [hEE] at h; unfold wantN at h
        split at h
        · next c => exact absurd h c
        · next c =>
          split at h
          · exact absurd h (by decide)
          · next c2 => exact ⟨by omega, by omega⟩
      have h2 : q.ln ≤ 200 := by
        have h3 := h1.2
        unfold Pms.cn cntI cntN at h3
        have := prN_ok h1.1
        rw [if_pos (by omega)] at h3
        omega
      have := ev_bound (m1 := 0) (m2 := 0) (q := q) (by rw [hqe]; exact hz) h1.1 h2
      simp; omega
    have hXl : X l1 = (l1.map (·.map (· % m))).map (·.map (fm m)) := by rw [hX]
    have FE : Hid (∀ W v, LLs W v (X l1) → TabAt W → Calls Tryd.prog 21 #[.pointer none, q.val, v] W fun e w' => ∃ v', e = .returned (.tuple #[v', .int .i64 (E : Int)]) ∧ (E ≠ 0 → v' = .slice none 0 0) ∧ (E = 0 → ShsAt w' v' (shrsN q (modN q.fd) (l1.map (·.map (· % m)))) (fun _ => True)) ∧ Off (fun _ => False) W w') := Lib.hid (fun W v hL hT => by
      have h := eval_nil q hqo (X l1) (l1.map (·.map (· % m))) (fun h => by
        rw [← hE, ← hEE] at h
        have hpr : prN q = 0 := by
          rw [hEE] at h; unfold wantN at h
          split at h
          · next c => exact absurd h c
          · next c => omega
        have hke := (prN_ok hpr).1
        rw [hXl, hm, hid, idE_same (by rw [hqe] at hke; exact hke), hqe]) v W hL (by rw [← hE, ← hEE]; intro h; simpa using hev h) hT
      rw [← hE, ← hEE] at h
      refine h.mono ?_
      rintro e w' ⟨v', he, h1, h2, h3⟩
      exact ⟨v', he, h1, fun h => shs_wide (h2 h), h3⟩)
    have FRE : Hid (∀ W v, E = 0 → LLs W v (l1.map (·.map (· % m))) → Calls Tryd.prog 22 #[q.val, v] W fun e w' => ∃ v', e = .returned v' ∧ ShsAt w' v' (shrsN q (modN q.fd) (l1.map (·.map (· % m)))) (fun _ => True) ∧ Off (fun _ => False) W w') := Lib.hid (fun W v hE0 hL => by
      have hpr : prN q = 0 := by
        rw [hEE] at hE0; unfold wantN at hE0
        split at hE0
        · next c => exact absurd hE0 c
        · next c => omega
      have hke := (prN_ok hpr).1
      have hsh := prN_ok hpr
      have hmq : m = modN q.fd := by rw [hm, hid, hqe, idE_same (by rw [hqe] at hke; exact hke)]
      refine (refeva_any q hqo hpr m hmq _ (fun c hc x hx => ?_) v W hL).mono ?_
      · obtain ⟨c', _, rfl⟩ := List.mem_map.1 hc
        obtain ⟨y, _, rfl⟩ := List.mem_map.1 hx
        exact Nat.mod_lt _ (by omega)
      · rintro e w' ⟨v', he, h1, h2⟩
        refine ⟨v', he, ?_, h2⟩
        have h3 := EvL.shs hqo (by omega) hm2 (by omega) (by rw [List.length_map]; omega) h1
        rw [hmq] at h3 ⊢
        exact shs_wide h3)
    have HEE := Lib.hid hEE
    have HWs : Hid (∀ (k : Nat) (c : List Nat) (d : Nat), l1[k]? = some c → d = wantN q n1 (l1.take k) → wantN q n1 (l1.take (k + 1)) = if d = 0 ∧ c.length ≠ q.T then 8 else d) := Lib.hid (fun k c d hc hd => wantN_step hc hd)
    have HTT : Hid (∀ cs d, d = wantN q n1 cs → d = 0 → th = (q.T : Int)) := Lib.hid (fun cs d hd h0 => by
      have hpr : prN q = 0 := by
        rw [hd] at h0; unfold wantN at h0
        split at h0
        · next c => exact absurd h0 c
        · next c => omega
      have := prN_ok hpr
      have e : q.th = th := by rw [hqe]
      unfold Pms.T
      omega)
    have hqv : q.val = .agg #[.int .i64 fd, .int .i64 th, .int .i64 sh, .int .i64 ln] := by rw [hqe]; rfl
    rw [hqv] at FRC FE FRE
    have HD0 := Lib.hid hd0
    obtain ⟨T, hT⟩ : ∃ T, T = q.T := ⟨_, rfl⟩
    rw [← hT] at HWs HTT
    have HId := Lib.hid hid
    have HCn := Lib.hid hcn
    have hidv : (1 : Int) + IntKind.i64.wrap (fd + 1) % 2 = id := by rw [hid]; rfl
    have hidb : id = 1 ∨ id = 2 := by rcases hkn with h | h <;> omega
    clear hln hz hE hev hXl hX hm hm1 hm2 hkn hqv hqe hd0 hid hcn hT he0 HQe hqo hEE
    go_enter Tryd.func5, Tryd.ntmps5
    go_upto_region 1 with fail
    rw [← HW0.out]
    obtain ⟨pb, hpb⟩ : ∃ pb, pb = w.heap.size := ⟨_, rfl⟩
    have HPb := Lib.hid hpb
    have HG := Lib.hid (show W0.heap[pb]? = some (.cells #[.int .i64 fd, .int .i64 th, .int .i64 sh, .int .i64 ln] 23 (0, 0)) by rw [hpb]; exact HG0.out)
    rw [← hpb]
    clear hpb
    obtain ⟨p0, p1, p2, p3⟩ := cells4 HG.out
    have lp := heap_lt HG.out
    go_wp2_with fail
    refine (FL.out _).mono ?_
    rintro e u1 ⟨rfl, hO⟩
    have HO1 := Lib.hid hO
    clear hO p0 p1 p2 p3 lp
    obtain ⟨p0, p1, p2, p3⟩ := cells4 (HO1.out.heap HG.out (fun c => c))
    have lp := heap_lt (HO1.out.heap HG.out (fun c => c))
    go_wp2_with fail
    refine (FRC.out _).mono ?_
    rintro e u2 ⟨rfl, hO⟩
    have HO2 := Lib.hid (HO1.out.trans hO (fun _ _ c => c))
    clear hO p0 p1 p2 p3 lp
    obtain ⟨p0, p1, p2, p3⟩ := cells4 (HO2.out.heap HG.out (fun c => c))
    have lp := heap_lt (HO2.out.heap HG.out (fun c => c))
    go_upto_region 4 with fail
    go_cut [5, 34] from 24 to 34 (fun s5 b wx => s5 = .int .i64 (e0 : Int) ∧ b = .bool (decide (e0 = 0 ∧ n1 ≠ cn)) ∧ Off (fun _ => False) W0 wx)
    case first =>
      by_cases h0 : e0 = 0
      · subst h0
        by_cases h1 : n1 = cn
        · subst h1
          go_wp2_with fail
          refine (FCn.out _).mono ?_
          rintro e u3 ⟨rfl, hO⟩
          have HO3 := Lib.hid (HO2.out.trans hO (fun _ _ c => c))
          clear hO p0 p1 p2 p3 lp
          go_wp2
          go_meet
          exact ⟨rfl, by simp, HO3.out⟩
        · have b1 : ((n1 : Int) != (cn : Int)) = true := by simp; omega
          have h1i : ¬ (n1 : Int) = (cn : Int) := by omega
          have HB := Lib.hid (show decide ((0 : Nat) = 0 ∧ n1 ≠ cn) = true from decide_eq_true ⟨rfl, h1⟩)
          clear h1
          go_wp2_with fail
          refine (FCn.out _).mono ?_
          rintro e u3 ⟨rfl, hO⟩
          have HO3 := Lib.hid (HO2.out.trans hO (fun _ _ c => c))
          clear hO p0 p1 p2 p3 lp
          go_wp2
          go_meet
          exact ⟨rfl, by rw [HB.out], HO3.out⟩
      · have h0i : ¬ (e0 : Int) = 0 := by omega
        have b0 : ((e0 : Int) == 0) = false := by simp; omega
        have HB := Lib.hid (show decide (e0 = 0 ∧ n1 ≠ cn) = false from decide_eq_false (fun h => h0 h.1))
        clear h0
        go_wp2
        go_meet
        exact ⟨rfl, by rw [HB.out], HO2.out⟩
    case rest =>
      obtain ⟨rfl, rfl, hO⟩ := hcut
      obtain ⟨bq, hbq⟩ : ∃ bq, bq = decide (e0 = 0 ∧ n1 ≠ cn) := ⟨_, rfl⟩
      rw [← hbq]
      have hd1 : (bq = true → d0 = 8) ∧ (bq = false → d0 = e0) := by
        rw [hbq, hd0']
        constructor
        · intro h
          obtain ⟨h1, h2⟩ := of_decide_eq_true h
          rw [if_neg (fun h => h h1), if_pos h2]
        · intro h
          have h := of_decide_eq_false h
          by_cases h1 : e0 = 0
          · rw [if_neg (fun h => h h1), if_neg (fun h2 => h ⟨h1, h2⟩), h1]
          · rw [if_pos h1]
      have HO3 := Lib.hid hO
      have HD1 := Lib.hid hd1
      clear hO p0 p1 p2 p3 lp hd0' hbq hd1
      go_upto_if 34 with fail
      go_cut [5] from 25 to 34 (fun s5 wx => s5 = .int .i64 (d0 : Int) ∧ Off (fun _ => False) W0 wx)
      case first =>
        rcases Bool.eq_false_or_eq_true bq with hb | hb
        · have HB := Lib.hid (HD1.out.1 hb)
          subst hb
          go_wp2
          go_meet
          exact ⟨by rw [HB.out]; rfl, HO3.out⟩
        · have HB := Lib.hid (HD1.out.2 hb)
          subst hb
          go_wp2
          go_meet
          exact ⟨by rw [HB.out], HO3.out⟩
      case rest =>
        obtain ⟨rfl, hO⟩ := hcut
        have HO4 := Lib.hid hO
        clear hO
        have hidw : wrap64 (1 + bits .and .i64 (wrap64 (fd + 1)) 1) = id := by
          have e1 : IntKind.i64.wrap (1 + IntKind.i64.wrap (fd + 1) % 2) = id := by rw [hidv]; rcases hidb with h | h <;> rw [h] <;> decide
          rw [and1_i64, show wrap64 (fd + 1) = IntKind.i64.wrap (fd + 1) from by rw [IntKind.wrap_i64, wrap64], show ∀ x, wrap64 x = IntKind.i64.wrap x from fun x => by rw [IntKind.wrap_i64, wrap64]]; exact e1
        obtain ⟨B, hB⟩ : ∃ B, B = W0.heap.size := ⟨_, rfl⟩
        have HB := Lib.hid hB
        have HIw := Lib.hid hidw
        have HN6 := Lib.hid (show n1 ≤ 6 by omega)
        clear hidv hidb hidw hB hn6
        go_wp2_with fail
        go_loopw [5, 6, 7, 37] (fun sd sv sx i wr => ∃ k dk : Nat, k ≤ n1 ∧ i = .int .i64 (k : Int) ∧ dk = wantN q n1 (l1.take k) ∧ sd = .int .i64 (dk : Int) ∧ RowLL 51 46 B wr sv ((l1.take k).map (·.map (· % m))) ∧ RowLL 66 47 B wr sx (((l1.take k).map (·.map (· % m))).map (·.map (fm m))) ∧ (∀ c ∈ l1.take k, c.length ≤ 12) ∧ Off (fun _ => False) W0 wr) (fun _ _ _ i _ => n1 - (intOf i).toNat)
        case atStart => exact ⟨0, d0, Nat.zero_le _, rfl, HD0.out, rfl, RowLL.nil _ _ _ _, RowLL.nil _ _ _ _, (fun _ h => by simp at h), HO4.out⟩
        case round =>
          obtain ⟨k, dk, hk, rfl, hdk0, rfl, hrv, hrx, h12s, hO⟩ := hrel
          have HDk0 := Lib.hid hdk0
          by_cases hlt : k < n1
          · have w2 : IntKind.i64.wrap ((k : Int) + 1) = (k : Int) + 1 := by rw [IntKind.wrap_i64]; omega
            obtain ⟨ys, b, off, c, d, hys, rfl, hSb, c0, hvs⟩ := (HV.out.off hO (fun _ _ _ c => c)).get hlt
            have HDs := Lib.hid (HWs.out k ys dk hys hdk0)
            obtain ⟨dk', hdk'⟩ : ∃ dk', dk' = wantN q n1 (l1.take (k + 1)) := ⟨_, rfl⟩
            rw [← hdk'] at HDs
            have HDk := Lib.hid hdk'
            have HYs := Lib.hid hys
            have hkn : (k : Int) < (n1 : Int) := by omega
            have HKb := Lib.hid (show k < n1 ∧ k + 1 ≤ n1 from ⟨hlt, hlt⟩)
            obtain ⟨nc, hnc⟩ : ∃ nc, nc = ys.length := ⟨_, rfl⟩
            rw [← hnc] at c0 hvs
            have HNc := Lib.hid hnc
            have HO := Lib.hid hO
            have hlb : b < wr.heap.size := World.block_lt_of_cell? wr _ c0
            clear hk hdk0 hys hdk' hSb hnc hlt
            by_cases h12 : (12 : Int) < (nc : Int)
            · clear hrv hrx hvs
              have HTw := Lib.hid (HT.out.off (HO0.out.trans hO (fun _ _ c => c)))
              clear hO
              go_wp2_with fail
              refine (FAL.out _ HTw.out).mono ?_
              rintro e u ⟨rfl, hO⟩
              have HOf := Lib.hid ((HO0.out.trans HO.out (fun _ _ c => c)).trans hO (fun _ _ c => c))
              clear hO
              go_wp2
              refine bodyPost_ret (results_tmp rfl _ _ _) rfl ?_
              exact ⟨rfl, HOf.out⟩
            · have hvx := hvs.len.2.2
              have HVal := Lib.hid (fun W (hW : Off (fun _ => False) wr W) => values_own HMm.out.2 HMm.out.1 ys hvx (by have := HNc.out; omega) (.slice c nc d) W (ls_of_vs (hvs.off hW (fun _ _ _ c => c)) (by have := HNc.out; omega)))
              have HM12 := Lib.hid (show ∀ c ∈ l1.take (k + 1), c.length ≤ 12 from fun x hx => by
                rw [List.take_add_one, HYs.out] at hx
                rcases List.mem_append.1 hx with hx | hx
                · exact h12s x hx
                · simp at hx; subst hx; have := HNc.out; omega)
              have HRv0 := Lib.hid hrv
              have HRx0 := Lib.hid hrx
              obtain ⟨p0, p1, p2, p3⟩ := cells4 (hO.heap HG.out (fun c => c))
              have lp := heap_lt (hO.heap HG.out (fun c => c))
              clear hrv hrx hvs hvx hO
              go_wp2_with fail
              rw [HIw.out]
              refine (FMo.out _).mono ?_
              rintro e u1 ⟨rfl, hO1⟩
              go_wp2_with fail
              refine (HVal.out _ hO1).mono ?_
              rintro e u ⟨za, zc, ea, ec, rfl, hz, he, hO2⟩
              have hOu : Off (fun _ => False) wr u := hO1.trans hO2 (fun _ _ c => c)
              rw [← HNc.out] at hz he ⊢
              have hBu : B ≤ u.heap.size := by rw [HB.out]; exact (HO.out.trans hOu (fun _ _ c => c)).size
              have hBw : B ≤ u1.heap.size := by rw [HB.out]; exact (HO.out.trans hO1 (fun _ _ c => c)).size
              obtain ⟨zs, hzs⟩ : ∃ zs, zs = ys.map (· % m) := ⟨_, rfl⟩
              rw [← hzs] at hz he
              have hzl : zs.length = nc := by rw [hzs, List.length_map]; exact HNc.out.symm
              have hel : (zs.map (fm m)).length = nc := by rw [List.length_map]; exact hzl
              obtain ⟨W1, hW1⟩ : ∃ W1, W1 = u.alloc (.cells #[.slice za nc zc] 46) := ⟨_, rfl⟩
              have hA1 : Off (fun _ => False) u W1 := by rw [hW1]; exact (Off.refl _ u).alloc _
              have hOu1 := hOu.trans hA1 (fun _ _ c => c)
              have rv1 := HRv0.out.off hOu1 (fun _ _ c => c)
              have rx1 := HRx0.out.off hOu1 (fun _ _ c => c)
              have hz1 := own_offT (own_below hz hBw) hA1 (fun _ _ c => c)
              have he1 := own_offT (own_below he hBw) hA1 (fun _ _ c => c)
              have hbz1 : W1.heap[u.heap.size]? = some (.cells #[.slice za nc zc] 46 (0, 0)) := by rw [hW1]; exact heap_new' rfl _
              obtain ⟨v2, w2', hrun2, rv2, hg2⟩ := app_ll (bz := u.heap.size) (zs := zs) (a := za) (c := zc) rv1 (Nat.le_trans hBu hA1.size) (by rw [hzl]; exact hz1) (by rw [hzl]; exact hbz1) (by rw [List.length_map, List.length_take]; have := HKb.out; omega)
              obtain ⟨us, hus⟩ := rv1.row
              have rx2 := rx1.kept hg2 hus el_ne_vecs els_ne_vecs
              have he2 := he1.kept hg2 (rows_apart he1 hus el_ne_vecs)
              have hO2' : Off (fun _ => False) W0 w2' := rv1.off_grown (HO.out.trans hOu1 (fun _ _ c => c)) (by rw [HB.out]; exact Nat.le_refl _) hg2
              obtain ⟨W3, hW3⟩ : ∃ W3, W3 = w2'.alloc (.cells #[.slice ea nc ec] 47) := ⟨_, rfl⟩
              have hA3 : Off (fun _ => False) w2' W3 := by rw [hW3]; exact (Off.refl _ w2').alloc _
              have hO3' := hO2'.trans hA3 (fun _ _ c => c)
              have rv3 := rv2.off hA3 (fun _ _ c => c)
              have rx3 := rx2.off hA3 (fun _ _ c => c)
              have he3 := own_offT he2 hA3 (fun _ _ c => c)
              have hbz3 : W3.heap[w2'.heap.size]? = some (.cells #[.slice ea nc ec] 47 (0, 0)) := by rw [hW3]; exact heap_new' rfl _
              obtain ⟨v4, w4, hrun4, rx4, hg4, _⟩ := app_lel (bz := w2'.heap.size) (zs := zs.map (fm m)) (a := ea) (c := ec) rx3 (by rw [HB.out]; exact hO3'.size) (by rw [hel]; exact he3) (by rw [hel]; exact hbz3) (by rw [List.length_map, List.length_map, List.length_take]; have := HKb.out; omega)
              obtain ⟨us', hus'⟩ := rx3.row
              have rv4 := rv3.kept hg4 hus' vec_ne_els vecs_ne_els
              have hO4' : Off (fun _ => False) W0 w4 := rx3.off_grown hO3' (by rw [HB.out]; exact Nat.le_refl _) hg4
              rw [hW1] at hrun2
              rw [hW3] at hrun4
              have HRun2 := Lib.hid hrun2
              have HRun4 := Lib.hid hrun4
              have HRv := Lib.hid (show RowLL 51 46 B w4 v2 ((l1.take (k + 1)).map (·.map (· % m))) by
                rw [List.take_add_one, HYs.out, List.map_append]
                rw [hzs] at rv4
                exact rv4)
              have HRx := Lib.hid (show RowLL 66 47 B w4 v4 (((l1.take (k + 1)).map (·.map (· % m))).map (·.map (fm m))) by
                rw [List.take_add_one, HYs.out, List.map_append, List.map_append]
                rw [hzs] at rx4
                exact rx4)
              have HOf := Lib.hid hO4'
              clear p0 p1 p2 p3 lp
              obtain ⟨p0, p1, p2, p3⟩ := cells4 (hO4'.heap HG.out (fun c => c))
              have lp := heap_lt (hO4'.heap HG.out (fun c => c))
              clear hz he hO1 hO2 hOu hBu hBw hzl hel hW1 hA1 hOu1 rv1 rx1 hz1 he1 hbz1 hrun2 rv2 hg2 hus rx2 he2 hO2' hW3 hA3 hO3' rv3 rx3 he3 hbz3 hrun4 rx4 hg4 hus' rv4 hO4' hzs HVal
              go_upto_region 15 with first | (at_builtin; refine Go.Lib.wpList_append_run _ rfl _ _ _ _ rfl _ _ rfl rfl _ _ HRun2.out ?_) | (at_builtin; refine Go.Lib.wpList_append_run _ rfl _ _ _ _ rfl _ _ rfl rfl _ _ HRun4.out ?_) | fail
              by_cases hdk : dk = 0
              · have hthn := HTT.out _ dk HDk0.out hdk
                subst hdk
                rw [hthn] at p1
                by_cases hnt : nc = T
                · subst hnt
                  have HDe := Lib.hid (show dk' = 0 by rw [HDs.out, if_neg (fun h => h.2 (by rw [← HNc.out]))])
                  go_wp2
                  go_roundw
                  case rel => exact ⟨k + 1, dk', HKb.out.2, by simp, HDk.out, by rw [HDe.out]; first | done | rfl, HRv.out, HRx.out, HM12.out, HOf.out⟩
                  case measure => simp [intOf]; have := HKb.out; omega
                · have b1 : ((nc : Int) != (T : Int)) = true := by simp; omega
                  have b2 : ¬ (nc : Int) = (T : Int) := by omega
                  have HDe := Lib.hid (show dk' = 8 by rw [HDs.out, if_pos ⟨rfl, by rw [← HNc.out]; exact hnt⟩])
                  clear hnt
                  go_wp2
                  go_roundw
                  case rel => exact ⟨k + 1, dk', HKb.out.2, by simp, HDk.out, by rw [HDe.out]; first | done | rfl, HRv.out, HRx.out, HM12.out, HOf.out⟩
                  case measure => simp [intOf]; have := HKb.out; omega
              · have b0 : ((dk : Int) == 0) = false := by simp; omega
                have b1 : ¬ (dk : Int) = 0 := by omega
                have HDe := Lib.hid (show dk' = dk by rw [HDs.out, if_neg (fun h => hdk h.1)])
                clear hdk
                go_wp2
                go_roundw
                case rel => exact ⟨k + 1, dk', HKb.out.2, by simp, HDk.out, by rw [HDe.out], HRv.out, HRx.out, HM12.out, HOf.out⟩
                case measure => simp [intOf]; have := HKb.out; omega
          · obtain rfl : n1 = k := by omega
            have hfull : l1.take n1 = l1 := List.take_of_length_le (by rw [HN.out]; exact Nat.le_refl _)
            rw [hfull] at hdk0 hrv hrx h12s
            have hnn : ¬ (n1 : Int) < (n1 : Int) := by omega
            obtain rfl : dk = E := by rw [hdk0, HEE.out]
            have hsm : ∀ f : Nat → Nat, ∀ zs ∈ l1.map (·.map f), zs.length ≤ 100000 := fun f zs hz => by
              obtain ⟨c, hc, rfl⟩ := List.mem_map.1 hz
              rw [List.length_map]; have := h12s c hc; omega
            have hlv := hrv.lls (by rw [List.length_map, ← HN.out]; have := HN6.out; omega) (hsm _)
            have hlx := hrx.lls (by rw [List.length_map, List.length_map, ← HN.out]; have := HN6.out; omega) (fun zs hz => by
              obtain ⟨c, hc, rfl⟩ := List.mem_map.1 hz
              rw [List.length_map]; exact hsm _ c hc)
            rw [show ((l1.map (·.map (· % m))).map (·.map (fm m))) = X l1 by rw [HX.out]] at hlx
            obtain ⟨va, vc, hva⟩ := hrv.shape
            rw [List.length_map, ← HN.out] at hva
            subst hva
            obtain ⟨xa, xc, hxa⟩ := hrx.shape
            rw [List.length_map, List.length_map, ← HN.out] at hxa
            subst hxa
            have FE1 := Lib.hid (FE.out wr _ hlx (HT.out.off (HO0.out.trans hO (fun _ _ c => c))))
            have HLv := Lib.hid hlv
            have HO5 := Lib.hid hO
            obtain ⟨p0, p1, p2, p3⟩ := cells4 (hO.heap HG.out (fun c => c))
            have lp := heap_lt (hO.heap HG.out (fun c => c))
            clear hlv hlx hO hrv hrx hsm h12s hfull hdk0 HDk0 hlt hk
            go_wp2_with fail
            refine FE1.out.mono ?_
            rintro e u ⟨v', rfl, h1, h2, hO⟩
            have HO6 := Lib.hid (HO5.out.trans hO (fun _ _ c => c))
            have HLv2 := Lib.hid (HLv.out.off hO)
            clear hO p0 p1 p2 p3 lp FE1 HLv
            by_cases hE0 : dk = 0
            · have hS := h2 hE0
              have FR1 := fun W hL => FRE.out W (.slice va n1 vc) hE0 hL
              clear h1 h2
              subst hE0
              obtain ⟨sa, sc, rfl, _⟩ := (show ShsAt u v' _ (fun _ => True) from hS)
              obtain ⟨ls, hls⟩ : ∃ ls, ls = shrsN q (modN q.fd) (l1.map (·.map (· % m))) := ⟨_, rfl⟩
              rw [← hls] at hS FR1 ⊢
              obtain ⟨sl, hsl⟩ : ∃ sl, sl = ls.length := ⟨_, rfl⟩
              rw [← hsl] at hS ⊢
              have HS := Lib.hid hS
              have FR2 := Lib.hid FR1
              have HSl := Lib.hid hsl
              have HTu := Lib.hid (HT.out.off (HO0.out.trans HO6.out (fun _ _ c => c)))
              clear hS FR1 hls hsl
              go_wp2_with fail
              refine (FAL.out _ HTu.out).mono ?_
              rintro e u2 ⟨rfl, hO⟩
              have HO7 := Lib.hid (HO6.out.trans hO (fun _ _ c => c))
              have HLv3 := Lib.hid (HLv2.out.off hO)
              have HS2 := Lib.hid (HS.out.off hO (fun _ _ _ c => c))
              clear hO HS HLv2
              obtain ⟨p0, p1, p2, p3⟩ := cells4 (HO7.out.heap HG.out (fun c => c))
              have lp := heap_lt (HO7.out.heap HG.out (fun c => c))
              go_wp2_with fail
              refine (FR2.out _ HLv3.out).mono ?_
              rintro e u3 ⟨v3, rfl, hs3, hO⟩
              have HO8 := Lib.hid (HO7.out.trans hO (fun _ _ c => c))
              have hs2 := HS2.out.off hO (fun _ _ _ c => c)
              obtain ⟨ra, rc, rfl, _⟩ := (show ShsAt u3 v3 ls (fun _ => True) from hs3)
              rw [← HSl.out] at hs3 ⊢
              have FS := Lib.hid (refsame_any ls sa ra sl sc rc HSl.out _ _ u3 hs2 hs3)
              clear hs2 hs3 hO p0 p1 p2 p3 lp
              go_wp2_with fail
              refine FS.out.mono ?_
              rintro e u4 ⟨rfl, hO⟩
              have HO9 := Lib.hid (HO0.out.trans (HO8.out.trans hO (fun _ _ c => c)) (fun _ _ c => c))
              clear hO
              go_wp2
              refine bodyPost_ret (results_tmp rfl _ _ _) rfl ?_
              exact ⟨rfl, HO9.out⟩
            · have hv := h1 hE0
              subst hv
              have hEi : ¬ (dk : Int) = 0 := by omega
              have hEb : ((dk : Int) != 0) = true := by simp; omega
              have HTu := Lib.hid (HT.out.off (HO0.out.trans HO6.out (fun _ _ c => c)))
              clear h1 h2 hE0
              go_wp2_with fail
              refine (FAL.out _ HTu.out).mono ?_
              rintro e u2 ⟨rfl, hO⟩
              have HO7 := Lib.hid (HO0.out.trans (HO6.out.trans hO (fun _ _ c => c)) (fun _ _ c => c))
              clear hO
              go_wp2
              refine bodyPost_ret (results_tmp rfl _ _ _) rfl ?_
              exact ⟨rfl, HO7.out⟩

theorem door_met (os : Os) (args : Array Value) : laidMetH Tryd.prog [("sharecore/field.fields", Rows.laid_sharecore_field_fields)] ((World.doorLaid Tryd.prog 400 os).forCall (fun _ _ => 0) ⟨#[], args, []⟩).memory :=
  laidMetH_of_parts3 (fuel := 8) (laidMet_of_run' 8 (by kernel_rfl) (by kernel_rfl)) (by kernel_rfl) (by kernel_rfl)

set_option maxRecDepth 100000 in
theorem lifted (os : Os) (started : os.Started) (H : Type) (enc : TypeId × Value → H) :
    ReturnsInHanded {} Tryd.checked os 5 .any (fun w args => (Rows.dealEvaluatesSpec.pre enc Tryd.prog Tryd.f5 [] false w args ∧ laidMetH Tryd.prog [("sharecore/field.fields", Rows.laid_sharecore_field_fields)] w) ∧ sizedMet enc Tryd.prog Tryd.f5 (OpenSpec.ofChange Rows.dealEvaluatesSpec) false w args)
      (Rows.dealEvaluatesSpec.post enc Tryd.prog Tryd.f5 false true false false) := by
  refine returnsInHanded_of_change_and (C := Tryd.checked) (X := fun w _ => laidMetH Tryd.prog [("sharecore/field.fields", Rows.laid_sharecore_field_fields)] w) (fun _ _ _ hh h => h.of_heap hh) own started (by kernel_rfl) Tryd.func5
    (ChangeSpec.witness_shaped (enc := enc) (C := Tryd.checked) (os := os) (X := fun w _ => laidMetH Tryd.prog [("sharecore/field.fields", Rows.laid_sharecore_field_fields)] w) false (World.doorLaid Tryd.prog 400 os) #[.agg #[.int .i64 0, .int .i64 0, .int .i64 0, .int .i64 0], .slice none 0 0] 8 rfl (World.shaped_of_RefB (by kernel_rfl) (by kernel_rfl)) (by kernel_rfl) (by kernel_rfl) (by kernel_rfl) (door_met os _)) ?_
  intro W base args ds gs before hval0 hW _ hsz hL _
  have hval : ∀ (j : Nat) t v, Tryd.f5.params[j]? = some t → args[j]? = some v → Value.okWide Tryd.prog W .any base t v := hval0
  have hW' := hW
  obtain ⟨p, q, hA0, hV, rfl, hfz, hnd⟩ := hW
  have hA : DataW.TrodAll enc Tryd.prog W 0 (fun _ => true) true Tryd.f5.params.toList args.toList ds p := hA0
  rw [Tryd.params5] at hA hval
  obtain ⟨v0, vs0, d0, ds0, p0, q0, hargs, rfl, rfl, h0, r0⟩ := trodAll_cons hA
  obtain ⟨v1, vs1, d1, ds1, p1, q1, rfl, rfl, rfl, h1, r1⟩ := trodAll_cons r0
  obtain ⟨rfl, rfl, rfl⟩ := trodAll_nil r1
  obtain rfl : args = #[v0, v1] := by cases args; simp_all
  obtain ⟨rfl, rfl⟩ := trodVars_none hV
  have k0 := h0
  have lt0 : ∀ x ∈ p0, x.block < W.heap.size := by obtain ⟨m, hm⟩ := k0; exact DataW.trod_lt m _ _ _ hm
  obtain ⟨q0, w0, rfl⟩ := open_params (hval 0 23 v0 rfl rfl) h0
  obtain ⟨a1, n1, cap1, rfl⟩ := okWide_slice Tryd.underlying33 (hval 1 33 v1 rfl rfl)
  have k1 := h1
  have lt1 : ∀ x ∈ p1, x.block < W.heap.size := by obtain ⟨m, hm⟩ := k1; exact DataW.trod_lt m _ _ _ hm
  obtain ⟨l1, hn1, w1⟩ : ∃ l, n1 = l.length ∧ VVsAt W (.slice a1 n1 cap1) l (fun k => k < W.heap.size) := by
    obtain ⟨fuel, hf⟩ := h1
    exact vecss_of_trod hf
  have hT := tab_of_laid hL
  clear hA0 hval0
  refine (walk q0 a1 n1 cap1 l1 W w0 hn1 w1 hT).mono fun e W' ⟨he, hoff⟩ => ?_
  have bel : Below W.heap.size W W' := hoff.below (Nat.le_refl _) (fun _ _ c => c)
  subst he
  exact ⟨_, rfl, _, _, _, [], _, [], hW', trodAll_mk1 (shut_bool Tryd.underlying4 _), (trodAll_cons_mk (Below.trod laidOut (by kernel_rfl) (of_decide_eq_true (by kernel_rfl)) k0 bel lt0) (trodAll_cons_mk (Below.trod laidOut (by kernel_rfl) (of_decide_eq_true (by kernel_rfl)) k1 bel lt1) trodAll_mk0)), rfl, bel.frame _, fun h => by cases h⟩

theorem over : Rows.dealEvaluatesRow.holds Tryd.pinned (OpenSpec.ofChange Rows.dealEvaluatesSpec) :=
  OpenClaim.holds_of_wide 5 Tryd.f5 rfl rfl rfl rfl rfl rfl rfl ⟨rfl, rfl, rfl, rfl, rfl⟩ rfl rfl rfl rfl rfl (by kernel_rfl) Tryd.func5 (by kernel_rfl)
    (of_decide_eq_true (by kernel_rfl)) (by unfold Func.isWrapper; first | (rw [if_pos (by decide +kernel)]; kernel_rfl) | (rw [if_neg (by decide +kernel)]; exact ⟨rfl, rfl⟩))
    (fun os started H enc _ => lifted os started H enc)

theorem proved : Rows.DealEvaluatesCardSaid :=
  Claim7.holds_tied_plain_at .later [] [.data] true (true, "dc9d05a06bd05c20369e2833d9d45cce8227d62a1aa5c978d1cfbc5d369dc45f") false
    over (fun _ h => by cases h) (by kernel_rfl) (fun _ h => by cases h) dealEvaluates_row_tie rfl ⟨rfl, rfl⟩ (by kernel_rfl) rfl
    (fun f fn hf hfn => by
      obtain rfl : f = 5 := Option.some.inj ((show Tryd.prog.funcNamed "sharecore/sharecorelaw16.DealEvaluates" = some 5 by kernel_rfl).symm.trans hf) |>.symm
      obtain rfl : fn = Tryd.f5 := (Option.some.inj (Tryd.func5.symm.trans hfn)).symm
      exact ⟨by kernel_rfl, fun j t ht => by
        rw [Tryd.params5] at ht
        have hm : t ∈ [23, 33] := by simpa using Array.mem_of_getElem? ht
        have hall : ([23, 33].all fun u => !Tryd.prog.wantsStandIn u) = true := by kernel_rfl
        exact (show Tryd.prog.wantsStandIn t = false by simpa using List.all_eq_true.1 hall t hm)⟩)
    (by kernel_rfl)
#print axioms proved
end Go.Proofs.YtclehgconbdkpaaDoor.dealEvaluates
