/-
  The contracts of package params over this seat's translation: Check, Random, CheckShare, CheckShares (ParP1 has Indices and Column). Conditions: the numbers are ints; the shares lie in memory; the table of fields lies in memory as it was laid.
-/
import Derived.Test.YtmokaikofcbboaaDoorParP1
import Derived.Test.YtmokaikofcbboaaDoorFieldGet
import Derived.Test.YtmokaikofcbboaaDoorFieldOps
namespace Go.Proofs.YtmokaikofcbboaaDoor
open Go.RowKit
attribute [local go_sem ↓] Go.wp_at_zero Go.wp_at_succ
set_option maxRecDepth 100000
set_option maxHeartbeats 4000000
/-- The mask of whether all numbers are below p: its and with another. -/
theorem mk_andB (c d : Bool) : bits .and .u64 (mk c) (mk d) = mk (c && d) := by cases c <;> cases d <;> rfl
theorem fget_par (id : Int) : ∃ (q : Int) (p i r s : Nat), p < R256 ∧ (Kn id → p = modN id) ∧ ∀ W, TabAt W → Calls Tryd.prog 25 #[.int .i64 id] W fun e w' => e = .returned (.tuple #[FV q p i r s, .int .i64 (if Kn id then 0 else 3)]) ∧ Off (fun _ => False) W w' := by
  by_cases hk : Kn id
  · obtain ⟨h1, h2⟩ := modN_pos hk
    rw [if_pos hk]
    exact ⟨_, _, _, _, _, h2, fun _ => rfl, fun W hT => fget_in id (modN id) h2 h1 rfl W hT⟩
  · rw [if_neg hk]
    refine ⟨0, 0, 0, 0, 0, by decide +kernel, fun h => absurd h hk, fun W hT => fget_none id ?_ W hT⟩
    unfold modN
    rw [if_neg (fun h => hk (.inl h)), if_neg (fun h => hk (.inr h))]
theorem containsall_par (q : Int) (p i r s : Nat) (hp : p < R256) (pl : List Nat) (a : Option Addr) (n cap : Nat) (hn : n = pl.length) (hl : n ≤ 5000) (S : Nat → Prop) (w : World) (hV : VsAt w (.slice a n cap) pl S) :
    Calls Tryd.prog 30 #[FV q p i r s, .slice a n cap] w fun e w' => e = .returned (.int .u64 (mk (pl.all fun x => decide (x < p)))) ∧ Off (fun _ => False) w w' := by
  have HN := Lib.hid hn
  have HV := Lib.hid hV
  have HP := Lib.hid hp
  obtain ⟨W0, hW0⟩ : ∃ W0, W0 = w.alloc (.cells #[.int .i64 q, .int .u64 (wd p 0 : Int), .int .u64 (wd p 1 : Int), .int .u64 (wd p 2 : Int), .int .u64 (wd p 3 : Int), .int .u64 (i : Int), .int .u64 (wd r 0 : Int), .int .u64 (wd r 1 : Int), .int .u64 (wd r 2 : Int), .int .u64 (wd r 3 : Int), .int .u64 (wd s 0 : Int), .int .u64 (wd s 1 : Int), .int .u64 (wd s 2 : Int), .int .u64 (wd s 3 : Int)] 55) := ⟨_, rfl⟩
  have HG0 := Lib.hid (show W0.heap[w.heap.size]? = some (.cells #[.int .i64 q, .int .u64 (wd p 0 : Int), .int .u64 (wd p 1 : Int), .int .u64 (wd p 2 : Int), .int .u64 (wd p 3 : Int), .int .u64 (i : Int), .int .u64 (wd r 0 : Int), .int .u64 (wd r 1 : Int), .int .u64 (wd r 2 : Int), .int .u64 (wd r 3 : Int), .int .u64 (wd s 0 : Int), .int .u64 (wd s 1 : Int), .int .u64 (wd s 2 : Int), .int .u64 (wd s 3 : Int)] 55 (0, 0)) by rw [hW0]; exact heap_new' rfl _)
  have HO0 := Lib.hid (show Off (fun _ => False) w W0 by rw [hW0]; exact (Off.refl _ w).alloc _)
  have HW0 := Lib.hid hW0
  obtain ⟨c, hc⟩ : ∃ c, c = mk (pl.all fun x => decide (x < p)) := ⟨_, rfl⟩
  rw [← hc]
  have HC := Lib.hid hc
  clear hn hV hp hW0 hc
  go_enter Tryd.func30, Tryd.ntmps30
  go_wp2_with fail
  rw [← HW0.out]
  go_loopw [5, 10] (fun u j wr => ∃ k : Nat, k ≤ n ∧ j = .int .i64 (k : Int) ∧ u = .int .u64 (mk ((pl.take k).all fun x => decide (x < p))) ∧ Off (fun _ => False) W0 wr) (fun _ j _ => n - (intOf j).toNat)
  case atStart => exact ⟨0, Nat.zero_le _, rfl, rfl, Off.refl _ _⟩
  case round =>
    obtain ⟨k, hk, rfl, rfl, hO⟩ := hrel
    obtain ⟨b0, hb0⟩ : ∃ b0, b0 = ((pl.take k).all fun x => decide (x < p)) := ⟨_, rfl⟩
    rw [← hb0]
    by_cases hlt : k < n
    · have w2 : IntKind.i64.wrap ((k : Int) + 1) = (k : Int) + 1 := by rw [IntKind.wrap_i64]; omega
      have hkn : (k : Int) < (n : Int) := by omega
      obtain ⟨x, hx⟩ : ∃ x, pl[k]? = some x := ⟨_, List.getElem?_eq_getElem (by rw [← HN.out]; exact hlt)⟩
      have hxr := HV.out.len.2.2 x (List.mem_of_getElem? hx)
      obtain ⟨b, o, rfl, _, c0, c1, c2, c3⟩ := ((HV.out.off HO0.out (fun _ _ _ c => c)).off hO (fun _ _ _ c => c)).get hx
      have FX := Lib.hid (fun W => contains_any q p i r s x HP.out hxr W)
      have HNx := Lib.hid (show ((pl.take (k + 1)).all fun x => decide (x < p)) = (b0 && lessN x p) by rw [List.take_add_one, hx, List.all_append, ← hb0]; simp [lessN])
      have hlb : b < wr.heap.size := World.block_lt_of_cell? wr _ c0
      obtain ⟨wa, hwa⟩ : ∃ wa, wa = wr.alloc (.cells #[.int .u64 (wd x 0 : Int), .int .u64 (wd x 1 : Int), .int .u64 (wd x 2 : Int), .int .u64 (wd x 3 : Int)] 46) := ⟨_, rfl⟩
      have hOa : Off (fun _ => False) wr wa := by rw [hwa]; exact (Off.refl _ wr).alloc _
      obtain ⟨x0, x1, x2, x3⟩ := cells4 (show wa.heap[wr.heap.size]? = some (.cells #[.int .u64 (wd x 0 : Int), .int .u64 (wd x 1 : Int), .int .u64 (wd x 2 : Int), .int .u64 (wd x 3 : Int)] 46 (0, 0)) by rw [hwa]; exact heap_new' rfl _)
      obtain ⟨f0, f1, f2, f3, f4, f5, f6, f7, f8, f9, f10, f11, f12, f13⟩ := fv_cells ((hO.trans hOa (fun _ _ c => c)).heap HG0.out (fun c => c))
      have lq := heap_lt ((hO.trans hOa (fun _ _ c => c)).heap HG0.out (fun c => c))
      obtain ⟨y, hy⟩ : ∃ y, y = lessN x p := ⟨_, rfl⟩
      rw [← hy] at FX HNx
      have han := mk_andB b0 y
      have HWa := Lib.hid hwa
      have HOa := Lib.hid (hO.trans hOa (fun _ _ c => c))
      clear hx hxr hwa hOa hO hb0 hy
      go_upto_region 5 with fail
      rw [← HWa.out]
      clear c0 c1 c2 c3 hlb
      go_wp2_with fail
      refine (FX.out _).mono ?_
      rintro e wc ⟨rfl, hOc⟩
      have HOc := Lib.hid (HOa.out.trans hOc (fun _ _ c => c))
      clear hOc x0 x1 x2 x3 f0 f1 f2 f3 f4 f5 f6 f7 f8 f9 f10 f11 f12 f13 lq
      go_wp2
      go_roundw
      case rel => exact ⟨k + 1, by omega, by simp, by rw [HNx.out], HOc.out⟩
      case measure => simp [intOf]; omega
    · obtain rfl : n = k := by omega
      rw [List.take_of_length_le (by rw [HN.out]; exact Nat.le_refl _)] at hb0
      have HB := Lib.hid (show mk b0 = c by rw [HC.out, hb0])
      have HO := Lib.hid (HO0.out.trans hO (fun _ _ c => c))
      have hnn : ¬ (n : Int) < (n : Int) := by omega
      clear hO hb0
      go_wp2
      refine bodyPost_ret (results_tmp rfl _ _ _) rfl ?_
      exact ⟨by rw [← HB.out]; rfl, HO.out⟩
theorem check_par (z : Pms) (hz : z.ok) (w : World) (hT : TabAt w) : Calls Tryd.prog 10 #[z.val] w fun e w' => e = .returned (.int .i64 (prN z : Int)) ∧ Off (fun _ => False) w w' := by
  obtain ⟨c, hc⟩ : ∃ c, c = prN z := ⟨_, rfl⟩
  rw [← hc]
  obtain ⟨fd, th, sh, ln⟩ := z
  obtain ⟨q, p, i, r, s, hp, hpm0, hg⟩ := fget_par fd
  clear hp hpm0
  unfold Pms.val
  dsimp only
  obtain ⟨W0, hW0⟩ : ∃ W0, W0 = w.alloc (.cells #[.int .i64 fd, .int .i64 th, .int .i64 sh, .int .i64 ln] 23) := ⟨_, rfl⟩
  have HG0 := Lib.hid (show W0.heap[w.heap.size]? = some (.cells #[.int .i64 fd, .int .i64 th, .int .i64 sh, .int .i64 ln] 23 (0, 0)) by rw [hW0]; exact heap_new' rfl _)
  have HO0 := Lib.hid (show Off (fun _ => False) w W0 by rw [hW0]; exact (Off.refl _ w).alloc _)
  have HT0 := Lib.hid (hT.off HO0.out)
  have HW0 := Lib.hid hW0
  clear hW0 hT hz
  by_cases hk : Kn fd
  · rw [if_pos hk] at hg
    have FG := Lib.hid hg
    clear hg
    have FA := Lib.hid (fun W => within_any sh 1 255 W)
    by_cases hw0 : 1 ≤ sh ∧ sh ≤ 255
    · rw [show decide (1 ≤ sh ∧ sh ≤ 255) = true from decide_eq_true hw0] at FA
      have FB := Lib.hid (fun W => within_any th 1 sh W)
      by_cases hw1 : 1 ≤ th ∧ th ≤ sh
      · rw [show decide (1 ≤ th ∧ th ≤ sh) = true from decide_eq_true hw1] at FB
        have FD := Lib.hid (fun W => within_any ln 0 65535 W)
        by_cases hw2 : 0 ≤ ln ∧ ln ≤ 65535
        · rw [show decide (0 ≤ ln ∧ ln ≤ 65535) = true from decide_eq_true hw2] at FD
          obtain rfl : c = 0 := by
            rw [hc]
            unfold prN; dsimp only
            rw [if_neg (fun h => h hk), if_neg (by omega), if_neg (by omega), if_neg (by omega)]
          clear hc
          go_enter Tryd.func10, Tryd.ntmps10
          go_wp2_with fail
          rw [← HW0.out]
          refine (FG.out _ HT0.out).mono ?_
          rintro e u ⟨rfl, hO⟩
          obtain ⟨wa, hwa⟩ : ∃ wa, wa = u.alloc (.cells #[.int .i64 q, .int .u64 (wd p 0 : Int), .int .u64 (wd p 1 : Int), .int .u64 (wd p 2 : Int), .int .u64 (wd p 3 : Int), .int .u64 (i : Int), .int .u64 (wd r 0 : Int), .int .u64 (wd r 1 : Int), .int .u64 (wd r 2 : Int), .int .u64 (wd r 3 : Int), .int .u64 (wd s 0 : Int), .int .u64 (wd s 1 : Int), .int .u64 (wd s 2 : Int), .int .u64 (wd s 3 : Int)] 55) := ⟨_, rfl⟩
          have hOa : Off (fun _ => False) W0 wa := by rw [hwa]; exact hO.alloc _
          obtain ⟨p0, p1, p2, p3⟩ := cells4 (hOa.heap HG0.out (fun c => c))
          have lp := heap_lt (hOa.heap HG0.out (fun c => c))
          have HOa := Lib.hid (HO0.out.trans hOa (fun _ _ c => c))
          have HWa := Lib.hid hwa
          clear hO hOa hwa
          go_upto_region 2 with fail
          rw [← HWa.out]
          go_wp2_with fail
          refine (FA.out _).mono ?_
          rintro e w' ⟨rfl, rfl⟩
          go_wp2_with fail
          refine (FB.out _).mono ?_
          rintro e w' ⟨rfl, rfl⟩
          go_wp2_with fail
          refine (FD.out _).mono ?_
          rintro e w' ⟨rfl, rfl⟩
          go_wp2
          go_ret
          exact ⟨rfl, HOa.out⟩
        · rw [show decide (0 ≤ ln ∧ ln ≤ 65535) = false from decide_eq_false hw2] at FD
          obtain rfl : c = 6 := by
            rw [hc]
            unfold prN; dsimp only
            rw [if_neg (fun h => h hk), if_neg (by omega), if_neg (by omega), if_pos (by omega)]
          clear hc
          go_enter Tryd.func10, Tryd.ntmps10
          go_wp2_with fail
          rw [← HW0.out]
          refine (FG.out _ HT0.out).mono ?_
          rintro e u ⟨rfl, hO⟩
          obtain ⟨wa, hwa⟩ : ∃ wa, wa = u.alloc (.cells #[.int .i64 q, .int .u64 (wd p 0 : Int), .int .u64 (wd p 1 : Int), .int .u64 (wd p 2 : Int), .int .u64 (wd p 3 : Int), .int .u64 (i : Int), .int .u64 (wd r 0 : Int), .int .u64 (wd r 1 : Int), .int .u64 (wd r 2 : Int), .int .u64 (wd r 3 : Int), .int .u64 (wd s 0 : Int), .int .u64 (wd s 1 : Int), .int .u64 (wd s 2 : Int), .int .u64 (wd s 3 : Int)] 55) := ⟨_, rfl⟩
          have hOa : Off (fun _ => False) W0 wa := by rw [hwa]; exact hO.alloc _
          obtain ⟨p0, p1, p2, p3⟩ := cells4 (hOa.heap HG0.out (fun c => c))
          have lp := heap_lt (hOa.heap HG0.out (fun c => c))
          have HOa := Lib.hid (HO0.out.trans hOa (fun _ _ c => c))
          have HWa := Lib.hid hwa
          clear hO hOa hwa
          go_upto_region 2 with fail
          rw [← HWa.out]
          go_wp2_with fail
          refine (FA.out _).mono ?_
          rintro e w' ⟨rfl, rfl⟩
          go_wp2_with fail
          refine (FB.out _).mono ?_
          rintro e w' ⟨rfl, rfl⟩
          go_wp2_with fail
          refine (FD.out _).mono ?_
          rintro e w' ⟨rfl, rfl⟩
          go_wp2
          go_ret
          exact ⟨rfl, HOa.out⟩
      · rw [show decide (1 ≤ th ∧ th ≤ sh) = false from decide_eq_false hw1] at FB
        obtain rfl : c = 4 := by
          rw [hc]
          unfold prN; dsimp only
          rw [if_neg (fun h => h hk), if_neg (by omega), if_pos (by omega)]
        clear hc
        go_enter Tryd.func10, Tryd.ntmps10
        go_wp2_with fail
        rw [← HW0.out]
        refine (FG.out _ HT0.out).mono ?_
        rintro e u ⟨rfl, hO⟩
        obtain ⟨wa, hwa⟩ : ∃ wa, wa = u.alloc (.cells #[.int .i64 q, .int .u64 (wd p 0 : Int), .int .u64 (wd p 1 : Int), .int .u64 (wd p 2 : Int), .int .u64 (wd p 3 : Int), .int .u64 (i : Int), .int .u64 (wd r 0 : Int), .int .u64 (wd r 1 : Int), .int .u64 (wd r 2 : Int), .int .u64 (wd r 3 : Int), .int .u64 (wd s 0 : Int), .int .u64 (wd s 1 : Int), .int .u64 (wd s 2 : Int), .int .u64 (wd s 3 : Int)] 55) := ⟨_, rfl⟩
        have hOa : Off (fun _ => False) W0 wa := by rw [hwa]; exact hO.alloc _
        obtain ⟨p0, p1, p2, p3⟩ := cells4 (hOa.heap HG0.out (fun c => c))
        have lp := heap_lt (hOa.heap HG0.out (fun c => c))
        have HOa := Lib.hid (HO0.out.trans hOa (fun _ _ c => c))
        have HWa := Lib.hid hwa
        clear hO hOa hwa
        go_upto_region 2 with fail
        rw [← HWa.out]
        go_wp2_with fail
        refine (FA.out _).mono ?_
        rintro e w' ⟨rfl, rfl⟩
        go_wp2_with fail
        refine (FB.out _).mono ?_
        rintro e w' ⟨rfl, rfl⟩
        go_wp2
        go_ret
        exact ⟨rfl, HOa.out⟩
    · rw [show decide (1 ≤ sh ∧ sh ≤ 255) = false from decide_eq_false hw0] at FA
      obtain rfl : c = 5 := by
        rw [hc]
        unfold prN; dsimp only
        rw [if_neg (fun h => h hk), if_pos (by omega)]
      clear hc
      go_enter Tryd.func10, Tryd.ntmps10
      go_wp2_with fail
      rw [← HW0.out]
      refine (FG.out _ HT0.out).mono ?_
      rintro e u ⟨rfl, hO⟩
      obtain ⟨wa, hwa⟩ : ∃ wa, wa = u.alloc (.cells #[.int .i64 q, .int .u64 (wd p 0 : Int), .int .u64 (wd p 1 : Int), .int .u64 (wd p 2 : Int), .int .u64 (wd p 3 : Int), .int .u64 (i : Int), .int .u64 (wd r 0 : Int), .int .u64 (wd r 1 : Int), .int .u64 (wd r 2 : Int), .int .u64 (wd r 3 : Int), .int .u64 (wd s 0 : Int), .int .u64 (wd s 1 : Int), .int .u64 (wd s 2 : Int), .int .u64 (wd s 3 : Int)] 55) := ⟨_, rfl⟩
      have hOa : Off (fun _ => False) W0 wa := by rw [hwa]; exact hO.alloc _
      obtain ⟨p0, p1, p2, p3⟩ := cells4 (hOa.heap HG0.out (fun c => c))
      have lp := heap_lt (hOa.heap HG0.out (fun c => c))
      have HOa := Lib.hid (HO0.out.trans hOa (fun _ _ c => c))
      have HWa := Lib.hid hwa
      clear hO hOa hwa
      go_upto_region 2 with fail
      rw [← HWa.out]
      go_wp2_with fail
      refine (FA.out _).mono ?_
      rintro e w' ⟨rfl, rfl⟩
      go_wp2
      go_ret
      exact ⟨rfl, HOa.out⟩
  · rw [if_neg hk] at hg
    have FG := Lib.hid hg
    clear hg
    obtain rfl : c = 3 := by
      rw [hc]; unfold prN; dsimp only
      rw [if_pos hk]
    clear hc
    go_enter Tryd.func10, Tryd.ntmps10
    go_wp2_with fail
    rw [← HW0.out]
    refine (FG.out _ HT0.out).mono ?_
    rintro e u ⟨rfl, hO⟩
    obtain ⟨wa, hwa⟩ : ∃ wa, wa = u.alloc (.cells #[.int .i64 q, .int .u64 (wd p 0 : Int), .int .u64 (wd p 1 : Int), .int .u64 (wd p 2 : Int), .int .u64 (wd p 3 : Int), .int .u64 (i : Int), .int .u64 (wd r 0 : Int), .int .u64 (wd r 1 : Int), .int .u64 (wd r 2 : Int), .int .u64 (wd r 3 : Int), .int .u64 (wd s 0 : Int), .int .u64 (wd s 1 : Int), .int .u64 (wd s 2 : Int), .int .u64 (wd s 3 : Int)] 55) := ⟨_, rfl⟩
    have hOa : Off (fun _ => False) W0 wa := by rw [hwa]; exact hO.alloc _
    obtain ⟨p0, p1, p2, p3⟩ := cells4 (hOa.heap HG0.out (fun c => c))
    have lp := heap_lt (hOa.heap HG0.out (fun c => c))
    have HOa := Lib.hid (HO0.out.trans hOa (fun _ _ c => c))
    have HWa := Lib.hid hwa
    clear hO hOa hwa
    go_upto_region 2 with fail
    rw [← HWa.out]
    go_wp2
    go_ret
    exact ⟨rfl, HOa.out⟩
theorem random_par (z : Pms) (hz : z.ok) (w : World) (hT : TabAt w) : Calls Tryd.prog 12 #[z.val] w fun e w' => e = .returned (.int .i64 (rndN z)) ∧ Off (fun _ => False) w w' := by
  have FC := Lib.hid (fun W hT => check_par z hz W hT)
  obtain ⟨c, hc⟩ : ∃ c, c = prN z := ⟨_, rfl⟩
  have hx : c = 0 → 1 ≤ z.th ∧ z.th ≤ 255 := fun h => by
    rw [hc] at h
    unfold prN at h
    split at h
    · exact absurd h (by decide)
    · split at h
      · exact absurd h (by decide)
      · split at h
        · exact absurd h (by decide)
        · omega
  have hR : rndN z = if c = 0 then 64 * (z.th - 1) * (cntI z.ln : Int) else 0 := by unfold rndN; rw [hc]
  rw [← hc] at FC
  obtain ⟨r, hr⟩ : ∃ r, r = rndN z := ⟨_, rfl⟩
  rw [← hr] at hR ⊢
  have FN := Lib.hid (fun W => count_any z.ln hz.2.2.2 W)
  have hcb : cntI z.ln ≤ 2200 := by unfold cntI cntN; split <;> omega
  obtain ⟨fd, th, sh, ln⟩ := z
  unfold Pms.val at FC ⊢
  dsimp only at FC FN hx hR hcb ⊢
  obtain ⟨k, hk⟩ : ∃ k, k = cntI ln := ⟨_, rfl⟩
  rw [← hk] at FN hR hcb
  obtain ⟨W0, hW0⟩ : ∃ W0, W0 = w.alloc (.cells #[.int .i64 fd, .int .i64 th, .int .i64 sh, .int .i64 ln] 23) := ⟨_, rfl⟩
  have HG0 := Lib.hid (show W0.heap[w.heap.size]? = some (.cells #[.int .i64 fd, .int .i64 th, .int .i64 sh, .int .i64 ln] 23 (0, 0)) by rw [hW0]; exact heap_new' rfl _)
  have HO0 := Lib.hid (show Off (fun _ => False) w W0 by rw [hW0]; exact (Off.refl _ w).alloc _)
  have HT0 := Lib.hid (hT.off HO0.out)
  have HW0 := Lib.hid hW0
  clear hW0 hk hc hr hz hT
  by_cases h0 : c = 0
  · subst h0
    rw [if_pos rfl] at hR
    obtain ⟨x1, x2⟩ := hx rfl
    have q1 : IntKind.i64.wrap (th - 1) = th - 1 := by rw [IntKind.wrap_i64]; omega
    have q2 : IntKind.i64.wrap (64 * (th - 1)) = 64 * (th - 1) := by rw [IntKind.wrap_i64]; omega
    have q3 : IntKind.i64.wrap (64 * (th - 1) * (k : Int)) = r := by
      obtain ⟨m, hm⟩ : ∃ m : Nat, th - 1 = (m : Int) := Int.eq_ofNat_of_zero_le (by omega)
      have hmk : 64 * m * k ≤ 64 * 255 * 2200 := Nat.mul_le_mul (by omega) hcb
      have e : 64 * (th - 1) * (k : Int) = ((64 * m * k : Nat) : Int) := by rw [hm]; push_cast; rfl
      rw [hR, e, IntKind.wrap_i64]
      omega
    clear hR hx hcb
    go_enter Tryd.func12, Tryd.ntmps12
    go_wp2_with fail
    rw [← HW0.out]
    refine (FC.out _ HT0.out).mono ?_
    rintro e u ⟨rfl, hO⟩
    obtain ⟨wq, hwq⟩ : ∃ wq, wq = u := ⟨_, rfl⟩
    rw [← hwq] at hO ⊢
    obtain ⟨p0, p1, p2, p3⟩ := cells4 (hO.heap HG0.out (fun c => c))
    have lp := heap_lt (hO.heap HG0.out (fun c => c))
    have HO1 := Lib.hid (HO0.out.trans hO (fun _ _ c => c))
    clear hO hwq FC
    go_upto_region 3 with fail
    refine wp_region_off (by kernel_rfl) (by kernel_rfl) (fun T _ g hg => ?_)
    have y1 := fun t => hg.cell p1 t
    have y3 := fun t => hg.cell p3 t
    have HGg := Lib.hid hg
    clear hg p0 p1 p2 p3
    repeat (go_big_quiet_step (exact HGg.out.call (FN.out _)))
    refine wpQuiet_nil ?_
    rintro wc ⟨t, rfl⟩
    have HOc := Lib.hid (HO1.out.trans (HGg.out.off t) (fun _ _ c => c))
    clear y1 y3
    go_wp2
    go_ret
    exact ⟨rfl, HOc.out⟩
  · rw [if_neg h0] at hR
    subst hR
    have e1 : decide ((c : Int) = 0) = false := decide_eq_false (by omega)
    have e2 : ((c : Int) != 0) = true := by simp; exact h0
    have e3 : ¬ (c : Int) = 0 := by omega
    clear hx h0
    go_enter Tryd.func12, Tryd.ntmps12
    go_wp2_with fail
    rw [← HW0.out]
    refine (FC.out _ HT0.out).mono ?_
    rintro e u ⟨rfl, hO⟩
    have HO1 := Lib.hid (HO0.out.trans hO (fun _ _ c => c))
    clear hO FC
    go_wp2
    go_ret
    exact ⟨rfl, HO1.out⟩
theorem share_par (z : Sh) (hz : z.ok) (hl : z.pl.length ≤ 5000) (pa : Option Addr) (pc : Nat) (_hpc : z.pl.length ≤ pc) (S : Nat → Prop) (w : World) (hV : VsAt w (.slice pa z.pl.length pc) z.pl S) (hT : TabAt w) :
    Calls Tryd.prog 15 #[z.val (.slice pa z.pl.length pc)] w fun e w' => e = .returned (.int .i64 (shN z : Int)) ∧ Off (fun _ => False) w w' := by
  obtain ⟨c, hc⟩ : ∃ c, c = shN z := ⟨_, rfl⟩
  rw [← hc]
  have FN := Lib.hid (fun W => count_any z.ln hz.2.2.2.1 W)
  obtain ⟨fd, th, ix, ln, pl⟩ := z
  obtain ⟨q, p, i, r, s, hp, hpm0, hg⟩ := fget_par fd
  have HPM := Lib.hid hpm0
  clear hpm0
  unfold Sh.val
  dsimp only at FN hV hl hc ⊢
  obtain ⟨n, hn⟩ : ∃ n, n = pl.length := ⟨_, rfl⟩
  replace hc : c = shN ⟨fd, th, ix, ln, pl⟩ := hc
  rw [← hn] at hV hl ⊢
  have HN := Lib.hid hn
  have FC := Lib.hid (fun W (hO : Off (fun _ => False) w W) => containsall_par q p i r s hp pl pa n pc hn hl S W (hV.off hO (fun _ _ _ c => c)))
  obtain ⟨cn, hcn⟩ : ∃ cn, cn = cntI ln := ⟨_, rfl⟩
  rw [← hcn] at FN
  obtain ⟨W0, hW0⟩ : ∃ W0, W0 = w.alloc (.cells #[.int .i64 fd, .int .i64 th, .int .i64 ix, .int .i64 ln, .slice pa n pc] 31) := ⟨_, rfl⟩
  have HG0 := Lib.hid (show W0.heap[w.heap.size]? = some (.cells #[.int .i64 fd, .int .i64 th, .int .i64 ix, .int .i64 ln, .slice pa n pc] 31 (0, 0)) by rw [hW0]; exact heap_new' rfl _)
  have HO0 := Lib.hid (show Off (fun _ => False) w W0 by rw [hW0]; exact (Off.refl _ w).alloc _)
  have HT0 := Lib.hid (hT.off HO0.out)
  have HW0 := Lib.hid hW0
  clear hW0 hT hz hV hl hn
  by_cases hk : Kn fd
  · rw [if_pos hk] at hg
    have FG := Lib.hid hg
    clear hg
    have FA := Lib.hid (fun W => within_any th 1 255 W)
    by_cases hw0 : 1 ≤ th ∧ th ≤ 255
    · rw [show decide (1 ≤ th ∧ th ≤ 255) = true from decide_eq_true hw0] at FA
      have FB := Lib.hid (fun W => within_any ix 1 255 W)
      by_cases hw1 : 1 ≤ ix ∧ ix ≤ 255
      · rw [show decide (1 ≤ ix ∧ ix ≤ 255) = true from decide_eq_true hw1] at FB
        have FD := Lib.hid (fun W => within_any ln 0 65535 W)
        by_cases hw2 : 0 ≤ ln ∧ ln ≤ 65535
        · rw [show decide (0 ≤ ln ∧ ln ≤ 65535) = true from decide_eq_true hw2] at FD
          by_cases hlen : n = cntI ln
          · have hln : pl.length = cntI ln := HN.out.symm.trans hlen
            have i1' : ((n : Int) != (cn : Int)) = false := by rw [hcn, ← hlen]; simp
            by_cases hall : (pl.all fun x => decide (x < p)) = true
            · obtain rfl : c = 0 := by
                rw [hc]
                unfold shN; dsimp only
                rw [if_neg (fun h => h hk), if_neg (by omega), if_neg (by omega), if_neg (by omega), if_neg (by omega), if_pos (by have hq := List.all_eq_true.1 hall; intro x hx; rw [← HPM.out hk]; exact of_decide_eq_true (hq x hx))]
              clear hln
              rw [show (pl.all fun x => decide (x < p)) = true from hall] at FC
              clear hc hlen hcn hall
              go_enter Tryd.func15, Tryd.ntmps15
              go_wp2_with fail
              rw [← HW0.out]
              refine (FG.out _ HT0.out).mono ?_
              rintro e u ⟨rfl, hO⟩
              obtain ⟨wa, hwa⟩ : ∃ wa, wa = u.alloc (.cells #[.int .i64 q, .int .u64 (wd p 0 : Int), .int .u64 (wd p 1 : Int), .int .u64 (wd p 2 : Int), .int .u64 (wd p 3 : Int), .int .u64 (i : Int), .int .u64 (wd r 0 : Int), .int .u64 (wd r 1 : Int), .int .u64 (wd r 2 : Int), .int .u64 (wd r 3 : Int), .int .u64 (wd s 0 : Int), .int .u64 (wd s 1 : Int), .int .u64 (wd s 2 : Int), .int .u64 (wd s 3 : Int)] 55) := ⟨_, rfl⟩
              have hOa : Off (fun _ => False) W0 wa := by rw [hwa]; exact hO.alloc _
              have hga : wa.heap[u.heap.size]? = some (.cells #[.int .i64 q, .int .u64 (wd p 0 : Int), .int .u64 (wd p 1 : Int), .int .u64 (wd p 2 : Int), .int .u64 (wd p 3 : Int), .int .u64 (i : Int), .int .u64 (wd r 0 : Int), .int .u64 (wd r 1 : Int), .int .u64 (wd r 2 : Int), .int .u64 (wd r 3 : Int), .int .u64 (wd s 0 : Int), .int .u64 (wd s 1 : Int), .int .u64 (wd s 2 : Int), .int .u64 (wd s 3 : Int)] 55 (0, 0)) := by rw [hwa]; exact heap_new' rfl _
              obtain ⟨p0, p1, p2, p3, p4⟩ := cells5 (hOa.heap HG0.out (fun c => c))
              have lp := heap_lt (hOa.heap HG0.out (fun c => c))
              have HGa := Lib.hid hga
              have HOa := Lib.hid (HO0.out.trans hOa (fun _ _ c => c))
              have HWa := Lib.hid hwa
              clear hO hOa hwa hga
              go_upto_region 2 with fail
              rw [← HWa.out]
              go_wp2_with fail
              refine (FA.out _).mono ?_
              rintro e w' ⟨rfl, rfl⟩
              go_wp2_with fail
              refine (FB.out _).mono ?_
              rintro e w' ⟨rfl, rfl⟩
              go_wp2_with fail
              refine (FD.out _).mono ?_
              rintro e w' ⟨rfl, rfl⟩
              go_upto_region 10 with fail
              refine wp_region_off (by kernel_rfl) (by kernel_rfl) (fun T _ g hg => ?_)
              have y3 := fun t => hg.cell p3 t
              have y4 := fun t => hg.cell p4 t
              have HGg := Lib.hid hg
              clear hg p0 p1 p2 p3 p4
              repeat (go_big_quiet_step (exact HGg.out.call (FN.out _)))
              refine wpQuiet_nil ?_
              rintro wc ⟨t, rfl⟩
              have hOc := HGg.out.off t
              obtain ⟨wb, hwb⟩ : ∃ wb, wb = g t := ⟨_, rfl⟩
              rw [← hwb] at hOc ⊢
              obtain ⟨f0, f1, f2, f3, f4, f5, f6, f7, f8, f9, f10, f11, f12, f13⟩ := fv_cells (hOc.heap HGa.out (fun c => c))
              have o4 := y4 t
              rw [← hwb] at o4
              have lq := heap_lt (hOc.heap HGa.out (fun c => c))
              have lp2 := Nat.lt_of_lt_of_le lp hOc.size
              have HOc := Lib.hid (HOa.out.trans hOc (fun _ _ c => c))
              clear hOc y3 y4 hwb
              go_wp2_with fail
              refine (FC.out _ HOc.out).mono ?_
              rintro e wd ⟨rfl, hO⟩
              have HOd := Lib.hid (HOc.out.trans hO (fun _ _ c => c))
              clear hO o4 f0 f1 f2 f3 f4 f5 f6 f7 f8 f9 f10 f11 f12 f13
              go_wp2
              go_ret
              exact ⟨rfl, HOd.out⟩
            · have hall : (pl.all fun x => decide (x < p)) = false := by simpa using hall
              obtain rfl : c = 9 := by
                rw [hc]
                unfold shN; dsimp only
                rw [if_neg (fun h => h hk), if_neg (by omega), if_neg (by omega), if_neg (by omega), if_neg (by omega), if_neg (fun h => by rw [← HPM.out hk] at h; rw [List.all_eq_true.2 (fun x hx => decide_eq_true (h x hx))] at hall; cases hall)]
              clear hln
              rw [show (pl.all fun x => decide (x < p)) = false from hall] at FC
              clear hc hlen hcn hall
              go_enter Tryd.func15, Tryd.ntmps15
              go_wp2_with fail
              rw [← HW0.out]
              refine (FG.out _ HT0.out).mono ?_
              rintro e u ⟨rfl, hO⟩
              obtain ⟨wa, hwa⟩ : ∃ wa, wa = u.alloc (.cells #[.int .i64 q, .int .u64 (wd p 0 : Int), .int .u64 (wd p 1 : Int), .int .u64 (wd p 2 : Int), .int .u64 (wd p 3 : Int), .int .u64 (i : Int), .int .u64 (wd r 0 : Int), .int .u64 (wd r 1 : Int), .int .u64 (wd r 2 : Int), .int .u64 (wd r 3 : Int), .int .u64 (wd s 0 : Int), .int .u64 (wd s 1 : Int), .int .u64 (wd s 2 : Int), .int .u64 (wd s 3 : Int)] 55) := ⟨_, rfl⟩
              have hOa : Off (fun _ => False) W0 wa := by rw [hwa]; exact hO.alloc _
              have hga : wa.heap[u.heap.size]? = some (.cells #[.int .i64 q, .int .u64 (wd p 0 : Int), .int .u64 (wd p 1 : Int), .int .u64 (wd p 2 : Int), .int .u64 (wd p 3 : Int), .int .u64 (i : Int), .int .u64 (wd r 0 : Int), .int .u64 (wd r 1 : Int), .int .u64 (wd r 2 : Int), .int .u64 (wd r 3 : Int), .int .u64 (wd s 0 : Int), .int .u64 (wd s 1 : Int), .int .u64 (wd s 2 : Int), .int .u64 (wd s 3 : Int)] 55 (0, 0)) := by rw [hwa]; exact heap_new' rfl _
              obtain ⟨p0, p1, p2, p3, p4⟩ := cells5 (hOa.heap HG0.out (fun c => c))
              have lp := heap_lt (hOa.heap HG0.out (fun c => c))
              have HGa := Lib.hid hga
              have HOa := Lib.hid (HO0.out.trans hOa (fun _ _ c => c))
              have HWa := Lib.hid hwa
              clear hO hOa hwa hga
              go_upto_region 2 with fail
              rw [← HWa.out]
              go_wp2_with fail
              refine (FA.out _).mono ?_
              rintro e w' ⟨rfl, rfl⟩
              go_wp2_with fail
              refine (FB.out _).mono ?_
              rintro e w' ⟨rfl, rfl⟩
              go_wp2_with fail
              refine (FD.out _).mono ?_
              rintro e w' ⟨rfl, rfl⟩
              go_upto_region 10 with fail
              refine wp_region_off (by kernel_rfl) (by kernel_rfl) (fun T _ g hg => ?_)
              have y3 := fun t => hg.cell p3 t
              have y4 := fun t => hg.cell p4 t
              have HGg := Lib.hid hg
              clear hg p0 p1 p2 p3 p4
              repeat (go_big_quiet_step (exact HGg.out.call (FN.out _)))
              refine wpQuiet_nil ?_
              rintro wc ⟨t, rfl⟩
              have hOc := HGg.out.off t
              obtain ⟨wb, hwb⟩ : ∃ wb, wb = g t := ⟨_, rfl⟩
              rw [← hwb] at hOc ⊢
              obtain ⟨f0, f1, f2, f3, f4, f5, f6, f7, f8, f9, f10, f11, f12, f13⟩ := fv_cells (hOc.heap HGa.out (fun c => c))
              have o4 := y4 t
              rw [← hwb] at o4
              have lq := heap_lt (hOc.heap HGa.out (fun c => c))
              have lp2 := Nat.lt_of_lt_of_le lp hOc.size
              have HOc := Lib.hid (HOa.out.trans hOc (fun _ _ c => c))
              clear hOc y3 y4 hwb
              go_wp2_with fail
              refine (FC.out _ HOc.out).mono ?_
              rintro e wd ⟨rfl, hO⟩
              have HOd := Lib.hid (HOc.out.trans hO (fun _ _ c => c))
              clear hO o4 f0 f1 f2 f3 f4 f5 f6 f7 f8 f9 f10 f11 f12 f13
              go_wp2
              go_ret
              exact ⟨rfl, HOd.out⟩
          · have hln : pl.length ≠ cntI ln := fun h => hlen (HN.out.trans h)
            have i1' : ((n : Int) != (cn : Int)) = true := by rw [hcn]; simp; omega
            obtain rfl : c = 8 := by
              rw [hc]
              unfold shN; dsimp only
              rw [if_neg (fun h => h hk), if_neg (by omega), if_neg (by omega), if_neg (by omega), if_pos (by omega)]
            clear hc hlen hcn hln
            go_enter Tryd.func15, Tryd.ntmps15
            go_wp2_with fail
            rw [← HW0.out]
            refine (FG.out _ HT0.out).mono ?_
            rintro e u ⟨rfl, hO⟩
            obtain ⟨wa, hwa⟩ : ∃ wa, wa = u.alloc (.cells #[.int .i64 q, .int .u64 (wd p 0 : Int), .int .u64 (wd p 1 : Int), .int .u64 (wd p 2 : Int), .int .u64 (wd p 3 : Int), .int .u64 (i : Int), .int .u64 (wd r 0 : Int), .int .u64 (wd r 1 : Int), .int .u64 (wd r 2 : Int), .int .u64 (wd r 3 : Int), .int .u64 (wd s 0 : Int), .int .u64 (wd s 1 : Int), .int .u64 (wd s 2 : Int), .int .u64 (wd s 3 : Int)] 55) := ⟨_, rfl⟩
            have hOa : Off (fun _ => False) W0 wa := by rw [hwa]; exact hO.alloc _
            have hga : wa.heap[u.heap.size]? = some (.cells #[.int .i64 q, .int .u64 (wd p 0 : Int), .int .u64 (wd p 1 : Int), .int .u64 (wd p 2 : Int), .int .u64 (wd p 3 : Int), .int .u64 (i : Int), .int .u64 (wd r 0 : Int), .int .u64 (wd r 1 : Int), .int .u64 (wd r 2 : Int), .int .u64 (wd r 3 : Int), .int .u64 (wd s 0 : Int), .int .u64 (wd s 1 : Int), .int .u64 (wd s 2 : Int), .int .u64 (wd s 3 : Int)] 55 (0, 0)) := by rw [hwa]; exact heap_new' rfl _
            obtain ⟨p0, p1, p2, p3, p4⟩ := cells5 (hOa.heap HG0.out (fun c => c))
            have lp := heap_lt (hOa.heap HG0.out (fun c => c))
            have HGa := Lib.hid hga
            have HOa := Lib.hid (HO0.out.trans hOa (fun _ _ c => c))
            have HWa := Lib.hid hwa
            clear hO hOa hwa hga
            go_upto_region 2 with fail
            rw [← HWa.out]
            go_wp2_with fail
            refine (FA.out _).mono ?_
            rintro e w' ⟨rfl, rfl⟩
            go_wp2_with fail
            refine (FB.out _).mono ?_
            rintro e w' ⟨rfl, rfl⟩
            go_wp2_with fail
            refine (FD.out _).mono ?_
            rintro e w' ⟨rfl, rfl⟩
            go_upto_region 10 with fail
            refine wp_region_off (by kernel_rfl) (by kernel_rfl) (fun T _ g hg => ?_)
            have y3 := fun t => hg.cell p3 t
            have y4 := fun t => hg.cell p4 t
            have HGg := Lib.hid hg
            clear hg p0 p1 p2 p3 p4
            repeat (go_big_quiet_step (exact HGg.out.call (FN.out _)))
            refine wpQuiet_nil ?_
            rintro wc ⟨t, rfl⟩
            have hOc := HGg.out.off t
            have HOc := Lib.hid (HOa.out.trans hOc (fun _ _ c => c))
            clear hOc y3 y4
            go_wp2
            go_ret
            exact ⟨rfl, HOc.out⟩
        · rw [show decide (0 ≤ ln ∧ ln ≤ 65535) = false from decide_eq_false hw2] at FD
          obtain rfl : c = 6 := by
            rw [hc]
            unfold shN; dsimp only
            rw [if_neg (fun h => h hk), if_neg (by omega), if_neg (by omega), if_pos (by omega)]
          clear hc
          go_enter Tryd.func15, Tryd.ntmps15
          go_wp2_with fail
          rw [← HW0.out]
          refine (FG.out _ HT0.out).mono ?_
          rintro e u ⟨rfl, hO⟩
          obtain ⟨wa, hwa⟩ : ∃ wa, wa = u.alloc (.cells #[.int .i64 q, .int .u64 (wd p 0 : Int), .int .u64 (wd p 1 : Int), .int .u64 (wd p 2 : Int), .int .u64 (wd p 3 : Int), .int .u64 (i : Int), .int .u64 (wd r 0 : Int), .int .u64 (wd r 1 : Int), .int .u64 (wd r 2 : Int), .int .u64 (wd r 3 : Int), .int .u64 (wd s 0 : Int), .int .u64 (wd s 1 : Int), .int .u64 (wd s 2 : Int), .int .u64 (wd s 3 : Int)] 55) := ⟨_, rfl⟩
          have hOa : Off (fun _ => False) W0 wa := by rw [hwa]; exact hO.alloc _
          have hga : wa.heap[u.heap.size]? = some (.cells #[.int .i64 q, .int .u64 (wd p 0 : Int), .int .u64 (wd p 1 : Int), .int .u64 (wd p 2 : Int), .int .u64 (wd p 3 : Int), .int .u64 (i : Int), .int .u64 (wd r 0 : Int), .int .u64 (wd r 1 : Int), .int .u64 (wd r 2 : Int), .int .u64 (wd r 3 : Int), .int .u64 (wd s 0 : Int), .int .u64 (wd s 1 : Int), .int .u64 (wd s 2 : Int), .int .u64 (wd s 3 : Int)] 55 (0, 0)) := by rw [hwa]; exact heap_new' rfl _
          obtain ⟨p0, p1, p2, p3, p4⟩ := cells5 (hOa.heap HG0.out (fun c => c))
          have lp := heap_lt (hOa.heap HG0.out (fun c => c))
          have HGa := Lib.hid hga
          have HOa := Lib.hid (HO0.out.trans hOa (fun _ _ c => c))
          have HWa := Lib.hid hwa
          clear hO hOa hwa hga
          go_upto_region 2 with fail
          rw [← HWa.out]
          go_wp2_with fail
          refine (FA.out _).mono ?_
          rintro e w' ⟨rfl, rfl⟩
          go_wp2_with fail
          refine (FB.out _).mono ?_
          rintro e w' ⟨rfl, rfl⟩
          go_wp2_with fail
          refine (FD.out _).mono ?_
          rintro e w' ⟨rfl, rfl⟩
          go_wp2
          go_ret
          exact ⟨rfl, HOa.out⟩
      · rw [show decide (1 ≤ ix ∧ ix ≤ 255) = false from decide_eq_false hw1] at FB
        obtain rfl : c = 12 := by
          rw [hc]
          unfold shN; dsimp only
          rw [if_neg (fun h => h hk), if_neg (by omega), if_pos (by omega)]
        clear hc
        go_enter Tryd.func15, Tryd.ntmps15
        go_wp2_with fail
        rw [← HW0.out]
        refine (FG.out _ HT0.out).mono ?_
        rintro e u ⟨rfl, hO⟩
        obtain ⟨wa, hwa⟩ : ∃ wa, wa = u.alloc (.cells #[.int .i64 q, .int .u64 (wd p 0 : Int), .int .u64 (wd p 1 : Int), .int .u64 (wd p 2 : Int), .int .u64 (wd p 3 : Int), .int .u64 (i : Int), .int .u64 (wd r 0 : Int), .int .u64 (wd r 1 : Int), .int .u64 (wd r 2 : Int), .int .u64 (wd r 3 : Int), .int .u64 (wd s 0 : Int), .int .u64 (wd s 1 : Int), .int .u64 (wd s 2 : Int), .int .u64 (wd s 3 : Int)] 55) := ⟨_, rfl⟩
        have hOa : Off (fun _ => False) W0 wa := by rw [hwa]; exact hO.alloc _
        have hga : wa.heap[u.heap.size]? = some (.cells #[.int .i64 q, .int .u64 (wd p 0 : Int), .int .u64 (wd p 1 : Int), .int .u64 (wd p 2 : Int), .int .u64 (wd p 3 : Int), .int .u64 (i : Int), .int .u64 (wd r 0 : Int), .int .u64 (wd r 1 : Int), .int .u64 (wd r 2 : Int), .int .u64 (wd r 3 : Int), .int .u64 (wd s 0 : Int), .int .u64 (wd s 1 : Int), .int .u64 (wd s 2 : Int), .int .u64 (wd s 3 : Int)] 55 (0, 0)) := by rw [hwa]; exact heap_new' rfl _
        obtain ⟨p0, p1, p2, p3, p4⟩ := cells5 (hOa.heap HG0.out (fun c => c))
        have lp := heap_lt (hOa.heap HG0.out (fun c => c))
        have HGa := Lib.hid hga
        have HOa := Lib.hid (HO0.out.trans hOa (fun _ _ c => c))
        have HWa := Lib.hid hwa
        clear hO hOa hwa hga
        go_upto_region 2 with fail
        rw [← HWa.out]
        go_wp2_with fail
        refine (FA.out _).mono ?_
        rintro e w' ⟨rfl, rfl⟩
        go_wp2_with fail
        refine (FB.out _).mono ?_
        rintro e w' ⟨rfl, rfl⟩
        go_wp2
        go_ret
        exact ⟨rfl, HOa.out⟩
    · rw [show decide (1 ≤ th ∧ th ≤ 255) = false from decide_eq_false hw0] at FA
      obtain rfl : c = 4 := by
        rw [hc]
        unfold shN; dsimp only
        rw [if_neg (fun h => h hk), if_pos (by omega)]
      clear hc
      go_enter Tryd.func15, Tryd.ntmps15
      go_wp2_with fail
      rw [← HW0.out]
      refine (FG.out _ HT0.out).mono ?_
      rintro e u ⟨rfl, hO⟩
      obtain ⟨wa, hwa⟩ : ∃ wa, wa = u.alloc (.cells #[.int .i64 q, .int .u64 (wd p 0 : Int), .int .u64 (wd p 1 : Int), .int .u64 (wd p 2 : Int), .int .u64 (wd p 3 : Int), .int .u64 (i : Int), .int .u64 (wd r 0 : Int), .int .u64 (wd r 1 : Int), .int .u64 (wd r 2 : Int), .int .u64 (wd r 3 : Int), .int .u64 (wd s 0 : Int), .int .u64 (wd s 1 : Int), .int .u64 (wd s 2 : Int), .int .u64 (wd s 3 : Int)] 55) := ⟨_, rfl⟩
      have hOa : Off (fun _ => False) W0 wa := by rw [hwa]; exact hO.alloc _
      have hga : wa.heap[u.heap.size]? = some (.cells #[.int .i64 q, .int .u64 (wd p 0 : Int), .int .u64 (wd p 1 : Int), .int .u64 (wd p 2 : Int), .int .u64 (wd p 3 : Int), .int .u64 (i : Int), .int .u64 (wd r 0 : Int), .int .u64 (wd r 1 : Int), .int .u64 (wd r 2 : Int), .int .u64 (wd r 3 : Int), .int .u64 (wd s 0 : Int), .int .u64 (wd s 1 : Int), .int .u64 (wd s 2 : Int), .int .u64 (wd s 3 : Int)] 55 (0, 0)) := by rw [hwa]; exact heap_new' rfl _
      obtain ⟨p0, p1, p2, p3, p4⟩ := cells5 (hOa.heap HG0.out (fun c => c))
      have lp := heap_lt (hOa.heap HG0.out (fun c => c))
      have HGa := Lib.hid hga
      have HOa := Lib.hid (HO0.out.trans hOa (fun _ _ c => c))
      have HWa := Lib.hid hwa
      clear hO hOa hwa hga
      go_upto_region 2 with fail
      rw [← HWa.out]
      go_wp2_with fail
      refine (FA.out _).mono ?_
      rintro e w' ⟨rfl, rfl⟩
      go_wp2
      go_ret
      exact ⟨rfl, HOa.out⟩
  · rw [if_neg hk] at hg
    have FG := Lib.hid hg
    clear hg
    obtain rfl : c = 3 := by
      rw [hc]; unfold shN; dsimp only
      rw [if_pos hk]
    clear hc hcn
    go_enter Tryd.func15, Tryd.ntmps15
    go_wp2_with fail
    rw [← HW0.out]
    refine (FG.out _ HT0.out).mono ?_
    rintro e u ⟨rfl, hO⟩
    obtain ⟨wa, hwa⟩ : ∃ wa, wa = u.alloc (.cells #[.int .i64 q, .int .u64 (wd p 0 : Int), .int .u64 (wd p 1 : Int), .int .u64 (wd p 2 : Int), .int .u64 (wd p 3 : Int), .int .u64 (i : Int), .int .u64 (wd r 0 : Int), .int .u64 (wd r 1 : Int), .int .u64 (wd r 2 : Int), .int .u64 (wd r 3 : Int), .int .u64 (wd s 0 : Int), .int .u64 (wd s 1 : Int), .int .u64 (wd s 2 : Int), .int .u64 (wd s 3 : Int)] 55) := ⟨_, rfl⟩
    have hOa : Off (fun _ => False) W0 wa := by rw [hwa]; exact hO.alloc _
    have hga : wa.heap[u.heap.size]? = some (.cells #[.int .i64 q, .int .u64 (wd p 0 : Int), .int .u64 (wd p 1 : Int), .int .u64 (wd p 2 : Int), .int .u64 (wd p 3 : Int), .int .u64 (i : Int), .int .u64 (wd r 0 : Int), .int .u64 (wd r 1 : Int), .int .u64 (wd r 2 : Int), .int .u64 (wd r 3 : Int), .int .u64 (wd s 0 : Int), .int .u64 (wd s 1 : Int), .int .u64 (wd s 2 : Int), .int .u64 (wd s 3 : Int)] 55 (0, 0)) := by rw [hwa]; exact heap_new' rfl _
    obtain ⟨p0, p1, p2, p3, p4⟩ := cells5 (hOa.heap HG0.out (fun c => c))
    have lp := heap_lt (hOa.heap HG0.out (fun c => c))
    have HGa := Lib.hid hga
    have HOa := Lib.hid (HO0.out.trans hOa (fun _ _ c => c))
    have HWa := Lib.hid hwa
    clear hO hOa hwa hga
    go_upto_region 2 with fail
    rw [← HWa.out]
    go_wp2
    go_ret
    exact ⟨rfl, HOa.out⟩
theorem shares_par (l : List Sh) (a : Option Addr) (n cap : Nat) (hn : n = l.length) (hl : n ≤ 100000) (hp : ∀ s ∈ l, s.pl.length ≤ 5000) (S : Nat → Prop) (w : World) (h : ShsAt w (.slice a n cap) l S) (hT : TabAt w) :
    Calls Tryd.prog 17 #[.slice a n cap] w fun e w' => e = .returned (.int .i64 (shsN l : Int)) ∧ Off (fun _ => False) w w' := by
  obtain ⟨c, hc⟩ : ∃ c, c = shsN l := ⟨_, rfl⟩
  rw [← hc]
  have HN := Lib.hid hn
  have HC := Lib.hid hc
  have HL := Lib.hid h
  have HP := Lib.hid hp
  have HT := Lib.hid hT
  have FM := Lib.hid (fun W (hO : Off (fun _ => False) w W) => mixed_any l a n cap hn S W (h.off hO (fun _ _ _ c => c)))
  have FD := Lib.hid (fun W (hO : Off (fun _ => False) w W) => dup_any l a n cap hn S W (h.off hO (fun _ _ _ c => c)))
  obtain ⟨bm, hbm⟩ : ∃ bm, bm = decide (¬ OneH l) := ⟨_, rfl⟩
  obtain ⟨bd, hbd⟩ : ∃ bd, bd = decide (¬ (ixs l).Nodup) := ⟨_, rfl⟩
  rw [← hbm] at FM
  rw [← hbd] at FD
  have HBm := Lib.hid hbm
  have HBd := Lib.hid hbd
  clear hn hc h hp hT hbm hbd
  go_enter Tryd.func17, Tryd.ntmps17
  go_wp2_with fail
  go_loopw [8] (fun i wr => ∃ k : Nat, k ≤ n ∧ i = .int .i64 (k : Int) ∧ firstE (l.take k) = 0 ∧ Off (fun _ => False) w wr) (fun i _ => n - (intOf i).toNat)
  case atStart => exact ⟨0, Nat.zero_le _, rfl, rfl, Off.refl _ _⟩
  case round =>
    obtain ⟨k, hk, rfl, hr, hO⟩ := hrel
    by_cases hlt : k < n
    · have w2 : IntKind.i64.wrap ((k : Int) + 1) = (k : Int) + 1 := by rw [IntKind.wrap_i64]; omega
      obtain ⟨s, b, off, hx, hok, rfl, _, c0, c1, c2, c3, pa, pc, c4, hpc, hV⟩ := (HL.out.off hO (fun _ _ _ c => c)).at hlt
      obtain ⟨wa, hwa⟩ : ∃ wa, wa = wr.alloc (.cells #[.int .i64 s.fd, .int .i64 s.th, .int .i64 s.ix, .int .i64 s.ln, .slice pa s.pl.length pc] 31) := ⟨_, rfl⟩
      have hOa : Off (fun _ => False) wr wa := by rw [hwa]; exact (Off.refl _ wr).alloc _
      obtain ⟨g0, g1, g2, g3, g4⟩ := cells5 (show wa.heap[wr.heap.size]? = some (.cells #[.int .i64 s.fd, .int .i64 s.th, .int .i64 s.ix, .int .i64 s.ln, .slice pa s.pl.length pc] 31 (0, 0)) by rw [hwa]; exact heap_new' rfl _)
      have FC := Lib.hid (share_par s hok (HP.out s (List.mem_of_getElem? hx)) pa pc hpc _ wa (hV.off hOa (fun _ _ _ c => c)) (HT.out.off (hO.trans hOa (fun _ _ c => c))))
      obtain ⟨r, hr2⟩ : ∃ r, r = shN s := ⟨_, rfl⟩
      rw [← hr2] at FC
      unfold Sh.val at FC
      have HX := Lib.hid hx
      have HR := Lib.hid hr
      have HR2 := Lib.hid hr2
      have HOa := Lib.hid (hO.trans hOa (fun _ _ c => c))
      have HWa := Lib.hid hwa
      have hlb : b < wr.heap.size := World.block_lt_of_cell? wr _ c0
      have hkn : (k : Int) < (n : Int) := by omega
      have hzl : ∃ z, z = s.pl.length := ⟨_, rfl⟩
      obtain ⟨z, hz⟩ := hzl
      rw [← hz] at c4 g4 FC HWa
      obtain ⟨fd, th, ix, ln, pl⟩ := s
      dsimp only at FC c0 c1 c2 c3 c4 g0 g1 g2 g3 g4 HWa
      clear hx hr hr2 hO hok hV hpc hwa hOa hz
      go_upto_region 4 with fail
      rw [← HWa.out]
      clear c0 c1 c2 c3 c4 hlb
      go_wp2_with fail
      refine FC.out.mono ?_
      rintro e u ⟨rfl, hO⟩
      have HO2 := Lib.hid (HOa.out.trans hO (fun _ _ c => c))
      clear hO FC g0 g1 g2 g3 g4
      by_cases h0 : r = 0
      · have HF := Lib.hid ((firstE_cut HR.out HX.out).1.trans (HR2.out.symm.trans h0))
        subst h0
        go_wp2
        go_roundw
        case rel => exact ⟨k + 1, by omega, by simp, HF.out, HO2.out⟩
        case measure => simp [intOf]; omega
      · have HF := Lib.hid (show c = r by rw [HC.out, HR2.out]; exact shsN_err ((firstE_cut HR.out HX.out).2 (by rw [← HR2.out]; exact h0)) (by rw [← HR2.out]; exact h0))
        have hr0 : ¬ ((r : Int) = 0) := by omega
        go_wp2
        refine bodyPost_ret (results_tmp rfl _ _ _) rfl ?_
        exact ⟨by rw [HF.out]; rfl, HO2.out⟩
    · obtain rfl : n = k := by omega
      rw [List.take_of_length_le (by rw [← HN.out]; exact Nat.le_refl _)] at hr
      have HR0 := Lib.hid hr
      have HO := Lib.hid hO
      have hnn : ¬ (n : Int) < (n : Int) := by omega
      clear hr hO hlt hk
      go_wp2_with fail
      refine (FM.out _ HO.out).mono ?_
      rintro e u ⟨rfl, hO⟩
      have HO := Lib.hid (HO.out.trans hO (fun _ _ c => c))
      clear hO FM
      rcases Bool.eq_false_or_eq_true bm with hb | hb
      · have HB := Lib.hid (show c = 14 by rw [HC.out]; exact shsN_mix HR0.out (of_decide_eq_true (HBm.out ▸ hb)))
        subst hb
        go_wp2
        refine bodyPost_ret (results_tmp rfl _ _ _) rfl ?_
        exact ⟨by rw [HB.out]; rfl, HO.out⟩
      · have HH := Lib.hid (show OneH l from Decidable.not_not.1 (of_decide_eq_false (HBm.out ▸ hb)))
        subst hb
        go_wp2_with fail
        refine (FD.out _ HO.out).mono ?_
        rintro e u' ⟨rfl, hO⟩
        have HO := Lib.hid (HO.out.trans hO (fun _ _ c => c))
        clear hO FD
        rcases Bool.eq_false_or_eq_true bd with hb | hb
        · have HB := Lib.hid (show c = 15 by rw [HC.out]; exact shsN_dup HR0.out HH.out (of_decide_eq_true (HBd.out ▸ hb)))
          subst hb
          go_wp2
          refine bodyPost_ret (results_tmp rfl _ _ _) rfl ?_
          exact ⟨by rw [HB.out]; rfl, HO.out⟩
        · have HD := Lib.hid (show (ixs l).Nodup from Decidable.not_not.1 (of_decide_eq_false (HBd.out ▸ hb)))
          subst hb
          by_cases h0 : n = 0
          · have HB := Lib.hid (show c = 16 by
              have : l = [] := List.length_eq_zero_iff.1 (by rw [← HN.out]; exact h0)
              rw [HC.out, this]; exact shsN_nil)
            subst h0
            have q0 : decide ((0 : Int) = 0) = true := rfl
            go_wp2
            refine bodyPost_ret (results_tmp rfl _ _ _) rfl ?_
            exact ⟨by rw [HB.out]; rfl, HO.out⟩
          · obtain ⟨t, b, off, hy, _, rfl, _, hz⟩ := (HL.out.off HO.out (fun _ _ _ c => c)).at (show 0 < n by omega)
            obtain ⟨z0, z1, z2, z3, _, _, z4, _, _⟩ := hz.zero
            have HB := Lib.hid (show c = if (n : Int) < t.th then 16 else 0 by rw [HC.out, HN.out]; exact shsN_end HR0.out HH.out HD.out hy)
            obtain ⟨fd, th, ix, ln, pl⟩ := t
            dsimp only at z0 z1 z2 z3 z4 HB
            have q0 : decide ((n : Int) = 0) = false := decide_eq_false (by omega)
            have hp0 : (0 : Int) < (n : Int) := by omega
            clear hy hz h0
            by_cases hth : (n : Int) < th
            · have q1 : decide ((n : Int) < th) = true := decide_eq_true hth
              rw [if_pos hth] at HB
              go_wp2
              refine bodyPost_ret (results_tmp rfl _ _ _) rfl ?_
              exact ⟨by rw [HB.out]; rfl, HO.out⟩
            · have q1 : decide ((n : Int) < th) = false := decide_eq_false hth
              rw [if_neg hth] at HB
              go_wp2
              refine bodyPost_ret (results_tmp rfl _ _ _) rfl ?_
              exact ⟨by rw [HB.out]; rfl, HO.out⟩
end Go.Proofs.YtmokaikofcbboaaDoor
