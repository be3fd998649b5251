/-
  The reference of layer 13 over this seat's translation: Count, Split, Join. Conditions: as each says.
-/
import Derived.Test.YtllhfkcgocbblaaDoorChkPlain
import Derived.Test.YtllhfkcgocbblaaDoorBytAll
import Derived.Test.YtllhfkcgocbblaaDoorPartBy
import Derived.Test.YtllhfkcgocbblaaDoorRowByte
import Derived.Test.YtllhfkcgocbblaaDoorElRows
namespace Go.Proofs.YtllhfkcgocbblaaDoor
open Go.RowKit
attribute [local go_sem ↓] Go.wp_at_zero Go.wp_at_succ
/-- The number of chunks of a length. -/
def cntI (m : Int) : Nat := if 0 ≤ m ∧ m ≤ 65535 then cntN m.toNat else 0
set_option maxRecDepth 100000 in
set_option maxHeartbeats 4000000 in
theorem refcount_any (m : Int) (hm : (Lit.int .i64 m).wf = true) (w : World) :
    Calls Tryd.prog 11 #[.int .i64 m] w fun e w' => e = .returned (.int .i64 (cntI m : Int)) ∧ Off (fun _ => False) w w' := by
  have hmr : -9223372036854775808 ≤ m ∧ m ≤ 9223372036854775807 := bounds_i64 hm
  clear hm
  obtain ⟨c, hc⟩ : ∃ c, c = cntI m := ⟨_, rfl⟩
  rw [← hc]
  by_cases h1 : 65535 < m
  · have hc0 : c = 0 := by rw [hc]; unfold cntI; rw [if_neg (by omega)]
    subst hc0
    clear hc
    go_enter Tryd.func11, Tryd.ntmps11
    go_wp2
    go_ret
    exact ⟨rfl, Off.refl _ w⟩
  · have hcE : ∀ k : Nat, 31 * (k : Int) < m + 31 ∨ k = 0 → m - 31 * (k : Int) ≤ 0 → k = c := fun k hk hz => by
      rw [hc]; unfold cntI
      split
      · unfold cntN; omega
      · omega
    have HE := Lib.hid hcE
    clear hcE hc
    go_enter Tryd.func11, Tryd.ntmps11
    go_wp2
    go_loopw [0, 3] (fun u v wr => ∃ k : Nat, u = .int .i64 (m - 31 * (k : Int)) ∧ v = .int .i64 (k : Int) ∧ (31 * (k : Int) < m + 31 ∨ k = 0) ∧ Off (fun _ => False) w wr) (fun u _ _ => (intOf u).toNat)
    case atStart => exact ⟨0, by simp, rfl, .inr rfl, Off.refl _ w⟩
    case round =>
      obtain ⟨k, rfl, rfl, hk, hO⟩ := hrel
      obtain ⟨z, hz⟩ : ∃ z, z = m - 31 * (k : Int) := ⟨_, rfl⟩
      rw [← hz]
      by_cases hlt : 0 < z
      · have w1 : IntKind.i64.wrap (z - 31) = z - 31 := by rw [IntKind.wrap_i64]; omega
        have w2 : IntKind.i64.wrap ((k : Int) + 1) = (k : Int) + 1 := by rw [IntKind.wrap_i64]; omega
        go_wp2
        go_roundw
        case rel => exact ⟨k + 1, by congr 1; omega, by simp, by omega, hO⟩
        case measure => simp [intOf]; omega
      · have hkc := HE.out k hk (by omega)
        subst hkc
        go_wp2
        go_ret
        exact ⟨rfl, hO⟩
set_option maxRecDepth 100000 in
set_option maxHeartbeats 4000000 in
theorem refsplit_any (a : Option Addr) (n cap : Nat) (bs : List Nat) (S : Nat → Prop) (w : World) (hb : BsAt w a bs S) (hn : n = bs.length) (hc : n ≤ cap) (hs : Small bs) (hl : n ≤ 65535) :
    Calls Tryd.prog 15 #[.slice a n cap] w fun e w' => ∃ a2 c2, e = .returned (.tuple #[.slice a2 (cntN n) c2, .int .i64 0]) ∧ w'.ownsRow w.heap.size 27 4 (.slice a2 (cntN n) c2) (cntN n) (flat4 (splitV bs)) ∧ Off (fun _ => False) w w' := by
  obtain ⟨j0, hj, hj0, hj1, hj2⟩ := info_parts vec_info
  have HB := Lib.hid hb
  have HN := Lib.hid hn
  have HS := Lib.hid hs
  have hc1 : (n : Int) ≤ (cap : Int) := by omega
  have hl1 : ¬ (65535 : Int) < (n : Int) := by omega
  have HSV := Lib.hid (show splitV bs = splitK bs (cntN n) by unfold splitV; rw [hn])
  rw [HSV.out]
  clear hb hn hs
  go_enter Tryd.func15, Tryd.ntmps15
  go_wp2
  go_loopw [4, 5] (fun v i wr => ∃ k : Nat, k ≤ cntN n ∧ i = .int .i64 ((31 * k : Nat) : Int) ∧ (∃ a c, v = .slice a k c ∧ wr.ownsRow w.heap.size 27 4 v k (flat4 (splitK bs k))) ∧ Off (fun _ => False) w wr) (fun _ i _ => n - (intOf i).toNat)
  case atStart => exact ⟨0, Nat.zero_le _, rfl, ⟨none, 0, rfl, World.ownsRow_nil _ _ _ _⟩, Off.refl _ w⟩
  case round =>
    obtain ⟨k, hk, rfl, ⟨va, vc, rfl, hov⟩, hO⟩ := hrel
    obtain ⟨q, hq⟩ : ∃ q, q = 31 * k := ⟨_, rfl⟩
    rw [← hq]
    by_cases hlt : q < n
    · obtain ⟨j, hj'⟩ : ∃ j, j = min (q + 31) n := ⟨_, rfl⟩
      have hqj : q ≤ j := by omega
      have hjn : j ≤ n := by omega
      obtain ⟨d, hd⟩ : ∃ d, d = j - q := ⟨_, rfl⟩
      have hd31 : d ≤ 31 := by omega
      obtain ⟨a1, hsl, hb1⟩ := part_lh a n cap q j bs HN.out hqj hjn hc
      rw [← hd] at hsl hb1
      obtain ⟨m, hm⟩ : ∃ m, m = numB (chk bs k) := ⟨_, rfl⟩
      have hck : (bs.drop q).take d = chk bs k := by
        unfold chk
        rw [← hq]
        by_cases h31 : q + 31 ≤ n
        · rw [show d = 31 by omega]
        · rw [List.take_of_length_le (by rw [List.length_drop, ← HN.out]; omega), List.take_of_length_le (by rw [List.length_drop, ← HN.out]; omega)]
      have FNu := Lib.hid (fun W hO => refnumber_any a1 d (cap - q) (chk bs k) S W (hck ▸ hb1 W S (HB.out.off hO (fun _ _ _ c => c))) (by rw [← hck, List.length_take, List.length_drop, ← HN.out]; omega) (chk_small HS.out k) (by omega) : ∀ W, Off (fun _ => False) w W → _)
      rw [← hm] at FNu
      have HFl := Lib.hid (show flat4 (splitK bs k) ++ words4 m = flat4 (splitK bs (k + 1)) by rw [splitK_succ, flat4_append, ← hm]; rfl)
      have i1 : (q : Int) < (n : Int) := by omega
      have w1 : IntKind.i64.wrap ((q : Int) + 31) = (q : Int) + 31 := by rw [IntKind.wrap_i64]; omega
      have mn : min ((q : Int) + 31) (n : Int) = (j : Int) := by omega
      have hkc : k + 1 ≤ cntN n := cntN_step (by omega)
      have HK := Lib.hid (show k + 1 ≤ 100000 by unfold cntN at hkc; omega)
      have HKC := Lib.hid hkc
      have HO := Lib.hid hO
      have HOv := Lib.hid hov
      have HQ := Lib.hid hq
      clear hk hov hO hb1 hck hm hj' hkc hq hd
      go_wp2_with fail
      refine (FNu.out _ HO.out).mono ?_
      rintro e u1 ⟨rfl, hO1⟩
      have HO2 := Lib.hid (HO.out.trans hO1 (fun _ _ c => c))
      have HOv2 := Lib.hid (own_off HOv.out hO1)
      clear hO1
      go_wp2_with (at_builtin; refine wpList_append_own _ rfl _ _ 38 rfl w.heap.size 27 j0 _ 4 32 Tryd.underlying38 hj hj0 hj1 hj2 rfl (by decide) _ k _ rfl (HOv2.out.alloc _) ⟨u1.heap.size, 0, none⟩ 1 1 (words4 m) rfl rfl ?q1 (words4_one _) ?q2 ?q3 ?q4 ?_)
      case q1 => exact words4_at (heap_new' rfl _)
      case q2 => have := HK.out; unfold maxLen; omega
      case q3 => have := HK.out; omega
      case q4 => have := HO2.out.size; simp; omega
      intro v' w1 hown' hgrow hnil
      obtain ⟨g6, c6, rfl⟩ := ownsRow_succ hown'
      have hO3 : Off (fun _ => False) w w1 := grown_off (HO2.out.alloc _) (Nat.le_refl _) (HOv2.out.alloc _) hgrow
      rw [HFl.out] at hown'
      have w2 : IntKind.i64.wrap ((q : Int) + 31) = (q : Int) + 31 := by rw [IntKind.wrap_i64]; omega
      go_wp2
      go_roundw
      case rel => exact ⟨k + 1, HKC.out, by rw [HQ.out, show ((31 * k : Nat) : Int) + 31 = ((31 * (k + 1) : Nat) : Int) by omega], ⟨_, _, rfl, hown'⟩, hO3⟩
      case measure => simp [intOf]; omega
    · have hkc : k = cntN n := Nat.le_antisymm hk (cntN_end (by omega))
      subst hkc
      have i1 : ¬ (q : Int) < (n : Int) := by omega
      have HQ := Lib.hid hq
      clear hq
      go_wp2
      exact bodyPost_ret (v := .tuple #[.slice va (cntN n) vc, .int .i64 0]) (by simp [results, Tryd.results15, go_sem]) rfl ⟨_, _, rfl, hov, hO⟩
theorem wf_small {d : Nat} (h : d ≤ 65535) : (Lit.int .i64 (d : Int)).wf = true := by
  simp [Lit.wf, IntKind.min, IntKind.max, IntKind.signed, IntKind.bits]
  omega
theorem row_sv {w : World} {B : Nat} {v : Value} {xs : List Nat} (h : RowY B w v xs) : SvAt w v xs := by
  obtain ⟨a, cap, hv, hc, hb⟩ := h.at
  exact ⟨a, _, cap, hv, rfl, hc, hb.mono fun _ _ _ => trivial⟩
theorem sv_nil (w : World) : SvAt w (.slice none 0 0) [] := ⟨none, 0, 0, rfl, rfl, Nat.le_refl _, BsAt.nil _ _ _⟩
set_option maxRecDepth 100000 in
set_option maxHeartbeats 4000000 in
theorem refjoin_any (l : List Nat) (v : Value) (m : Int) (hm : (Lit.int .i64 m).wf = true) (w : World) (hV : Ls w v l) :
    Calls Tryd.prog 20 #[v, .int .i64 m] w fun e w' => ∃ sv, e = .returned (.tuple #[sv, .int .i64 ((joinV l m).2 : Int)]) ∧ SvAt w' sv (joinV l m).1 ∧ Off (fun _ => False) w w' := by
  obtain ⟨a, cap, rfl, hL⟩ := hV.open
  clear hV
  have hC := fun W => refcount_any m hm W
  have hmr : -9223372036854775808 ≤ m ∧ m ≤ 9223372036854775807 := bounds_i64 hm
  obtain ⟨n, hn⟩ : ∃ n, n = l.length := ⟨_, rfl⟩
  have hn2 := hL.len.2
  rw [← hn] at hL hn2 ⊢
  have HL := Lib.hid hL
  clear hL hm
  by_cases hr : 0 ≤ m ∧ m ≤ 65535
  · obtain ⟨M, rfl⟩ : ∃ M : Nat, m = (M : Int) := Int.eq_ofNat_of_zero_le hr.1
    have hM : M ≤ 65535 := by omega
    have hcI : cntI (M : Int) = cntN M := by unfold cntI; rw [if_pos hr, Int.toNat_natCast]
    rw [hcI] at hC
    obtain ⟨c, hc⟩ : ∃ c, c = cntN M := ⟨_, rfl⟩
    rw [← hc] at hC
    have HC := Lib.hid hC
    have h1 : ¬ ((M : Int) < 0) := by omega
    have h2 : ¬ ((65535 : Int) < (M : Int)) := by omega
    have hJ : joinV l (M : Int) = if n = c then joinG M l n else ([], 8) := by unfold joinV; rw [if_pos hr, Int.toNat_natCast, ← hc, ← hn]
    clear hC hcI hr
    by_cases hnc : n = c
    · rw [if_pos hnc] at hJ
      subst hnc
      have HM := Lib.hid hM
      have HJ := Lib.hid hJ
      have HN := Lib.hid hn
      have HCn := Lib.hid hc
      clear hJ hn hc hM
      rw [HJ.out]
      go_enter Tryd.func20, Tryd.ntmps20
      go_wp2_with fail
      refine (HC.out _).mono ?_
      rintro e u0 ⟨rfl, hO0⟩
      have HO0 := Lib.hid hO0
      clear hO0
      go_wp2_with fail
      go_loopw [6, 7] (fun o i wr => ∃ k : Nat, k ≤ n ∧ i = .int .i64 (k : Int) ∧ RowY w.heap.size wr o (joinG M l k).1 ∧ (joinG M l k).2 = 0 ∧ Off (fun _ => False) w wr) (fun _ i _ => n - (intOf i).toNat)
      case atStart => exact ⟨0, Nat.zero_le _, rfl, RowT.nil _, rfl, HO0.out⟩
      case round =>
        obtain ⟨k, hk, rfl, hR, hz, hO⟩ := hrel
        by_cases hlt : k < n
        · obtain ⟨x, b, off, hxk, rfl, c0, c1, c2, c3⟩ := (HL.out.off hO (fun _ _ _ c => c)).at hlt
          have hkM : 31 * k < M := by have := chkN_pos (show k < cntN M by rw [← HCn.out]; exact hlt); unfold chkN at this; omega
          obtain ⟨d, hd⟩ : ∃ d, d = chkN M k := ⟨_, rfl⟩
          have hd31 : d ≤ 31 := hd ▸ chkN_le _ _
          have hM := HM.out
          have w1 : IntKind.i64.wrap (31 * (k : Int)) = 31 * (k : Int) := by rw [IntKind.wrap_i64]; omega
          have w2 : IntKind.i64.wrap ((M : Int) - 31 * (k : Int)) = (M : Int) - 31 * (k : Int) := by rw [IntKind.wrap_i64]; omega
          have mn : min 31 ((M : Int) - 31 * (k : Int)) = (d : Int) := by rw [hd]; unfold chkN; omega
          have w3 : IntKind.i64.wrap ((k : Int) + 1) = (k : Int) + 1 := by rw [IntKind.wrap_i64]; omega
          have i1 : (k : Int) < (n : Int) := by omega
          have hgd : l.getD k 0 = x := by rw [List.getD_eq_getElem?_getD, hxk]; rfl
          obtain ⟨ys, hys⟩ : ∃ ys, ys = (unpV x (d : Int)).1 := ⟨_, rfl⟩
          obtain ⟨er, her⟩ : ∃ er, er = (unpV x (d : Int)).2 := ⟨_, rfl⟩
          have FU := Lib.hid (fun W => refunpack_any x (d : Int) (wf_small (by omega)) W)
          rw [← hys, ← her] at FU
          have hnext : joinG M l (k + 1) = if er = 0 then ((joinG M l k).1 ++ ys, 0) else ([], er) := by rw [joinG, if_pos hz, hgd, ← hd, ← hys, ← her]
          have hlen := joinG_len M l (k + 1)
          have HR := Lib.hid hR
          have HO := Lib.hid hO
          have HX := Lib.hid hnext
          have HLn := Lib.hid hlen
          have HK := Lib.hid hkM
          clear hR hO hz hnext hlen hkM hxk hgd hys her hd hM
          go_wp2_with fail
          refine (FU.out _).mono ?_
          rintro e u1 ⟨sv, rfl, hsv, hO1⟩
          have HO2 := Lib.hid (HO.out.trans hO1 (fun _ _ c => c))
          by_cases he : er = 0
          · subst he
            have hX := HX.out
            rw [if_pos rfl] at hX
            have hl5 : (joinG M l k).1.length + ys.length ≤ 100000 := by
              have h1 := HLn.out
              rw [hX, List.length_append] at h1
              have := HK.out
              have := HM.out
              omega
            obtain ⟨sa, sn, sc, rfl, hsn, hsc, hsb⟩ := hsv
            obtain ⟨o2, u2, hap, hrow, hO2⟩ := app_any (cap := sc) HO2.out (HR.out.off hO1 (fun _ _ c => c)) hsb hsn (by omega)
            have HA := Lib.hid hap
            have HRw := Lib.hid hrow
            have HO3 := Lib.hid hO2
            have HX2 := Lib.hid hX
            clear hO1 hsb hsn hap hrow hO2 hX c0 c1 c2 c3 hl5
            go_wp2_with first | (at_builtin; refine Go.Lib.wpList_append_run _ rfl _ _ _ _ rfl _ _ rfl rfl _ _ HA.out ?_) | fail
            go_roundw
            case rel => exact ⟨k + 1, by omega, by simp, by rw [HX2.out]; exact HRw.out, by rw [HX2.out], HO3.out⟩
            case measure => simp [intOf]; omega
          · have hX := HX.out
            rw [if_neg he] at hX
            have hfin : joinG M l n = ([], er) := by
              have h1 : (joinG M l (k + 1)).2 ≠ 0 := by rw [hX]; exact he
              have h2 := joinG_stays h1 (n - (k + 1))
              rw [show k + 1 + (n - (k + 1)) = n by omega, hX] at h2
              exact h2
            have HFn := Lib.hid hfin
            have i5 : ¬ ((er : Int) = 0) := by omega
            clear hX hfin hO1 c0 c1 c2 c3 hsv
            go_wp2
            exact bodyPost_ret (v := .tuple #[.slice none 0 0, .int .i64 (er : Int)]) (by simp [results, Tryd.results20, go_sem]) rfl ⟨.slice none 0 0, by rw [HFn.out], by rw [HFn.out]; exact sv_nil _, HO2.out⟩
        · obtain rfl : k = n := by omega
          have hR' := row_sv hR
          have hz' := hz
          go_wp2
          exact bodyPost_ret (v := .tuple #[_, .int .i64 ((joinG M l k).2 : Int)]) (by simp [results, Tryd.results20, go_sem, hz']) rfl ⟨_, rfl, hR', hO⟩
    · rw [if_neg hnc] at hJ
      have i3 : ¬ ((n : Int) = (c : Int)) := by omega
      rw [hJ]
      clear hJ hn hc
      go_enter Tryd.func20, Tryd.ntmps20
      go_wp2_with fail
      refine (HC.out _).mono ?_
      rintro e u0 ⟨rfl, hO0⟩
      go_wp2
      exact bodyPost_ret (v := .tuple #[.slice none 0 0, .int .i64 8]) (by simp [results, Tryd.results20, go_sem]) rfl ⟨_, rfl, sv_nil _, hO0⟩
  · have hJ : joinV l m = ([], 6) := by unfold joinV; rw [if_neg hr]
    rw [hJ]
    clear hJ hC hn
    go_enter Tryd.func20, Tryd.ntmps20
    by_cases h1 : m < 0
    · go_wp2
      exact bodyPost_ret (v := .tuple #[.slice none 0 0, .int .i64 6]) (by simp [results, Tryd.results20, go_sem]) rfl ⟨_, rfl, sv_nil _, Off.refl _ w⟩
    · have h2 : (65535 : Int) < m := by omega
      go_wp2
      exact bodyPost_ret (v := .tuple #[.slice none 0 0, .int .i64 6]) (by simp [results, Tryd.results20, go_sem]) rfl ⟨_, rfl, sv_nil _, Off.refl _ w⟩
end Go.Proofs.YtllhfkcgocbblaaDoor
