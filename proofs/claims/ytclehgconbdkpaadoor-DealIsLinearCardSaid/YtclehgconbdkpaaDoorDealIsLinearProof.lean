/-
  The payloads of the sum of two lists of polynomials are the sums of the payloads: the statement of P16.2. No condition.
-/
import Derived.Test.YtclehgconbdkpaaDoorRows
import Derived.Test.YtclehgconbdkpaaDoorTie
import Derived.Test.YtclehgconbdkpaaDoorCards
import Derived.LaidMore
import Derived.LaidHandle
import Derived.SevenTiedAt
import Derived.Stop.Joined
import Derived.JoinedOf
import Derived.Test.YtclehgconbdkpaaDoorLimbWords
import Derived.Test.YtclehgconbdkpaaDoorFieldTab
import Derived.Test.YtclehgconbdkpaaDoorDealVec6
import Derived.Test.YtclehgconbdkpaaDoorDealAlive
import Derived.Test.YtclehgconbdkpaaDoorDealLin
import Derived.Test.YtclehgconbdkpaaDoorParEnd
import Derived.Test.YtclehgconbdkpaaDoorInvClo
import Derived.Test.YtclehgconbdkpaaDoorModAll
import Derived.Test.YtclehgconbdkpaaDoorQOff
import Derived.WalkKit
import Derived.ProofKit
import Derived.OpenShut
import Derived.ShutString
import Derived.ChangeOld
import Derived.Below
namespace Go.Proofs.YtclehgconbdkpaaDoor.dealIsLinear
open Go.ChangeShapes Go.WideShapes Go.ChangeAt Go.RowKit
set_option linter.unusedVariables false

theorem own : ownKnob Tryd.prog.godebug = none := by kernel_rfl
theorem laidOut : laidOutB Tryd.prog = true := by kernel_rfl

set_option maxRecDepth 100000 in
set_option maxHeartbeats 4000000 in
theorem walk (i0 : Bool) (na1 nb1 nc1 nd1 ne1 nf1 : Nat) (na2 nb2 nc2 nd2 ne2 nf2 : Nat) (w : World) (w0 : True) (w1 : na1 < R256 ∧ nb1 < R256 ∧ nc1 < R256 ∧ nd1 < R256 ∧ ne1 < R256 ∧ nf1 < R256) (w2 : na2 < R256 ∧ nb2 < R256 ∧ nc2 < R256 ∧ nd2 < R256 ∧ ne2 < R256 ∧ nf2 < R256) (hT : TabAt w) :
    Calls Tryd.prog 8 #[.bool i0, V6 na1 nb1 nc1 nd1 ne1 nf1, V6 na2 nb2 nc2 nd2 ne2 nf2] w fun e w' => e = .returned (.bool true) ∧ Off (fun _ => False) w w' := by
  have FAL : Hid (∀ W, TabAt W → Calls Tryd.prog 10 #[] W fun e w' => e = .returned (.bool true) ∧ Off (fun _ => False) W w') := Lib.hid (fun W hT => alive16_any W hT)
  have HT := Lib.hid hT
  clear hT w0
  obtain ⟨A, hA⟩ : ∃ A, A = rows6 na1 nb1 nc1 nd1 ne1 nf1 := ⟨_, rfl⟩
  obtain ⟨B, hB⟩ : ∃ B, B = rows6 na2 nb2 nc2 nd2 ne2 nf2 := ⟨_, rfl⟩
  have HAx := Lib.hid (show ∀ c ∈ A, ∀ x ∈ c, x < R256 by rw [hA]; exact rows6_lt w1)
  have HBx := Lib.hid (show ∀ c ∈ B, ∀ x ∈ c, x < R256 by rw [hB]; exact rows6_lt w2)
  have HAr := Lib.hid (fun (W : World) (b k : Nat) (xs : List Nat) (h : W.heap[b]? = some (.cells (V6C na1 nb1 nc1 nd1 ne1 nf1) 65 (0, 0))) (hk : A[k]? = some xs) => row6_ls h (by rw [← hA]; exact hk))
  have HBr := Lib.hid (fun (W : World) (b k : Nat) (xs : List Nat) (h : W.heap[b]? = some (.cells (V6C na2 nb2 nc2 nd2 ne2 nf2) 65 (0, 0))) (hk : B[k]? = some xs) => row6_ls h (by rw [← hB]; exact hk))
  have HAl := Lib.hid (show A.length = 2 by rw [hA]; rfl)
  have HBl := Lib.hid (show B.length = 2 by rw [hB]; rfl)
  have HA3 := Lib.hid (show ∀ c ∈ A, c.length = 3 by rw [hA]; intro c hc; simp only [rows6, List.mem_cons, List.not_mem_nil, or_false] at hc; rcases hc with rfl | rfl <;> rfl)
  have HB3 := Lib.hid (show ∀ c ∈ B, c.length = 3 by rw [hB]; intro c hc; simp only [rows6, List.mem_cons, List.not_mem_nil, or_false] at hc; rcases hc with rfl | rfl <;> rfl)
  clear hA hB w1 w2
  obtain ⟨fd, hid⟩ : ∃ fd : Int, fd = if i0 = true then 2 else 1 := ⟨_, rfl⟩
  have hkn : Kn fd := by rw [hid]; unfold Kn; split <;> simp
  obtain ⟨P, hP⟩ : ∃ P, P = modN fd := ⟨_, rfl⟩
  obtain ⟨hp1, hp2⟩ := modN_pos hkn
  rw [← hP] at hp1 hp2
  have HP12 := Lib.hid (And.intro hp1 hp2)
  have FM := Lib.hid (fun W => mod_modulus fd W)
  rw [← hP] at FM
  obtain ⟨q, hq⟩ : ∃ q : Pms, q = ⟨fd, 3, 4, 40⟩ := ⟨_, rfl⟩
  have hPq : P = modN q.fd := by rw [hP, hq]
  have hq0 : prN q = 0 := by
    rw [hq]; unfold prN; dsimp only
    rw [if_neg (fun h => h hkn), if_neg (by omega), if_neg (by omega), if_neg (by omega)]
  have hqo : q.ok := by
    rw [hq]
    exact ⟨(show (Lit.int .i64 fd).wf = true by rcases hkn with h | h <;> rw [h] <;> decide), (show (Lit.int .i64 3).wf = true by decide), (show (Lit.int .i64 4).wf = true by decide), (show (Lit.int .i64 40).wf = true by decide)⟩
  have hqc : q.cn = 2 := by rw [hq]; show cntI 40 = 2; decide
  have hqT : q.T = 3 := by rw [hq]; rfl
  have hqs : q.sh.toNat = 4 := by rw [hq]; rfl
  have hqv : q.val = .agg #[.int .i64 fd, .int .i64 3, .int .i64 4, .int .i64 40] := by rw [hq]; rfl
  have FE : Hid (∀ (W : World) (v : Value) (cs : List (List Nat)), cs.length = 2 → (∀ c ∈ cs, c.length = 3) → LLs W v (cs.map (·.map (fm P))) → TabAt W → Calls Tryd.prog 21 #[.pointer none, .agg #[.int .i64 fd, .int .i64 3, .int .i64 4, .int .i64 40], v] W fun e w' => ∃ a c, e = .returned (.tuple #[.slice a 4 c, .int .i64 0]) ∧ ShsAt w' (.slice a 4 c) (shrsN q P cs) (fun _ => True) ∧ Off (fun _ => False) W w') := Lib.hid (fun W v cs h2 h3 hL hT => by
    have hE : evaE q (cs.map (·.map (fm P))) = 0 := by
      unfold evaE
      rw [if_neg (fun h => h hq0), if_neg]
      rintro (h | ⟨c, hc, h⟩)
      · rw [List.length_map, hqc] at h; exact h h2
      · obtain ⟨y, hy, rfl⟩ := List.mem_map.1 hc
        rw [List.length_map, hqT] at h; exact h (h3 y hy)
    have h := eval_nil q hqo (cs.map (·.map (fm P))) cs (fun _ => by rw [hPq]) v W hL (fun _ => by rw [dealEv_len, hqc, hqT, hqs]; decide) hT
    rw [hE, hqv] at h
    refine h.mono ?_
    rintro e w' ⟨v', he, _, h5, h6⟩
    have hs := h5 rfl
    rw [← hPq] at hs
    obtain ⟨a, cap, rfl, _⟩ := id hs
    have hl4 : (shrsN q P cs).length = 4 := by rw [shrsN_length, hqs]
    rw [hl4] at he hs
    exact ⟨a, cap, he, shs_wide hs, h6⟩)
  have FCS : Hid (∀ (W : World) (a : Option Addr) (c : Nat) (cs : List (List Nat)), cs.length = 2 → ShsAt W (.slice a 4 c) (shrsN q P cs) (fun _ => True) → TabAt W → Calls Tryd.prog 28 #[.slice a 4 c] W fun e w' => e = .returned (.int .i64 0) ∧ Off (fun _ => False) W w') := Lib.hid (fun W a c cs h2 hS hT => by
    have h := shares_par (shrsN q P cs) a 4 c (by rw [shrsN_length, hqs]) (by omega) (fun s hs => by
      obtain ⟨i, _, rfl⟩ := List.mem_map.1 hs
      show (payN P cs (i + 1)).length ≤ 5000
      unfold payN; rw [List.length_map]; omega) _ W hS hT
    rw [show shsN (shrsN q P cs) = 0 by rw [hPq]; exact shrs_ok hq0 (by rw [h2, hqc])] at h
    exact h)
  have HSg : Hid (∀ (cs : List (List Nat)) (k : Nat), k < 4 → (shrsN q P cs)[k]? = some (shrN q P cs (k + 1))) := Lib.hid (fun cs k hk => shrsN_get (by rw [hqs]; exact hk))
  clear hP hPq hq0 hqo hqc hqT hqs hqv hkn hp1 hp2 hq
  unfold V6
  go_enter Tryd.func8, Tryd.ntmps8
  go_upto_if 29 with fail
  go_cut [30] from 30 to 30 (fun _ wx => wx.heap[w.heap.size]? = some (.cells (V6C na1 nb1 nc1 nd1 ne1 nf1) 65 (0, 0)) ∧ wx.heap[w.heap.size + 1]? = some (.cells (V6C na2 nb2 nc2 nd2 ne2 nf2) 65 (0, 0)) ∧ wx.heap[w.heap.size + 1 + 1]? = some (.cells #[.int .i64 fd, .int .i64 3, .int .i64 4, .int .i64 40] 23 (0, 0)) ∧ Off (fun _ => False) w wx)
  case first =>
    cases i0 with
    | true =>
      obtain rfl : fd = 2 := hid
      go_wp2
      go_meet
      exact ⟨heap_old' (heap_old' (heap_new' rfl _) _) _, heap_old' (heap_new' (by simp) _) _, heap_new' (by simp) _, (((Off.refl _ w).alloc _).alloc _).alloc _⟩
    | false =>
      obtain rfl : fd = 1 := hid
      go_wp2
      go_meet
      exact ⟨heap_old' (heap_old' (heap_new' rfl _) _) _, heap_old' (heap_new' (by simp) _) _, heap_new' (by simp) _, (((Off.refl _ w).alloc _).alloc _).alloc _⟩
  case rest =>
    obtain ⟨gA, gB, gP, hO⟩ := hcut
    obtain ⟨ab, hab⟩ : ∃ ab, ab = w.heap.size := ⟨_, rfl⟩
    obtain ⟨bb, hbb⟩ : ∃ bb, bb = w.heap.size + 1 := ⟨_, rfl⟩
    obtain ⟨pb, hpb⟩ : ∃ pb, pb = w.heap.size + 1 + 1 := ⟨_, rfl⟩
    rw [← hbb] at hpb
    rw [← hbb, ← hpb, ← hab]
    rw [← hab] at gA
    rw [← hbb] at gB
    rw [← hbb, ← hpb] at gP
    have HGA := Lib.hid gA
    have HGB := Lib.hid gB
    have HGP := Lib.hid gP
    have HO0 := Lib.hid hO
    clear hab hbb hpb hid gA gB hO
    obtain ⟨p0, p1, p2, p3⟩ := cells4 gP
    have lp := heap_lt gP
    clear gP
    go_wp2_with fail
    refine (FM.out _).mono ?_
    rintro e u ⟨rfl, hO⟩
    clear p0 p1 p2 p3 lp
    obtain ⟨W1, hW1⟩ : ∃ W1, W1 = u.alloc (.cells #[.int .u64 (wd P 0 : Int), .int .u64 (wd P 1 : Int), .int .u64 (wd P 2 : Int), .int .u64 (wd P 3 : Int)] 51) := ⟨_, rfl⟩
    obtain ⟨mb, hmb⟩ : ∃ mb, mb = u.heap.size := ⟨_, rfl⟩
    have hOu : Off (fun _ => False) wc W1 := by rw [hW1]; exact hO.alloc _
    have HGM := Lib.hid (show W1.heap[mb]? = some (.cells #[.int .u64 (wd P 0 : Int), .int .u64 (wd P 1 : Int), .int .u64 (wd P 2 : Int), .int .u64 (wd P 3 : Int)] 51 (0, 0)) by rw [hW1, hmb]; exact heap_new' rfl _)
    have HGA := Lib.hid (hOu.heap HGA.out (fun c => c))
    have HGB := Lib.hid (hOu.heap HGB.out (fun c => c))
    have HGP := Lib.hid (hOu.heap HGP.out (fun c => c))
    have HO1 := Lib.hid (HO0.out.trans hOu (fun _ _ c => c))
    have HW1 := Lib.hid hW1
    have HMb := Lib.hid hmb
    obtain ⟨Bs, hBs⟩ : ∃ Bs, Bs = W1.heap.size := ⟨_, rfl⟩
    have HBs := Lib.hid hBs
    clear hO hOu hW1 hmb HO0 hBs
    go_wp2_with fail
    rw [← HW1.out, ← HMb.out]
    obtain ⟨A', hA'⟩ : ∃ A', A' = A.map (·.map (· % P)) := ⟨_, rfl⟩
    obtain ⟨B', hB'⟩ : ∃ B', B' = B.map (·.map (· % P)) := ⟨_, rfl⟩
    have HA' := Lib.hid hA'
    have HB' := Lib.hid hB'
    clear hA' hB'
    go_loopw [9, 10, 11, 34] (fun sx sy sz i wr => ∃ k : Nat, k ≤ 2 ∧ i = .int .i64 (k : Int) ∧ RowLL 66 47 Bs wr sx ((A'.take k).map (·.map (fm P))) ∧ RowLL 66 47 Bs wr sy ((B'.take k).map (·.map (fm P))) ∧ RowLL 66 47 Bs wr sz ((linL P (A'.take k) (B'.take k)).map (·.map (fm P))) ∧ (Ap sx sy ∧ Ap sx sz ∧ Ap sy sz) ∧ Off (fun _ => False) W1 wr) (fun _ _ _ i _ => 2 - (intOf i).toNat)
    case atStart => exact ⟨0, Nat.zero_le _, rfl, RowLL.nil _ _ _ _, RowLL.nil _ _ _ _, RowLL.nil _ _ _ _, ⟨Ap.nil _, Ap.nil _, Ap.nil _⟩, Off.refl _ _⟩
    case round =>
      obtain ⟨k, hk, rfl, hx, hy, hz, hap, hO⟩ := hrel
      by_cases hlt : k < 2
      · have w2 : IntKind.i64.wrap ((k : Int) + 1) = (k : Int) + 1 := by rw [IntKind.wrap_i64]; omega
        have hkn : (k : Int) < 2 := by omega
        obtain ⟨xs, hxs⟩ : ∃ xs, A[k]? = some xs := ⟨_, List.getElem?_eq_getElem (by rw [HAl.out]; exact hlt)⟩
        obtain ⟨ys, hys⟩ : ∃ ys, B[k]? = some ys := ⟨_, List.getElem?_eq_getElem (by rw [HBl.out]; exact hlt)⟩
        obtain ⟨us, hus⟩ : ∃ us, us = xs.map (· % P) := ⟨_, rfl⟩
        obtain ⟨vs, hvs⟩ : ∃ vs, vs = ys.map (· % P) := ⟨_, rfl⟩
        have HUg := Lib.hid (show A'[k]? = some us by rw [HA'.out, hus, List.getElem?_map, hxs]; rfl)
        have HVg := Lib.hid (show B'[k]? = some vs by rw [HB'.out, hvs, List.getElem?_map, hys]; rfl)
        have HUl := Lib.hid (show us.length = 3 by rw [hus, List.length_map]; exact HA3.out xs (List.mem_of_getElem? hxs))
        have HVl := Lib.hid (show vs.length = 3 by rw [hvs, List.length_map]; exact HB3.out ys (List.mem_of_getElem? hys))
        have HKb := Lib.hid (show k < 2 ∧ k + 1 ≤ 2 from ⟨hlt, hlt⟩)
        obtain ⟨wq, hwq⟩ : ∃ wq, wq = wr := ⟨_, rfl⟩
        rw [← hwq] at hO hx hy hz
        have HX := Lib.hid hx
        have HY := Lib.hid hy
        have HZ := Lib.hid hz
        have HAp := Lib.hid hap
        have FV1 := Lib.hid (fun W (h : Off (fun _ => False) wq W) => (by
          have h2 := HAr.out W ab k xs (h.heap (hO.heap HGA.out (fun c => c)) (fun c => c)) hxs
          have h3 := vals3 HP12.out.2 HP12.out.1 xs (HAx.out xs (List.mem_of_getElem? hxs)) h2.2 (.slice (some ⟨ab, k * 12, none⟩) 3 3) Bs W (by rw [HBs.out]; exact Nat.le_trans hO.size h.size) h2.1
          rw [← hus] at h3
          exact h3 : Calls Tryd.prog 19 #[V P, .slice (some ⟨ab, k * 12, none⟩) 3 3] W fun e w' => ∃ za zc ea ec, e = .returned (.tuple #[.slice za 3 zc, .slice ea 3 ec]) ∧ w'.ownsRow Bs 66 4 (.slice ea 3 ec) 3 (flat4 (us.map (fm P))) ∧ Off (fun _ => False) W w'))
        have FV2 := Lib.hid (fun W (h : Off (fun _ => False) wq W) => (by
          have h2 := HBr.out W bb k ys (h.heap (hO.heap HGB.out (fun c => c)) (fun c => c)) hys
          have h3 := vals3 HP12.out.2 HP12.out.1 ys (HBx.out ys (List.mem_of_getElem? hys)) h2.2 (.slice (some ⟨bb, k * 12, none⟩) 3 3) Bs W (by rw [HBs.out]; exact Nat.le_trans hO.size h.size) h2.1
          rw [← hvs] at h3
          exact h3 : Calls Tryd.prog 19 #[V P, .slice (some ⟨bb, k * 12, none⟩) 3 3] W fun e w' => ∃ za zc ea ec, e = .returned (.tuple #[.slice za 3 zc, .slice ea 3 ec]) ∧ w'.ownsRow Bs 66 4 (.slice ea 3 ec) 3 (flat4 (vs.map (fm P))) ∧ Off (fun _ => False) W w'))
        have HUm := Lib.hid (show ∀ x ∈ us, x < P by rw [hus]; intro x hx; obtain ⟨y, _, rfl⟩ := List.mem_map.1 hx; exact Nat.mod_lt _ (by have := HP12.out; omega))
        have HVm := Lib.hid (show ∀ x ∈ vs, x < P by rw [hvs]; intro x hx; obtain ⟨y, _, rfl⟩ := List.mem_map.1 hx; exact Nat.mod_lt _ (by have := HP12.out; omega))
        have HGM := Lib.hid (hO.heap HGM.out (fun c => c))
        have HGA := Lib.hid (hO.heap HGA.out (fun c => c))
        have HGB := Lib.hid (hO.heap HGB.out (fun c => c))
        have HGP := Lib.hid (hO.heap HGP.out (fun c => c))
        have HOq := Lib.hid hO
        have HWq := Lib.hid hwq
        clear hx hy hz hap hxs hys hus hvs hO hwq hk hlt
        go_upto_region 9 with fail
        rw [← HWq.out]
        obtain ⟨x38, hx⟩ : ∃ vv : Value, vv = V P := ⟨_, rfl⟩
        have X38 := Lib.hid hx
        clear hx
        obtain ⟨x39, hx⟩ : ∃ vv : Value, vv = .int .i64 (k : Int) := ⟨_, rfl⟩
        have X39 := Lib.hid hx
        clear hx
        obtain ⟨x40, hx⟩ : ∃ vv : Value, vv = .pointer (some ⟨ab, k * 12, none⟩) := ⟨_, rfl⟩
        have X40 := Lib.hid hx
        clear hx
        obtain ⟨x41, hx⟩ : ∃ vv : Value, vv = .slice (some ⟨ab, k * 12, none⟩) 3 3 := ⟨_, rfl⟩
        have X41 := Lib.hid hx
        clear hx
        refine wp_region_clo (fun a0 l a' w' => ∃ (zua : Option Addr) (zuc : Nat) (eua : Option Addr) (euc : Nat), a' = (Act.put (Act.put (fill a0 37 [sel (l 5) (.tuple #[.slice zua 3 zuc, .slice eua 3 euc]) (u37), sel (l 0) x38 (u38), sel (l 1) x39 (u39), sel (l 2) x40 (u40), sel (l 3) x41 (u41), sel (l 4) (.tuple #[.slice zua 3 zuc, .slice eua 3 euc]) (u42), sel (l 6) (.slice zua 3 zuc) (u43), sel (l 7) (.slice eua 3 euc) (u44), u45, u46, u47, u48, u49, u50, u51, u52, u53, u54, u55, u56, u57, u58, u59, u60, u61, u62, u63, u64, u65, u66, u67, u68, u69, u70, u71, u72, u73, u74, u75, u76, u77, u78, u79, u80, u81, u82, u83, u84, undef, undef, undef, undef, undef, undef, undef, undef, undef, undef, undef, undef, undef, undef, undef, undef, undef, undef, undef, undef, undef, undef, undef, undef, undef, undef, undef, undef, undef, undef, undef, undef, undef, undef, undef, undef, undef, undef, undef, undef, undef, undef, undef, undef, undef, undef, undef, undef, undef, undef, undef, undef, undef, undef, undef, undef, undef, undef, undef, undef, undef, undef, undef, undef, undef, undef, undef, undef, undef, undef, undef, undef, undef, undef, undef, undef, undef, undef, undef, undef, undef, undef, undef, undef, undef, undef, undef, undef, undef, undef, undef, undef, undef, undef, undef, undef, undef]) (some 13) (sel (l 8) (.slice zua 3 zuc) (u13))) (some 14) (sel (l 9) (.slice eua 3 euc) (u14))) ∧ Off (fun _ => False) wq w' ∧ (l 4 = true → w'.ownsRow Bs 66 4 (.slice eua 3 euc) 3 (flat4 (us.map (fm P))))) (by kernel_rfl) (by kernel_rfl) ?_ ⟨?_, ?_, ?_, ?_, ?_, ?_, ?_, ?_, ?_, ?_, trivial⟩ ?_
        · refine ⟨none, 0, none, 0, ?_, (Off.refl _ wq).drew, (fun h => by cases h)⟩
          simp only [fill_eq, List.take_succ_cons, List.take_zero, List.cons_append, List.nil_append, Act.put, List.setIfInBounds_toArray, List.set_cons_zero, List.set_cons_succ, sel_start]
          try rfl
        · as_aux_lemma =>
            rintro l a wr ⟨zua, zuc, eua, euc, ha, hO, h4⟩ hc hl hd K' hK
            have hx := X38.out; subst hx
            simp only [fill_eq, List.take_succ_cons, List.take_zero, List.cons_append, List.nil_append, Act.put, List.setIfInBounds_toArray, List.set_cons_zero, List.set_cons_succ] at ha
            subst ha
            have H4 := Lib.hid h4
            clear h4
            obtain ⟨p0, p1, p2, p3⟩ := cells4 (hO.heap HGM.out (fun c => c))
            have lq := heap_lt (hO.heap HGM.out (fun c => c))
            rw [if_pos (by rfl)]
            go_simp
            refine Shut.out hK _ _ ⟨zua, zuc, eua, euc, ?_, hO, (fun h => own_off (H4.out (show l 4 = true by rwa [upd_ne l (by decide)] at h)) (Off.refl (fun _ => False) wr))⟩
            simp only [fill_eq, List.take_succ_cons, List.take_zero, List.cons_append, List.nil_append, Act.put, List.setIfInBounds_toArray, List.set_cons_zero, List.set_cons_succ, sel_new]
            try rfl
        · as_aux_lemma =>
            rintro l a wr ⟨zua, zuc, eua, euc, ha, hO, h4⟩ hc hl hd K' hK
            have hx := X39.out; subst hx
            simp only [fill_eq, List.take_succ_cons, List.take_zero, List.cons_append, List.nil_append, Act.put, List.setIfInBounds_toArray, List.set_cons_zero, List.set_cons_succ] at ha
            subst ha
            have H4 := Lib.hid h4
            clear h4
            rw [if_pos (by rfl)]
            go_simp
            refine Shut.out hK _ _ ⟨zua, zuc, eua, euc, ?_, hO, (fun h => own_off (H4.out (show l 4 = true by rwa [upd_ne l (by decide)] at h)) (Off.refl (fun _ => False) wr))⟩
            simp only [fill_eq, List.take_succ_cons, List.take_zero, List.cons_append, List.nil_append, Act.put, List.setIfInBounds_toArray, List.set_cons_zero, List.set_cons_succ, sel_new]
            try rfl
        · as_aux_lemma =>
            rintro l a wr ⟨zua, zuc, eua, euc, ha, hO, h4⟩ hc hl hd K' hK
            have d1 := hd 1 (by decide)
            have hx := X39.out; subst hx
            have hx := X40.out; subst hx
            simp only [fill_eq, List.take_succ_cons, List.take_zero, List.cons_append, List.nil_append, Act.put, List.setIfInBounds_toArray, List.set_cons_zero, List.set_cons_succ, sel_of d1] at ha
            subst ha
            have H4 := Lib.hid h4
            clear h4
            have lq := heap_lt (hO.heap HGA.out (fun c => c))
            rw [if_pos (by rfl)]
            go_simp
            refine Shut.out hK _ _ ⟨zua, zuc, eua, euc, ?_, hO, (fun h => own_off (H4.out (show l 4 = true by rwa [upd_ne l (by decide)] at h)) (Off.refl (fun _ => False) wr))⟩
            simp only [fill_eq, List.take_succ_cons, List.take_zero, List.cons_append, List.nil_append, Act.put, List.setIfInBounds_toArray, List.set_cons_zero, List.set_cons_succ, sel_new, sel_dep d1]
            try rfl
        · as_aux_lemma =>
            rintro l a wr ⟨zua, zuc, eua, euc, ha, hO, h4⟩ hc hl hd K' hK
            have d2 := hd 2 (by decide)
            have hx := X40.out; subst hx
            have hx := X41.out; subst hx
            simp only [fill_eq, List.take_succ_cons, List.take_zero, List.cons_append, List.nil_append, Act.put, List.setIfInBounds_toArray, List.set_cons_zero, List.set_cons_succ, sel_of d2] at ha
            subst ha
            have H4 := Lib.hid h4
            clear h4
            have lq := heap_lt (hO.heap HGA.out (fun c => c))
            rw [if_pos (by rfl)]
            go_simp
            refine Shut.out hK _ _ ⟨zua, zuc, eua, euc, ?_, hO, (fun h => own_off (H4.out (show l 4 = true by rwa [upd_ne l (by decide)] at h)) (Off.refl (fun _ => False) wr))⟩
            simp only [fill_eq, List.take_succ_cons, List.take_zero, List.cons_append, List.nil_append, Act.put, List.setIfInBounds_toArray, List.set_cons_zero, List.set_cons_succ, sel_new, sel_dep d2]
            try rfl
        · as_aux_lemma =>
            rintro l a wr ⟨zua, zuc, eua, euc, ha, hO, h4⟩ hc hl hd K' hK
            have d0 := hd 0 (by decide)
            have d3 := hd 3 (by decide)
            have hx := X38.out; subst hx
            have hx := X41.out; subst hx
            have g5 := hc.not (i := 5) hl 10 (by kernel_rfl)
            have g6 := hc.not (i := 6) hl 10 (by kernel_rfl)
            have g7 := hc.not (i := 7) hl 10 (by kernel_rfl)
            have g8 := hc.not (i := 8) hl 10 (by kernel_rfl)
            have g9 := hc.not (i := 9) hl 10 (by kernel_rfl)
            simp only [fill_eq, List.take_succ_cons, List.take_zero, List.cons_append, List.nil_append, Act.put, List.setIfInBounds_toArray, List.set_cons_zero, List.set_cons_succ, sel_of d0, sel_of d3, sel_no g5, sel_no g6, sel_no g7, sel_no g8, sel_no g9, sel_no hl] at ha
            subst ha
            have G5 := Lib.hid g5
            clear g5
            have G6 := Lib.hid g6
            clear g6
            have G7 := Lib.hid g7
            clear g7
            have G8 := Lib.hid g8
            clear g8
            have G9 := Lib.hid g9
            clear g9
            have H4 := Lib.hid h4
            clear h4
            rw [if_pos (by rfl)]
            go_simp
            refine (FV1.out wr hO).mono ?_
            rintro e w1 ⟨zua', zuc', eua', euc', rfl, hP1, hO1⟩
            go_wp2_with fail
            refine Shut.out hK _ _ ⟨zua', zuc', eua', euc', ?_, (hO.trans hO1 (fun _ _ c => c)), (fun _ => hP1)⟩
            simp only [fill_eq, List.take_succ_cons, List.take_zero, List.cons_append, List.nil_append, Act.put, List.setIfInBounds_toArray, List.set_cons_zero, List.set_cons_succ, sel_new, sel_dep d0, sel_dep d3, sel_no (show upd l 4 5 = false by rw [upd_ne l (by decide)]; exact G5.out), sel_no (show upd l 4 6 = false by rw [upd_ne l (by decide)]; exact G6.out), sel_no (show upd l 4 7 = false by rw [upd_ne l (by decide)]; exact G7.out), sel_no (show upd l 4 8 = false by rw [upd_ne l (by decide)]; exact G8.out), sel_no (show upd l 4 9 = false by rw [upd_ne l (by decide)]; exact G9.out)]
            try rfl
        · as_aux_lemma =>
            rintro l a wr ⟨zua, zuc, eua, euc, ha, hO, h4⟩ hc hl hd K' hK
            have d4 := hd 4 (by decide)
            simp only [fill_eq, List.take_succ_cons, List.take_zero, List.cons_append, List.nil_append, Act.put, List.setIfInBounds_toArray, List.set_cons_zero, List.set_cons_succ, sel_of d4] at ha
            subst ha
            have q4 := h4 d4
            have Q4 := Lib.hid q4
            clear q4
            have H4 := Lib.hid h4
            clear h4
            rw [if_pos (by rfl)]
            go_simp
            refine Shut.out hK _ _ ⟨zua, zuc, eua, euc, ?_, hO, (fun h => own_off (H4.out (show l 4 = true by rwa [upd_ne l (by decide)] at h)) (Off.refl (fun _ => False) wr))⟩
            simp only [fill_eq, List.take_succ_cons, List.take_zero, List.cons_append, List.nil_append, Act.put, List.setIfInBounds_toArray, List.set_cons_zero, List.set_cons_succ, sel_new, sel_dep d4]
            try rfl
        · as_aux_lemma =>
            rintro l a wr ⟨zua, zuc, eua, euc, ha, hO, h4⟩ hc hl hd K' hK
            have d5 := hd 5 (by decide)
            simp only [fill_eq, List.take_succ_cons, List.take_zero, List.cons_append, List.nil_append, Act.put, List.setIfInBounds_toArray, List.set_cons_zero, List.set_cons_succ, sel_of d5] at ha
            subst ha
            have q4 := h4 (hc.up 10 5 4 d5 (by kernel_rfl))
            have Q4 := Lib.hid q4
            clear q4
            have H4 := Lib.hid h4
            clear h4
            rw [if_pos (by rfl)]
            go_simp
            refine Shut.out hK _ _ ⟨zua, zuc, eua, euc, ?_, hO, (fun h => own_off (H4.out (show l 4 = true by rwa [upd_ne l (by decide)] at h)) (Off.refl (fun _ => False) wr))⟩
            simp only [fill_eq, List.take_succ_cons, List.take_zero, List.cons_append, List.nil_append, Act.put, List.setIfInBounds_toArray, List.set_cons_zero, List.set_cons_succ, sel_new, sel_dep d5]
            try rfl
        · as_aux_lemma =>
            rintro l a wr ⟨zua, zuc, eua, euc, ha, hO, h4⟩ hc hl hd K' hK
            have d5 := hd 5 (by decide)
            simp only [fill_eq, List.take_succ_cons, List.take_zero, List.cons_append, List.nil_append, Act.put, List.setIfInBounds_toArray, List.set_cons_zero, List.set_cons_succ, sel_of d5] at ha
            subst ha
            have q4 := h4 (hc.up 10 5 4 d5 (by kernel_rfl))
            have Q4 := Lib.hid q4
            clear q4
            have H4 := Lib.hid h4
            clear h4
            rw [if_pos (by rfl)]
            go_simp
            refine Shut.out hK _ _ ⟨zua, zuc, eua, euc, ?_, hO, (fun h => own_off (H4.out (show l 4 = true by rwa [upd_ne l (by decide)] at h)) (Off.refl (fun _ => False) wr))⟩
            simp only [fill_eq, List.take_succ_cons, List.take_zero, List.cons_append, List.nil_append, Act.put, List.setIfInBounds_toArray, List.set_cons_zero, List.set_cons_succ, sel_new, sel_dep d5]
            try rfl
        · as_aux_lemma =>
            rintro l a wr ⟨zua, zuc, eua, euc, ha, hO, h4⟩ hc hl hd K' hK
            have d6 := hd 6 (by decide)
            simp only [fill_eq, List.take_succ_cons, List.take_zero, List.cons_append, List.nil_append, Act.put, List.setIfInBounds_toArray, List.set_cons_zero, List.set_cons_succ, sel_of d6] at ha
            subst ha
            have q4 := h4 (hc.up 10 6 4 d6 (by kernel_rfl))
            have Q4 := Lib.hid q4
            clear q4
            have H4 := Lib.hid h4
            clear h4
            rw [if_pos (by rfl)]
            go_simp
            refine Shut.out hK _ _ ⟨zua, zuc, eua, euc, ?_, hO, (fun h => own_off (H4.out (show l 4 = true by rwa [upd_ne l (by decide)] at h)) (Off.refl (fun _ => False) wr))⟩
            simp only [fill_eq, List.take_succ_cons, List.take_zero, List.cons_append, List.nil_append, Act.put, List.setIfInBounds_toArray, List.set_cons_zero, List.set_cons_succ, sel_new, sel_dep d6]
            try rfl
        · as_aux_lemma =>
            rintro l a wr ⟨zua, zuc, eua, euc, ha, hO, h4⟩ hc hl hd K' hK
            have d7 := hd 7 (by decide)
            simp only [fill_eq, List.take_succ_cons, List.take_zero, List.cons_append, List.nil_append, Act.put, List.setIfInBounds_toArray, List.set_cons_zero, List.set_cons_succ, sel_of d7] at ha
            subst ha
            have q4 := h4 (hc.up 10 7 4 d7 (by kernel_rfl))
            have Q4 := Lib.hid q4
            clear q4
            have H4 := Lib.hid h4
            clear h4
            rw [if_pos (by rfl)]
            go_simp
            refine Shut.out hK _ _ ⟨zua, zuc, eua, euc, ?_, hO, (fun h => own_off (H4.out (show l 4 = true by rwa [upd_ne l (by decide)] at h)) (Off.refl (fun _ => False) wr))⟩
            simp only [fill_eq, List.take_succ_cons, List.take_zero, List.cons_append, List.nil_append, Act.put, List.setIfInBounds_toArray, List.set_cons_zero, List.set_cons_succ, sel_new, sel_dep d7]
            try rfl
        · rintro l a wc ⟨zua, zuc, eua, euc, ha, hO, h4⟩ hd
          simp only [fill_eq, List.take_succ_cons, List.take_zero, List.cons_append, List.nil_append, Act.put, List.setIfInBounds_toArray, List.set_cons_zero, List.set_cons_succ, sel_of (hd 0 (by decide)), sel_of (hd 1 (by decide)), sel_of (hd 2 (by decide)), sel_of (hd 3 (by decide)), sel_of (hd 4 (by decide)), sel_of (hd 5 (by decide)), sel_of (hd 6 (by decide)), sel_of (hd 7 (by decide)), sel_of (hd 8 (by decide)), sel_of (hd 9 (by decide))] at ha
          subst ha
          have q4 := h4 (hd 4 (by decide))
          clear h4
          obtain ⟨wp, hwp⟩ : ∃ wp, wp = wc := ⟨_, rfl⟩
          rw [← hwp] at hO q4 ⊢
          have HOp := Lib.hid hO
          have HRu := Lib.hid q4
          have HWp := Lib.hid hwp
          have HGM := Lib.hid (hO.heap HGM.out (fun c => c))
          have HGB := Lib.hid (hO.heap HGB.out (fun c => c))
          clear hO q4 hwp hd FV1
          go_upto_region 10 with fail
          obtain ⟨x46, hx⟩ : ∃ vv : Value, vv = V P := ⟨_, rfl⟩
          have X46 := Lib.hid hx
          clear hx
          obtain ⟨x47, hx⟩ : ∃ vv : Value, vv = .int .i64 (k : Int) := ⟨_, rfl⟩
          have X47 := Lib.hid hx
          clear hx
          obtain ⟨x48, hx⟩ : ∃ vv : Value, vv = .pointer (some ⟨bb, k * 12, none⟩) := ⟨_, rfl⟩
          have X48 := Lib.hid hx
          clear hx
          obtain ⟨x49, hx⟩ : ∃ vv : Value, vv = .slice (some ⟨bb, k * 12, none⟩) 3 3 := ⟨_, rfl⟩
          have X49 := Lib.hid hx
          clear hx
          refine wp_region_clo (fun a0 l a' w' => ∃ (zva : Option Addr) (zvc : Nat) (eva : Option Addr) (evc : Nat), a' = (Act.put (Act.put (fill a0 45 [sel (l 5) (.tuple #[.slice zva 3 zvc, .slice eva 3 evc]) (u45), sel (l 0) x46 (u46), sel (l 1) x47 (u47), sel (l 2) x48 (u48), sel (l 3) x49 (u49), sel (l 4) (.tuple #[.slice zva 3 zvc, .slice eva 3 evc]) (u50), sel (l 6) (.slice zva 3 zvc) (u51), sel (l 7) (.slice eva 3 evc) (u52), u53, u54, u55, u56, u57, u58, u59, u60, u61, u62, u63, u64, u65, u66, u67, u68, u69, u70, u71, u72, u73, u74, u75, u76, u77, u78, u79, u80, u81, u82, u83, u84, undef, undef, undef, undef, undef, undef, undef, undef, undef, undef, undef, undef, undef, undef, undef, undef, undef, undef, undef, undef, undef, undef, undef, undef, undef, undef, undef, undef, undef, undef, undef, undef, undef, undef, undef, undef, undef, undef, undef, undef, undef, undef, undef, undef, undef, undef, undef, undef, undef, undef, undef, undef, undef, undef, undef, undef, undef, undef, undef, undef, undef, undef, undef, undef, undef, undef, undef, undef, undef, undef, undef, undef, undef, undef, undef, undef, undef, undef, undef, undef, undef, undef, undef, undef, undef, undef, undef, undef, undef, undef, undef, undef, undef, undef, undef, undef, undef]) (some 15) (sel (l 8) (.slice zva 3 zvc) (u15))) (some 16) (sel (l 9) (.slice eva 3 evc) (u16))) ∧ Off (fun _ => False) wp w' ∧ (l 4 = true → w'.ownsRow Bs 66 4 (.slice eva 3 evc) 3 (flat4 (vs.map (fm P))))) (by kernel_rfl) (by kernel_rfl) ?_ ⟨?_, ?_, ?_, ?_, ?_, ?_, ?_, ?_, ?_, ?_, trivial⟩ ?_
          · refine ⟨none, 0, none, 0, ?_, (Off.refl _ wp).drew, (fun h => by cases h)⟩
            simp only [fill_eq, List.take_succ_cons, List.take_zero, List.cons_append, List.nil_append, Act.put, List.setIfInBounds_toArray, List.set_cons_zero, List.set_cons_succ, sel_start]
            try rfl
          · as_aux_lemma =>
              rintro l a wr ⟨zva, zvc, eva, evc, ha, hO, h4⟩ hc hl hd K' hK
              have hx := X46.out; subst hx
              simp only [fill_eq, List.take_succ_cons, List.take_zero, List.cons_append, List.nil_append, Act.put, List.setIfInBounds_toArray, List.set_cons_zero, List.set_cons_succ] at ha
              subst ha
              have H4 := Lib.hid h4
              clear h4
              obtain ⟨p0, p1, p2, p3⟩ := cells4 (hO.heap HGM.out (fun c => c))
              have lq := heap_lt (hO.heap HGM.out (fun c => c))
              rw [if_pos (by rfl)]
              go_simp
              refine Shut.out hK _ _ ⟨zva, zvc, eva, evc, ?_, hO, (fun h => own_off (H4.out (show l 4 = true by rwa [upd_ne l (by decide)] at h)) (Off.refl (fun _ => False) wr))⟩
              simp only [fill_eq, List.take_succ_cons, List.take_zero, List.cons_append, List.nil_append, Act.put, List.setIfInBounds_toArray, List.set_cons_zero, List.set_cons_succ, sel_new]
              try rfl
          · as_aux_lemma =>
              rintro l a wr ⟨zva, zvc, eva, evc, ha, hO, h4⟩ hc hl hd K' hK
              have hx := X47.out; subst hx
              simp only [fill_eq, List.take_succ_cons, List.take_zero, List.cons_append, List.nil_append, Act.put, List.setIfInBounds_toArray, List.set_cons_zero, List.set_cons_succ] at ha
              subst ha
              have H4 := Lib.hid h4
              clear h4
              rw [if_pos (by rfl)]
              go_simp
              refine Shut.out hK _ _ ⟨zva, zvc, eva, evc, ?_, hO, (fun h => own_off (H4.out (show l 4 = true by rwa [upd_ne l (by decide)] at h)) (Off.refl (fun _ => False) wr))⟩
              simp only [fill_eq, List.take_succ_cons, List.take_zero, List.cons_append, List.nil_append, Act.put, List.setIfInBounds_toArray, List.set_cons_zero, List.set_cons_succ, sel_new]
              try rfl
          · as_aux_lemma =>
              rintro l a wr ⟨zva, zvc, eva, evc, ha, hO, h4⟩ hc hl hd K' hK
              have d1 := hd 1 (by decide)
              have hx := X47.out; subst hx
              have hx := X48.out; subst hx
              simp only [fill_eq, List.take_succ_cons, List.take_zero, List.cons_append, List.nil_append, Act.put, List.setIfInBounds_toArray, List.set_cons_zero, List.set_cons_succ, sel_of d1] at ha
              subst ha
              have H4 := Lib.hid h4
              clear h4
              have lq := heap_lt (hO.heap HGB.out (fun c => c))
              rw [if_pos (by rfl)]
              go_simp
              refine Shut.out hK _ _ ⟨zva, zvc, eva, evc, ?_, hO, (fun h => own_off (H4.out (show l 4 = true by rwa [upd_ne l (by decide)] at h)) (Off.refl (fun _ => False) wr))⟩
              simp only [fill_eq, List.take_succ_cons, List.take_zero, List.cons_append, List.nil_append, Act.put, List.setIfInBounds_toArray, List.set_cons_zero, List.set_cons_succ, sel_new, sel_dep d1]
              try rfl
          · as_aux_lemma =>
              rintro l a wr ⟨zva, zvc, eva, evc, ha, hO, h4⟩ hc hl hd K' hK
              have d2 := hd 2 (by decide)
              have hx := X48.out; subst hx
              have hx := X49.out; subst hx
              simp only [fill_eq, List.take_succ_cons, List.take_zero, List.cons_append, List.nil_append, Act.put, List.setIfInBounds_toArray, List.set_cons_zero, List.set_cons_succ, sel_of d2] at ha
              subst ha
              have H4 := Lib.hid h4
              clear h4
              have lq := heap_lt (hO.heap HGB.out (fun c => c))
              rw [if_pos (by rfl)]
              go_simp
              refine Shut.out hK _ _ ⟨zva, zvc, eva, evc, ?_, hO, (fun h => own_off (H4.out (show l 4 = true by rwa [upd_ne l (by decide)] at h)) (Off.refl (fun _ => False) wr))⟩
              simp only [fill_eq, List.take_succ_cons, List.take_zero, List.cons_append, List.nil_append, Act.put, List.setIfInBounds_toArray, List.set_cons_zero, List.set_cons_succ, sel_new, sel_dep d2]
              try rfl
          · as_aux_lemma =>
              rintro l a wr ⟨zva, zvc, eva, evc, ha, hO, h4⟩ hc hl hd K' hK
              have d0 := hd 0 (by decide)
              have d3 := hd 3 (by decide)
              have hx := X46.out; subst hx
              have hx := X49.out; subst hx
              have g5 := hc.not (i := 5) hl 10 (by kernel_rfl)
              have g6 := hc.not (i := 6) hl 10 (by kernel_rfl)
              have g7 := hc.not (i := 7) hl 10 (by kernel_rfl)
              have g8 := hc.not (i := 8) hl 10 (by kernel_rfl)
              have g9 := hc.not (i := 9) hl 10 (by kernel_rfl)
              simp only [fill_eq, List.take_succ_cons, List.take_zero, List.cons_append, List.nil_append, Act.put, List.setIfInBounds_toArray, List.set_cons_zero, List.set_cons_succ, sel_of d0, sel_of d3, sel_no g5, sel_no g6, sel_no g7, sel_no g8, sel_no g9, sel_no hl] at ha
              subst ha
              have G5 := Lib.hid g5
              clear g5
              have G6 := Lib.hid g6
              clear g6
              have G7 := Lib.hid g7
              clear g7
              have G8 := Lib.hid g8
              clear g8
              have G9 := Lib.hid g9
              clear g9
              have H4 := Lib.hid h4
              clear h4
              rw [if_pos (by rfl)]
              go_simp
              refine (FV2.out wr (HOp.out.trans hO (fun _ _ c => c))).mono ?_
              rintro e w1 ⟨zva', zvc', eva', evc', rfl, hP1, hO1⟩
              go_wp2_with fail
              refine Shut.out hK _ _ ⟨zva', zvc', eva', evc', ?_, (hO.trans hO1 (fun _ _ c => c)), (fun _ => hP1)⟩
              simp only [fill_eq, List.take_succ_cons, List.take_zero, List.cons_append, List.nil_append, Act.put, List.setIfInBounds_toArray, List.set_cons_zero, List.set_cons_succ, sel_new, sel_dep d0, sel_dep d3, sel_no (show upd l 4 5 = false by rw [upd_ne l (by decide)]; exact G5.out), sel_no (show upd l 4 6 = false by rw [upd_ne l (by decide)]; exact G6.out), sel_no (show upd l 4 7 = false by rw [upd_ne l (by decide)]; exact G7.out), sel_no (show upd l 4 8 = false by rw [upd_ne l (by decide)]; exact G8.out), sel_no (show upd l 4 9 = false by rw [upd_ne l (by decide)]; exact G9.out)]
              try rfl
          · as_aux_lemma =>
              rintro l a wr ⟨zva, zvc, eva, evc, ha, hO, h4⟩ hc hl hd K' hK
              have d4 := hd 4 (by decide)
              simp only [fill_eq, List.take_succ_cons, List.take_zero, List.cons_append, List.nil_append, Act.put, List.setIfInBounds_toArray, List.set_cons_zero, List.set_cons_succ, sel_of d4] at ha
              subst ha
              have q4 := h4 d4
              have Q4 := Lib.hid q4
              clear q4
              have H4 := Lib.hid h4
              clear h4
              rw [if_pos (by rfl)]
              go_simp
              refine Shut.out hK _ _ ⟨zva, zvc, eva, evc, ?_, hO, (fun h => own_off (H4.out (show l 4 = true by rwa [upd_ne l (by decide)] at h)) (Off.refl (fun _ => False) wr))⟩
              simp only [fill_eq, List.take_succ_cons, List.take_zero, List.cons_append, List.nil_append, Act.put, List.setIfInBounds_toArray, List.set_cons_zero, List.set_cons_succ, sel_new, sel_dep d4]
              try rfl
          · as_aux_lemma =>
              rintro l a wr ⟨zva, zvc, eva, evc, ha, hO, h4⟩ hc hl hd K' hK
              have d5 := hd 5 (by decide)
              simp only [fill_eq, List.take_succ_cons, List.take_zero, List.cons_append, List.nil_append, Act.put, List.setIfInBounds_toArray, List.set_cons_zero, List.set_cons_succ, sel_of d5] at ha
              subst ha
              have q4 := h4 (hc.up 10 5 4 d5 (by kernel_rfl))
              have Q4 := Lib.hid q4
              clear q4
              have H4 := Lib.hid h4
              clear h4
              rw [if_pos (by rfl)]
              go_simp
              refine Shut.out hK _ _ ⟨zva, zvc, eva, evc, ?_, hO, (fun h => own_off (H4.out (show l 4 = true by rwa [upd_ne l (by decide)] at h)) (Off.refl (fun _ => False) wr))⟩
              simp only [fill_eq, List.take_succ_cons, List.take_zero, List.cons_append, List.nil_append, Act.put, List.setIfInBounds_toArray, List.set_cons_zero, List.set_cons_succ, sel_new, sel_dep d5]
              try rfl
          · as_aux_lemma =>
              rintro l a wr ⟨zva, zvc, eva, evc, ha, hO, h4⟩ hc hl hd K' hK
              have d5 := hd 5 (by decide)
              simp only [fill_eq, List.take_succ_cons, List.take_zero, List.cons_append, List.nil_append, Act.put, List.setIfInBounds_toArray, List.set_cons_zero, List.set_cons_succ, sel_of d5] at ha
              subst ha
              have q4 := h4 (hc.up 10 5 4 d5 (by kernel_rfl))
              have Q4 := Lib.hid q4
              clear q4
              have H4 := Lib.hid h4
              clear h4
              rw [if_pos (by rfl)]
              go_simp
              refine Shut.out hK _ _ ⟨zva, zvc, eva, evc, ?_, hO, (fun h => own_off (H4.out (show l 4 = true by rwa [upd_ne l (by decide)] at h)) (Off.refl (fun _ => False) wr))⟩
              simp only [fill_eq, List.take_succ_cons, List.take_zero, List.cons_append, List.nil_append, Act.put, List.setIfInBounds_toArray, List.set_cons_zero, List.set_cons_succ, sel_new, sel_dep d5]
              try rfl
          · as_aux_lemma =>
              rintro l a wr ⟨zva, zvc, eva, evc, ha, hO, h4⟩ hc hl hd K' hK
              have d6 := hd 6 (by decide)
              simp only [fill_eq, List.take_succ_cons, List.take_zero, List.cons_append, List.nil_append, Act.put, List.setIfInBounds_toArray, List.set_cons_zero, List.set_cons_succ, sel_of d6] at ha
              subst ha
              have q4 := h4 (hc.up 10 6 4 d6 (by kernel_rfl))
              have Q4 := Lib.hid q4
              clear q4
              have H4 := Lib.hid h4
              clear h4
              rw [if_pos (by rfl)]
              go_simp
              refine Shut.out hK _ _ ⟨zva, zvc, eva, evc, ?_, hO, (fun h => own_off (H4.out (show l 4 = true by rwa [upd_ne l (by decide)] at h)) (Off.refl (fun _ => False) wr))⟩
              simp only [fill_eq, List.take_succ_cons, List.take_zero, List.cons_append, List.nil_append, Act.put, List.setIfInBounds_toArray, List.set_cons_zero, List.set_cons_succ, sel_new, sel_dep d6]
              try rfl
          · as_aux_lemma =>
              rintro l a wr ⟨zva, zvc, eva, evc, ha, hO, h4⟩ hc hl hd K' hK
              have d7 := hd 7 (by decide)
              simp only [fill_eq, List.take_succ_cons, List.take_zero, List.cons_append, List.nil_append, Act.put, List.setIfInBounds_toArray, List.set_cons_zero, List.set_cons_succ, sel_of d7] at ha
              subst ha
              have q4 := h4 (hc.up 10 7 4 d7 (by kernel_rfl))
              have Q4 := Lib.hid q4
              clear q4
              have H4 := Lib.hid h4
              clear h4
              rw [if_pos (by rfl)]
              go_simp
              refine Shut.out hK _ _ ⟨zva, zvc, eva, evc, ?_, hO, (fun h => own_off (H4.out (show l 4 = true by rwa [upd_ne l (by decide)] at h)) (Off.refl (fun _ => False) wr))⟩
              simp only [fill_eq, List.take_succ_cons, List.take_zero, List.cons_append, List.nil_append, Act.put, List.setIfInBounds_toArray, List.set_cons_zero, List.set_cons_succ, sel_new, sel_dep d7]
              try rfl
          · rintro l a wc ⟨zva, zvc, eva, evc, ha, hO, h4⟩ hd
            simp only [fill_eq, List.take_succ_cons, List.take_zero, List.cons_append, List.nil_append, Act.put, List.setIfInBounds_toArray, List.set_cons_zero, List.set_cons_succ, sel_of (hd 0 (by decide)), sel_of (hd 1 (by decide)), sel_of (hd 2 (by decide)), sel_of (hd 3 (by decide)), sel_of (hd 4 (by decide)), sel_of (hd 5 (by decide)), sel_of (hd 6 (by decide)), sel_of (hd 7 (by decide)), sel_of (hd 8 (by decide)), sel_of (hd 9 (by decide))] at ha
            subst ha
            have q4 := h4 (hd 4 (by decide))
            clear h4
            obtain ⟨W2, hW2⟩ : ∃ W2, W2 = wc := ⟨_, rfl⟩
            rw [← hW2] at hO q4 ⊢
            have hO2 : Off (fun _ => False) wq W2 := HOp.out.trans hO (fun _ _ c => c)
            have hru := own_off HRu.out hO
            have lu := ls_of_own hru (by rw [List.length_map]; exact HUl.out.symm) (by omega)
            have lv := ls_of_own q4 (by rw [List.length_map]; exact HVl.out.symm) (by omega)
            obtain ⟨x0, hx0⟩ : ∃ x0, us[0]? = some x0 := ⟨_, List.getElem?_eq_getElem (by rw [HUl.out]; omega)⟩
            obtain ⟨y0, hy0⟩ : ∃ y0, vs[0]? = some y0 := ⟨_, List.getElem?_eq_getElem (by rw [HVl.out]; omega)⟩
            obtain ⟨ub, uo, hub, _, _⟩ := lu.get (j := 0) (x := fm P x0) (by rw [List.getElem?_map, hx0]; rfl)
            obtain ⟨vb, vo, hvb, _, _⟩ := lv.get (j := 0) (x := fm P y0) (by rw [List.getElem?_map, hy0]; rfl)
            subst hub
            subst hvb
            have HLu := Lib.hid lu
            have HLv := Lib.hid lv
            have HRu := Lib.hid hru
            have HRv := Lib.hid q4
            have HO2 := Lib.hid hO2
            have HGM := Lib.hid (hO.heap HGM.out (fun c => c))
            clear hO q4 hW2 hd FV2 hx0 hy0 lu lv hru hO2 HGB
            go_wp2_with fail
            obtain ⟨Bw, hBw⟩ : ∃ Bw, Bw = W2.heap.size := ⟨_, rfl⟩
            have HBw := Lib.hid hBw
            clear hBw
            go_loopw [17, 55] (fun sw i wr => ∃ j : Nat, j ≤ 3 ∧ i = .int .i64 (j : Int) ∧ (∃ a c, sw = .slice a j c ∧ wr.ownsRow Bw 66 4 (.slice a j c) j (flat4 (((sumL P us vs).take j).map (fm P)))) ∧ Off (fun _ => False) W2 wr) (fun _ i _ => 3 - (intOf i).toNat)
            case atStart => exact ⟨0, Nat.zero_le _, rfl, ⟨none, 0, rfl, World.ownsRow_nil _ _ _ _⟩, Off.refl _ _⟩
            case round =>
              obtain ⟨j, hj, rfl, ⟨wa, wk, rfl, hw⟩, hO⟩ := hrel
              by_cases hlt : j < 3
              · have w3 : IntKind.i64.wrap ((j : Int) + 1) = (j : Int) + 1 := by rw [IntKind.wrap_i64]; omega
                have hjn : (j : Int) < 3 := by omega
                obtain ⟨x, hx⟩ : ∃ x, us[j]? = some x := ⟨_, List.getElem?_eq_getElem (by rw [HUl.out]; exact hlt)⟩
                obtain ⟨y, hy⟩ : ∃ y, vs[j]? = some y := ⟨_, List.getElem?_eq_getElem (by rw [HVl.out]; exact hlt)⟩
                obtain ⟨x1, hx1⟩ : ∃ x1, x1 = fm P x := ⟨_, rfl⟩
                obtain ⟨y1, hy1⟩ : ∃ y1, y1 = fm P y := ⟨_, rfl⟩
                obtain ⟨zz, hzz⟩ : ∃ zz, zz = (x1 + y1) % P := ⟨_, rfl⟩
                have hP0 : 0 < P := by have := HP12.out; omega
                have FAd := Lib.hid (fun W => mod_add P x1 y1 HP12.out.2 (by rw [hx1]; exact fm_lt hP0 _) (by rw [hy1]; exact fm_lt hP0 _) W)
                rw [← hzz] at FAd
                have HFl := Lib.hid (show ((sumL P us vs).take j).map (fm P) ++ [zz] = ((sumL P us vs).take (j + 1)).map (fm P) by
                  rw [List.take_add_one, sumL_get HUl.out HVl.out hx hy, List.map_append, hzz, hx1, hy1, fm_add]; rfl)
                obtain ⟨wq3, hwq3⟩ : ∃ wq3, wq3 = wr := ⟨_, rfl⟩
                rw [← hwq3] at hO hw
                have HCu := Lib.hid (fun W (h : Off (fun _ => False) wq3 W) => (by
                  obtain ⟨_, _, e, _, h4⟩ := (HLu.out.off (hO.trans h (fun _ _ c => c)) (fun _ _ _ c => c)).get (show (us.map (fm P))[j]? = some x1 by rw [List.getElem?_map, hx, hx1]; rfl)
                  cases e
                  exact h4 : elAt W ub (uo + j * 4) x1))
                have HCv := Lib.hid (fun W (h : Off (fun _ => False) wq3 W) => (by
                  obtain ⟨_, _, e, _, h4⟩ := (HLv.out.off (hO.trans h (fun _ _ c => c)) (fun _ _ _ c => c)).get (show (vs.map (fm P))[j]? = some y1 by rw [List.getElem?_map, hy, hy1]; rfl)
                  cases e
                  exact h4 : elAt W vb (vo + j * 4) y1))
                have HGM := Lib.hid (hO.heap HGM.out (fun c => c))
                have HRow := Lib.hid hw
                have HOj := Lib.hid hO
                have HJb := Lib.hid (show j < 3 ∧ j + 1 ≤ 3 ∧ Bw ≤ wq3.heap.size from ⟨hlt, hlt, by rw [HBw.out]; exact hO.size⟩)
                have HWq3 := Lib.hid hwq3
                clear hx hy hx1 hy1 hzz hP0 hO hw hwq3 hj hlt
                go_upto_region 15 with fail
                rw [← HWq3.out]
                obtain ⟨x58, hx⟩ : ∃ vv : Value, vv = .slice wa j wk := ⟨_, rfl⟩
                have X58 := Lib.hid hx
                clear hx
                obtain ⟨x59, hx⟩ : ∃ vv : Value, vv = V P := ⟨_, rfl⟩
                have X59 := Lib.hid hx
                clear hx
                obtain ⟨x60, hx⟩ : ∃ vv : Value, vv = .slice (some ⟨ub, uo, none⟩) 3 euc := ⟨_, rfl⟩
                have X60 := Lib.hid hx
                clear hx
                obtain ⟨x61, hx⟩ : ∃ vv : Value, vv = .int .i64 (j : Int) := ⟨_, rfl⟩
                have X61 := Lib.hid hx
                clear hx
                obtain ⟨x62, hx⟩ : ∃ vv : Value, vv = .pointer (some ⟨ub, uo + j * 4, none⟩) := ⟨_, rfl⟩
                have X62 := Lib.hid hx
                clear hx
                obtain ⟨x63, hx⟩ : ∃ vv : Value, vv = V x1 := ⟨_, rfl⟩
                have X63 := Lib.hid hx
                clear hx
                obtain ⟨x64, hx⟩ : ∃ vv : Value, vv = .slice (some ⟨vb, vo, none⟩) 3 evc := ⟨_, rfl⟩
                have X64 := Lib.hid hx
                clear hx
                obtain ⟨x65, hx⟩ : ∃ vv : Value, vv = .int .i64 (j : Int) := ⟨_, rfl⟩
                have X65 := Lib.hid hx
                clear hx
                obtain ⟨x66, hx⟩ : ∃ vv : Value, vv = .pointer (some ⟨vb, vo + j * 4, none⟩) := ⟨_, rfl⟩
                have X66 := Lib.hid hx
                clear hx
                obtain ⟨x67, hx⟩ : ∃ vv : Value, vv = V y1 := ⟨_, rfl⟩
                have X67 := Lib.hid hx
                clear hx
                obtain ⟨x68, hx⟩ : ∃ vv : Value, vv = V zz := ⟨_, rfl⟩
                have X68 := Lib.hid hx
                clear hx
                refine wp_region_clo (fun a0 l a' w' => ∃ (bz : Nat) (vf : Value), a' = (Act.put (fill a0 58 [sel (l 0) x58 (u58), sel (l 1) x59 (u59), sel (l 2) x60 (u60), sel (l 3) x61 (u61), sel (l 4) x62 (u62), sel (l 5) x63 (u63), sel (l 6) x64 (u64), sel (l 7) x65 (u65), sel (l 8) x66 (u66), sel (l 9) x67 (u67), sel (l 10) x68 (u68), sel (l 11) (.slice (some ⟨bz, 0, none⟩) 1 1) (u69), sel (l 12) (vf) (u70), u71, u72, u73, u74, u75, u76, u77, u78, u79, u80, u81, u82, u83, u84, undef, undef, undef, undef, undef, undef, undef, undef, undef, undef, undef, undef, undef, undef, undef, undef, undef, undef, undef, undef, undef, undef, undef, undef, undef, undef, undef, undef, undef, undef, undef, undef, undef, undef, undef, undef, undef, undef, undef, undef, undef, undef, undef, undef, undef, undef, undef, undef, undef, undef, undef, undef, undef, undef, undef, undef, undef, undef, undef, undef, undef, undef, undef, undef, undef, undef, undef, undef, undef, undef, undef, undef, undef, undef, undef, undef, undef, undef, undef, undef, undef, undef, undef, undef, undef, undef, undef, undef, undef, undef, undef, undef, undef, undef, undef, undef, undef]) (some 17) (sel (l 13) (vf) (.slice wa j wk))) ∧ (l 12 = false → Off (fun _ => False) wq3 w' ∧ (l 11 = true → w'.heap[bz]? = some (.cells #[.int .u64 (wd zz 0 : Int), .int .u64 (wd zz 1 : Int), .int .u64 (wd zz 2 : Int), .int .u64 (wd zz 3 : Int)] 66 (0, 0)))) ∧ (l 12 = true → w'.ownsRow Bw 66 4 vf (j + 1) (flat4 (((sumL P us vs).take j).map (fm P) ++ [zz])) ∧ Off (fun _ => False) W2 w')) (by kernel_rfl) (by kernel_rfl) ?_ ⟨?_, ?_, ?_, ?_, ?_, ?_, ?_, ?_, ?_, ?_, ?_, ?_, ?_, ?_, trivial⟩ ?_
                · refine ⟨0, undef, ?_, fun _ => ⟨(Off.refl _ wq3).drew, (fun h => by cases h)⟩, fun h => by cases h⟩
                  simp only [fill_eq, List.take_succ_cons, List.take_zero, List.cons_append, List.nil_append, Act.put, List.setIfInBounds_toArray, List.set_cons_zero, List.set_cons_succ, sel_start]
                  try rfl
                · as_aux_lemma =>
                    rintro l a wr ⟨bz, vf, ha, hA, hB⟩ hc hl hd K' hK
                    have hx := X58.out; subst hx
                    have gF : l 12 = false := hc.not (i := 12) hl 14 (by kernel_rfl)
                    obtain ⟨hO, h11⟩ := hA gF
                    have GF := Lib.hid gF
                    clear gF hA hB
                    have g13 := hc.not (i := 13) hl 14 (by kernel_rfl)
                    simp only [fill_eq, List.take_succ_cons, List.take_zero, List.cons_append, List.nil_append, Act.put, List.setIfInBounds_toArray, List.set_cons_zero, List.set_cons_succ, sel_no g13] at ha
                    subst ha
                    have G13 := Lib.hid g13
                    clear g13
                    have H11 := Lib.hid h11
                    clear h11
                    rw [if_pos (by rfl)]
                    go_simp
                    refine Shut.out hK _ _ ⟨bz, vf, ?_, fun _ => ⟨hO, (fun h => Off.heap (Off.refl (fun _ => False) wr) (H11.out (show l 11 = true by rwa [upd_ne l (by decide)] at h)) (fun c => c))⟩, fun h => absurd (show (true : Bool) = false from (show l 12 = true by rwa [upd_ne l (by decide)] at h).symm.trans GF.out) (by decide)⟩
                    simp only [fill_eq, List.take_succ_cons, List.take_zero, List.cons_append, List.nil_append, Act.put, List.setIfInBounds_toArray, List.set_cons_zero, List.set_cons_succ, sel_new, sel_no (show upd l 0 13 = false by rw [upd_ne l (by decide)]; exact G13.out)]
                    try rfl
                · as_aux_lemma =>
                    rintro l a wr ⟨bz, vf, ha, hA, hB⟩ hc hl hd K' hK
                    have hx := X59.out; subst hx
                    have gF : l 12 = false := hc.not (i := 12) hl 14 (by kernel_rfl)
                    obtain ⟨hO, h11⟩ := hA gF
                    have GF := Lib.hid gF
                    clear gF hA hB
                    simp only [fill_eq, List.take_succ_cons, List.take_zero, List.cons_append, List.nil_append, Act.put, List.setIfInBounds_toArray, List.set_cons_zero, List.set_cons_succ] at ha
                    subst ha
                    have H11 := Lib.hid h11
                    clear h11
                    obtain ⟨p0, p1, p2, p3⟩ := cells4 (hO.heap HGM.out (fun c => c))
                    have lq := heap_lt (hO.heap HGM.out (fun c => c))
                    rw [if_pos (by rfl)]
                    go_simp
                    refine Shut.out hK _ _ ⟨bz, vf, ?_, fun _ => ⟨hO, (fun h => Off.heap (Off.refl (fun _ => False) wr) (H11.out (show l 11 = true by rwa [upd_ne l (by decide)] at h)) (fun c => c))⟩, fun h => absurd (show (true : Bool) = false from (show l 12 = true by rwa [upd_ne l (by decide)] at h).symm.trans GF.out) (by decide)⟩
                    simp only [fill_eq, List.take_succ_cons, List.take_zero, List.cons_append, List.nil_append, Act.put, List.setIfInBounds_toArray, List.set_cons_zero, List.set_cons_succ, sel_new]
                    try rfl
                · as_aux_lemma =>
                    rintro l a wr ⟨bz, vf, ha, hA, hB⟩ hc hl hd K' hK
                    have hx := X60.out; subst hx
                    have gF : l 12 = false := hc.not (i := 12) hl 14 (by kernel_rfl)
                    obtain ⟨hO, h11⟩ := hA gF
                    have GF := Lib.hid gF
                    clear gF hA hB
                    simp only [fill_eq, List.take_succ_cons, List.take_zero, List.cons_append, List.nil_append, Act.put, List.setIfInBounds_toArray, List.set_cons_zero, List.set_cons_succ] at ha
                    subst ha
                    have H11 := Lib.hid h11
                    clear h11
                    rw [if_pos (by rfl)]
                    go_simp
                    refine Shut.out hK _ _ ⟨bz, vf, ?_, fun _ => ⟨hO, (fun h => Off.heap (Off.refl (fun _ => False) wr) (H11.out (show l 11 = true by rwa [upd_ne l (by decide)] at h)) (fun c => c))⟩, fun h => absurd (show (true : Bool) = false from (show l 12 = true by rwa [upd_ne l (by decide)] at h).symm.trans GF.out) (by decide)⟩
                    simp only [fill_eq, List.take_succ_cons, List.take_zero, List.cons_append, List.nil_append, Act.put, List.setIfInBounds_toArray, List.set_cons_zero, List.set_cons_succ, sel_new]
                    try rfl
                · as_aux_lemma =>
                    rintro l a wr ⟨bz, vf, ha, hA, hB⟩ hc hl hd K' hK
                    have hx := X61.out; subst hx
                    have gF : l 12 = false := hc.not (i := 12) hl 14 (by kernel_rfl)
                    obtain ⟨hO, h11⟩ := hA gF
                    have GF := Lib.hid gF
                    clear gF hA hB
                    simp only [fill_eq, List.take_succ_cons, List.take_zero, List.cons_append, List.nil_append, Act.put, List.setIfInBounds_toArray, List.set_cons_zero, List.set_cons_succ] at ha
                    subst ha
                    have H11 := Lib.hid h11
                    clear h11
                    rw [if_pos (by rfl)]
                    go_simp
                    refine Shut.out hK _ _ ⟨bz, vf, ?_, fun _ => ⟨hO, (fun h => Off.heap (Off.refl (fun _ => False) wr) (H11.out (show l 11 = true by rwa [upd_ne l (by decide)] at h)) (fun c => c))⟩, fun h => absurd (show (true : Bool) = false from (show l 12 = true by rwa [upd_ne l (by decide)] at h).symm.trans GF.out) (by decide)⟩
                    simp only [fill_eq, List.take_succ_cons, List.take_zero, List.cons_append, List.nil_append, Act.put, List.setIfInBounds_toArray, List.set_cons_zero, List.set_cons_succ, sel_new]
                    try rfl
                · as_aux_lemma =>
                    rintro l a wr ⟨bz, vf, ha, hA, hB⟩ hc hl hd K' hK
                    have d2 := hd 2 (by decide)
                    have d3 := hd 3 (by decide)
                    have hx := X60.out; subst hx
                    have hx := X61.out; subst hx
                    have hx := X62.out; subst hx
                    have gF : l 12 = false := hc.not (i := 12) hl 14 (by kernel_rfl)
                    obtain ⟨hO, h11⟩ := hA gF
                    have GF := Lib.hid gF
                    clear gF hA hB
                    simp only [fill_eq, List.take_succ_cons, List.take_zero, List.cons_append, List.nil_append, Act.put, List.setIfInBounds_toArray, List.set_cons_zero, List.set_cons_succ, sel_of d2, sel_of d3] at ha
                    subst ha
                    have H11 := Lib.hid h11
                    clear h11
                    have lq := World.block_lt_of_cell? wr _ (HCu.out wr hO).1
                    rw [if_pos (by rfl)]
                    go_simp
                    refine Shut.out hK _ _ ⟨bz, vf, ?_, fun _ => ⟨hO, (fun h => Off.heap (Off.refl (fun _ => False) wr) (H11.out (show l 11 = true by rwa [upd_ne l (by decide)] at h)) (fun c => c))⟩, fun h => absurd (show (true : Bool) = false from (show l 12 = true by rwa [upd_ne l (by decide)] at h).symm.trans GF.out) (by decide)⟩
                    simp only [fill_eq, List.take_succ_cons, List.take_zero, List.cons_append, List.nil_append, Act.put, List.setIfInBounds_toArray, List.set_cons_zero, List.set_cons_succ, sel_new, sel_dep d2, sel_dep d3]
                    try rfl
                · as_aux_lemma =>
                    rintro l a wr ⟨bz, vf, ha, hA, hB⟩ hc hl hd K' hK
                    have d4 := hd 4 (by decide)
                    have hx := X62.out; subst hx
                    have hx := X63.out; subst hx
                    have gF : l 12 = false := hc.not (i := 12) hl 14 (by kernel_rfl)
                    obtain ⟨hO, h11⟩ := hA gF
                    have GF := Lib.hid gF
                    clear gF hA hB
                    simp only [fill_eq, List.take_succ_cons, List.take_zero, List.cons_append, List.nil_append, Act.put, List.setIfInBounds_toArray, List.set_cons_zero, List.set_cons_succ, sel_of d4] at ha
                    subst ha
                    have H11 := Lib.hid h11
                    clear h11
                    obtain ⟨p0, p1, p2, p3⟩ := HCu.out wr hO
                    rw [if_pos (by rfl)]
                    go_simp
                    refine Shut.out hK _ _ ⟨bz, vf, ?_, fun _ => ⟨hO, (fun h => Off.heap (Off.refl (fun _ => False) wr) (H11.out (show l 11 = true by rwa [upd_ne l (by decide)] at h)) (fun c => c))⟩, fun h => absurd (show (true : Bool) = false from (show l 12 = true by rwa [upd_ne l (by decide)] at h).symm.trans GF.out) (by decide)⟩
                    simp only [fill_eq, List.take_succ_cons, List.take_zero, List.cons_append, List.nil_append, Act.put, List.setIfInBounds_toArray, List.set_cons_zero, List.set_cons_succ, sel_new, sel_dep d4]
                    try rfl
                · as_aux_lemma =>
                    rintro l a wr ⟨bz, vf, ha, hA, hB⟩ hc hl hd K' hK
                    have hx := X64.out; subst hx
                    have gF : l 12 = false := hc.not (i := 12) hl 14 (by kernel_rfl)
                    obtain ⟨hO, h11⟩ := hA gF
                    have GF := Lib.hid gF
                    clear gF hA hB
                    simp only [fill_eq, List.take_succ_cons, List.take_zero, List.cons_append, List.nil_append, Act.put, List.setIfInBounds_toArray, List.set_cons_zero, List.set_cons_succ] at ha
                    subst ha
                    have H11 := Lib.hid h11
                    clear h11
                    rw [if_pos (by rfl)]
                    go_simp
                    refine Shut.out hK _ _ ⟨bz, vf, ?_, fun _ => ⟨hO, (fun h => Off.heap (Off.refl (fun _ => False) wr) (H11.out (show l 11 = true by rwa [upd_ne l (by decide)] at h)) (fun c => c))⟩, fun h => absurd (show (true : Bool) = false from (show l 12 = true by rwa [upd_ne l (by decide)] at h).symm.trans GF.out) (by decide)⟩
                    simp only [fill_eq, List.take_succ_cons, List.take_zero, List.cons_append, List.nil_append, Act.put, List.setIfInBounds_toArray, List.set_cons_zero, List.set_cons_succ, sel_new]
                    try rfl
                · as_aux_lemma =>
                    rintro l a wr ⟨bz, vf, ha, hA, hB⟩ hc hl hd K' hK
                    have hx := X65.out; subst hx
                    have gF : l 12 = false := hc.not (i := 12) hl 14 (by kernel_rfl)
                    obtain ⟨hO, h11⟩ := hA gF
                    have GF := Lib.hid gF
                    clear gF hA hB
                    simp only [fill_eq, List.take_succ_cons, List.take_zero, List.cons_append, List.nil_append, Act.put, List.setIfInBounds_toArray, List.set_cons_zero, List.set_cons_succ] at ha
                    subst ha
                    have H11 := Lib.hid h11
                    clear h11
                    rw [if_pos (by rfl)]
                    go_simp
                    refine Shut.out hK _ _ ⟨bz, vf, ?_, fun _ => ⟨hO, (fun h => Off.heap (Off.refl (fun _ => False) wr) (H11.out (show l 11 = true by rwa [upd_ne l (by decide)] at h)) (fun c => c))⟩, fun h => absurd (show (true : Bool) = false from (show l 12 = true by rwa [upd_ne l (by decide)] at h).symm.trans GF.out) (by decide)⟩
                    simp only [fill_eq, List.take_succ_cons, List.take_zero, List.cons_append, List.nil_append, Act.put, List.setIfInBounds_toArray, List.set_cons_zero, List.set_cons_succ, sel_new]
                    try rfl
                · as_aux_lemma =>
                    rintro l a wr ⟨bz, vf, ha, hA, hB⟩ hc hl hd K' hK
                    have d6 := hd 6 (by decide)
                    have d7 := hd 7 (by decide)
                    have hx := X64.out; subst hx
                    have hx := X65.out; subst hx
                    have hx := X66.out; subst hx
                    have gF : l 12 = false := hc.not (i := 12) hl 14 (by kernel_rfl)
                    obtain ⟨hO, h11⟩ := hA gF
                    have GF := Lib.hid gF
                    clear gF hA hB
                    simp only [fill_eq, List.take_succ_cons, List.take_zero, List.cons_append, List.nil_append, Act.put, List.setIfInBounds_toArray, List.set_cons_zero, List.set_cons_succ, sel_of d6, sel_of d7] at ha
                    subst ha
                    have H11 := Lib.hid h11
                    clear h11
                    have lq := World.block_lt_of_cell? wr _ (HCv.out wr hO).1
                    rw [if_pos (by rfl)]
                    go_simp
                    refine Shut.out hK _ _ ⟨bz, vf, ?_, fun _ => ⟨hO, (fun h => Off.heap (Off.refl (fun _ => False) wr) (H11.out (show l 11 = true by rwa [upd_ne l (by decide)] at h)) (fun c => c))⟩, fun h => absurd (show (true : Bool) = false from (show l 12 = true by rwa [upd_ne l (by decide)] at h).symm.trans GF.out) (by decide)⟩
                    simp only [fill_eq, List.take_succ_cons, List.take_zero, List.cons_append, List.nil_append, Act.put, List.setIfInBounds_toArray, List.set_cons_zero, List.set_cons_succ, sel_new, sel_dep d6, sel_dep d7]
                    try rfl
                · as_aux_lemma =>
                    rintro l a wr ⟨bz, vf, ha, hA, hB⟩ hc hl hd K' hK
                    have d8 := hd 8 (by decide)
                    have hx := X66.out; subst hx
                    have hx := X67.out; subst hx
                    have gF : l 12 = false := hc.not (i := 12) hl 14 (by kernel_rfl)
                    obtain ⟨hO, h11⟩ := hA gF
                    have GF := Lib.hid gF
                    clear gF hA hB
                    simp only [fill_eq, List.take_succ_cons, List.take_zero, List.cons_append, List.nil_append, Act.put, List.setIfInBounds_toArray, List.set_cons_zero, List.set_cons_succ, sel_of d8] at ha
                    subst ha
                    have H11 := Lib.hid h11
                    clear h11
                    obtain ⟨p0, p1, p2, p3⟩ := HCv.out wr hO
                    rw [if_pos (by rfl)]
                    go_simp
                    refine Shut.out hK _ _ ⟨bz, vf, ?_, fun _ => ⟨hO, (fun h => Off.heap (Off.refl (fun _ => False) wr) (H11.out (show l 11 = true by rwa [upd_ne l (by decide)] at h)) (fun c => c))⟩, fun h => absurd (show (true : Bool) = false from (show l 12 = true by rwa [upd_ne l (by decide)] at h).symm.trans GF.out) (by decide)⟩
                    simp only [fill_eq, List.take_succ_cons, List.take_zero, List.cons_append, List.nil_append, Act.put, List.setIfInBounds_toArray, List.set_cons_zero, List.set_cons_succ, sel_new, sel_dep d8]
                    try rfl
                · as_aux_lemma =>
                    rintro l a wr ⟨bz, vf, ha, hA, hB⟩ hc hl hd K' hK
                    have d1 := hd 1 (by decide)
                    have d5 := hd 5 (by decide)
                    have d9 := hd 9 (by decide)
                    have hx := X59.out; subst hx
                    have hx := X63.out; subst hx
                    have hx := X67.out; subst hx
                    have hx := X68.out; subst hx
                    have gF : l 12 = false := hc.not (i := 12) hl 14 (by kernel_rfl)
                    obtain ⟨hO, h11⟩ := hA gF
                    have GF := Lib.hid gF
                    clear gF hA hB
                    simp only [fill_eq, List.take_succ_cons, List.take_zero, List.cons_append, List.nil_append, Act.put, List.setIfInBounds_toArray, List.set_cons_zero, List.set_cons_succ, sel_of d1, sel_of d5, sel_of d9] at ha
                    subst ha
                    have H11 := Lib.hid h11
                    clear h11
                    rw [if_pos (by rfl)]
                    go_simp
                    refine (FAd.out wr).mono ?_
                    rintro e w1 ⟨rfl, hO1⟩
                    go_wp2_with fail
                    refine Shut.out hK _ _ ⟨bz, vf, ?_, fun _ => ⟨(hO.trans hO1 (fun _ _ c => c)), (fun h => Off.heap hO1 (H11.out (show l 11 = true by rwa [upd_ne l (by decide)] at h)) (fun c => c))⟩, fun h => absurd (show (true : Bool) = false from (show l 12 = true by rwa [upd_ne l (by decide)] at h).symm.trans GF.out) (by decide)⟩
                    simp only [fill_eq, List.take_succ_cons, List.take_zero, List.cons_append, List.nil_append, Act.put, List.setIfInBounds_toArray, List.set_cons_zero, List.set_cons_succ, sel_new, sel_dep d1, sel_dep d5, sel_dep d9]
                    try rfl
                · rintro l a wr ⟨bz, vf, ha, hA, hB⟩ hc hl hd K' hK
                  have d10 := hd 10 (by decide)
                  have hx := X68.out; subst hx
                  have gF : l 12 = false := hc.not (i := 12) hl 14 (by kernel_rfl)
                  obtain ⟨hO, h11⟩ := hA gF
                  have GF := Lib.hid gF
                  clear gF hA hB
                  have g12 := hc.not (i := 12) hl 14 (by kernel_rfl)
                  have g13 := hc.not (i := 13) hl 14 (by kernel_rfl)
                  simp only [fill_eq, List.take_succ_cons, List.take_zero, List.cons_append, List.nil_append, Act.put, List.setIfInBounds_toArray, List.set_cons_zero, List.set_cons_succ, sel_of d10, sel_no g12, sel_no g13, sel_no hl] at ha
                  subst ha
                  have G12 := Lib.hid g12
                  clear g12
                  have G13 := Lib.hid g13
                  clear g13
                  have H11 := Lib.hid h11
                  clear h11
                  rw [if_pos (by rfl)]
                  go_simp
                  refine Shut.out hK _ _ ⟨wr.heap.size, vf, ?_, fun _ => ⟨(hO.alloc _), (fun _ => heap_new' rfl _)⟩, fun h => absurd (show (true : Bool) = false from (show l 12 = true by rwa [upd_ne l (by decide)] at h).symm.trans GF.out) (by decide)⟩
                  simp only [fill_eq, List.take_succ_cons, List.take_zero, List.cons_append, List.nil_append, Act.put, List.setIfInBounds_toArray, List.set_cons_zero, List.set_cons_succ, sel_new, sel_dep d10, sel_no (show upd l 11 12 = false by rw [upd_ne l (by decide)]; exact G12.out), sel_no (show upd l 11 13 = false by rw [upd_ne l (by decide)]; exact G13.out)]
                  try rfl
                · as_aux_lemma =>
                    rintro l a wr ⟨bz, vf, ha, hA, hB⟩ hc hl hd K' hK
                    have d0 := hd 0 (by decide)
                    have d11 := hd 11 (by decide)
                    have hx := X58.out; subst hx
                    have gF : l 12 = false := hl
                    obtain ⟨hO, h11⟩ := hA gF
                    have GF := Lib.hid gF
                    clear gF hA hB
                    have g13 := hc.not (i := 13) hl 14 (by kernel_rfl)
                    simp only [fill_eq, List.take_succ_cons, List.take_zero, List.cons_append, List.nil_append, Act.put, List.setIfInBounds_toArray, List.set_cons_zero, List.set_cons_succ, sel_of d0, sel_of d11, sel_no g13, sel_no hl] at ha
                    subst ha
                    have G13 := Lib.hid g13
                    clear g13
                    have q11 := h11 d11
                    have Q11 := Lib.hid q11
                    clear q11
                    have H11 := Lib.hid h11
                    clear h11
                    rw [if_pos (by rfl)]
                    obtain ⟨v', w1, hrun, hr1, hg1⟩ := app_el (own_off HRow.out hO) (Nat.le_trans HJb.out.2.2 hO.size) Q11.out (by have := HJb.out; omega)
                    have hO1 : Off (fun _ => False) W2 w1 := grown_off (HOj.out.trans hO (fun _ _ c => c)) (by rw [HBw.out]; exact Nat.le_refl _) (own_off HRow.out hO) hg1
                    refine append_oper rfl rfl rfl hrun ?_
                    refine Shut.out hK _ _ ⟨bz, v', ?_, fun h => absurd h (by rw [upd_same]; decide), fun _ => ⟨hr1, hO1⟩⟩
                    simp only [fill_eq, List.take_succ_cons, List.take_zero, List.cons_append, List.nil_append, Act.put, List.setIfInBounds_toArray, List.set_cons_zero, List.set_cons_succ, sel_new, sel_dep d0, sel_dep d11, sel_no (show upd l 12 13 = false by rw [upd_ne l (by decide)]; exact G13.out)]
                    try rfl
                · as_aux_lemma =>
                    rintro l a wr ⟨bz, vf, ha, hA, hB⟩ hc hl hd K' hK
                    have d12 := hd 12 (by decide)
                    simp only [fill_eq, List.take_succ_cons, List.take_zero, List.cons_append, List.nil_append, Act.put, List.setIfInBounds_toArray, List.set_cons_zero, List.set_cons_succ, sel_of d12] at ha
                    subst ha
                    rw [if_pos (by rfl)]
                    go_simp
                    refine Shut.out hK _ _ ⟨bz, vf, ?_, fun h => absurd (show (true : Bool) = false from d12.symm.trans (show l 12 = false by rwa [upd_ne l (by decide)] at h)) (by decide), fun _ => hB d12⟩
                    simp only [fill_eq, List.take_succ_cons, List.take_zero, List.cons_append, List.nil_append, Act.put, List.setIfInBounds_toArray, List.set_cons_zero, List.set_cons_succ, sel_new, sel_dep d12]
                    try rfl
                · rintro l a wc ⟨bz, vf, ha, hA, hB⟩ hd
                  simp only [fill_eq, List.take_succ_cons, List.take_zero, List.cons_append, List.nil_append, Act.put, List.setIfInBounds_toArray, List.set_cons_zero, List.set_cons_succ, sel_of (hd 0 (by decide)), sel_of (hd 1 (by decide)), sel_of (hd 2 (by decide)), sel_of (hd 3 (by decide)), sel_of (hd 4 (by decide)), sel_of (hd 5 (by decide)), sel_of (hd 6 (by decide)), sel_of (hd 7 (by decide)), sel_of (hd 8 (by decide)), sel_of (hd 9 (by decide)), sel_of (hd 10 (by decide)), sel_of (hd 11 (by decide)), sel_of (hd 12 (by decide)), sel_of (hd 13 (by decide))] at ha
                  subst ha
                  have hPP := hB (hd 12 (by decide))
                  clear hA hB
                  obtain ⟨hr, hO⟩ := hPP
                  obtain ⟨fa, fc, rfl⟩ : ∃ a c, vf = .slice a (j + 1) c := by
                    rcases hr.2 with ⟨rfl, hn⟩ | ⟨g, cap, cur, rfl, _⟩
                    · simp at hn
                    · exact ⟨_, cap, rfl⟩
                  rw [HFl.out] at hr
                  have HR := Lib.hid hr
                  have HOf := Lib.hid hO
                  clear hr hO hd
                  go_wp2
                  go_roundw
                  case rel => exact ⟨j + 1, HJb.out.2.1, by simp, ⟨_, _, rfl, HR.out⟩, HOf.out⟩
                  case measure => simp [intOf]; have := HJb.out; omega
              · obtain rfl : j = 3 := by omega
                rw [List.take_of_length_le (by rw [sumL_len HUl.out HVl.out]; exact Nat.le_refl _)] at hw
                have hOq : Off (fun _ => False) wq wr := HO2.out.trans hO (fun _ _ c => c)
                have hO1 : Off (fun _ => False) W1 wr := HOq.out.trans hOq (fun _ _ c => c)
                have hx := HX.out.off hOq (fun _ _ c => c)
                have hy := HY.out.off hOq (fun _ _ c => c)
                have hz := HZ.out.off hOq (fun _ _ c => c)
                obtain ⟨axy, axz, ayz⟩ := HAp.out
                have hBw : Bs ≤ Bw := by rw [HBs.out, HBw.out]; exact (HOq.out.trans HO2.out (fun _ _ c => c)).size
                have hl1 : (us.map (fm P)).length = 3 := by rw [List.length_map]; exact HUl.out
                have hl2 : (vs.map (fm P)).length = 3 := by rw [List.length_map]; exact HVl.out
                have hl3 : ((sumL P us vs).map (fm P)).length = 3 := by rw [List.length_map]; exact sumL_len HUl.out HVl.out
                have hk10 : ((A'.take k).map (·.map (fm P))).length ≤ 10 ∧ ((B'.take k).map (·.map (fm P))).length ≤ 10 ∧ ((linL P (A'.take k) (B'.take k)).map (·.map (fm P))).length ≤ 10 := by
                  have := HKb.out
                  rw [List.length_map, List.length_map, List.length_map]
                  unfold linL
                  rw [List.length_zipWith, List.length_take, List.length_take]
                  omega
                obtain ⟨xx, w1', hr1, rx1, hq1, ap1, kp1, kr1⟩ := app_one hO1 HBs.out.symm hx (own_off HRu.out hO) hl1 hk10.1
                have ry1 := kp1 _ _ hy axy.symm
                have rz1 := kp1 _ _ hz axz.symm
                obtain ⟨yy, w2', hr2, ry2, hq2, ap2, kp2, kr2⟩ := app_one hq1 HBs.out.symm ry1 (kr1 _ _ _ (own_off HRv.out hO)) hl2 hk10.2.1
                have rx2 := kp2 _ _ rx1 (ap1 _ hy.lt axy)
                have rz2 := kp2 _ _ rz1 ayz.symm
                obtain ⟨zq, w3', hr3, rz3, hq3, ap3, kp3, _⟩ := app_one hq2 HBs.out.symm rz2 (kr2 _ _ _ (kr1 _ _ _ (own_below hw hBw))) hl3 hk10.2.2
                have rx3 := kp3 _ _ rx2 (ap1 _ hz.lt axz)
                have ry3 := kp3 _ _ ry2 (ap2 _ rz1.lt ayz)
                have HApn := Lib.hid (show Ap xx yy ∧ Ap xx zq ∧ Ap yy zq from ⟨(ap2 _ rx1.lt (ap1 _ hy.lt axy).symm).symm, (ap3 _ rx2.lt (ap1 _ hz.lt axz).symm).symm, (ap3 _ ry2.lt (ap2 _ rz1.lt ayz).symm).symm⟩)
                have HXn := Lib.hid (show RowLL 66 47 Bs w3' xx ((A'.take (k + 1)).map (·.map (fm P))) by
                  rw [List.take_add_one, HUg.out, List.map_append]; exact rx3)
                have HYn := Lib.hid (show RowLL 66 47 Bs w3' yy ((B'.take (k + 1)).map (·.map (fm P))) by
                  rw [List.take_add_one, HVg.out, List.map_append]; exact ry3)
                have HZn := Lib.hid (show RowLL 66 47 Bs w3' zq ((linL P (A'.take (k + 1)) (B'.take (k + 1))).map (·.map (fm P))) by
                  rw [linL_snoc HUg.out HVg.out, List.map_append]; exact rz3)
                have HOn := Lib.hid hq3
                have HR1 := Lib.hid hr1
                have HR2 := Lib.hid hr2
                have HR3 := Lib.hid hr3
                have h33 : ¬ (3 : Int) < 3 := by omega
                clear hOq hO1 hx hy hz axy axz ayz hBw hl1 hl2 hl3 hk10 hr1 rx1 hq1 ap1 kp1 kr1 ry1 rz1 hr2 ry2 hq2 ap2 kp2 kr2 rx2 rz2 hr3 rz3 hq3 ap3 kp3 rx3 ry3 hO hw hlt hj
                go_wp2_with first | (at_builtin; refine Go.Lib.wpList_append_run _ rfl _ _ _ _ rfl _ _ rfl rfl _ _ HR1.out ?_) | (at_builtin; refine Go.Lib.wpList_append_run _ rfl _ _ _ _ rfl _ _ rfl rfl _ _ HR2.out ?_) | (at_builtin; refine Go.Lib.wpList_append_run _ rfl _ _ _ _ rfl _ _ rfl rfl _ _ HR3.out ?_) | fail
                go_roundw
                case rel => exact ⟨k + 1, HKb.out.2, by simp, HXn.out, HYn.out, HZn.out, HApn.out, HOn.out⟩
                case measure => simp [intOf]; have := HKb.out; omega
      · obtain rfl : k = 2 := by omega
        have hA2 : A'.length = 2 := by rw [HA'.out, List.length_map]; exact HAl.out
        have hB2 : B'.length = 2 := by rw [HB'.out, List.length_map]; exact HBl.out
        rw [List.take_of_length_le (by omega)] at hx
        rw [List.take_of_length_le (by omega)] at hy
        rw [List.take_of_length_le (by omega), List.take_of_length_le (by omega)] at hz
        have hA3 : ∀ c ∈ A', c.length = 3 := by rw [HA'.out]; intro c hc; obtain ⟨y, hy, rfl⟩ := List.mem_map.1 hc; rw [List.length_map]; exact HA3.out y hy
        have hB3 : ∀ c ∈ B', c.length = 3 := by rw [HB'.out]; intro c hc; obtain ⟨y, hy, rfl⟩ := List.mem_map.1 hc; rw [List.length_map]; exact HB3.out y hy
        obtain ⟨C', hC'⟩ : ∃ C', C' = linL P A' B' := ⟨_, rfl⟩
        have hC2 : C'.length = 2 := by rw [hC']; exact linL_length P hA2 hB2
        have hC3 : ∀ c ∈ C', c.length = 3 := by rw [hC']; exact linL_all P 3 A' B' hA3 hB3
        rw [← hC'] at hz
        have HC' := Lib.hid hC'
        have ml : ∀ D : List (List Nat), (∀ c ∈ D, c.length = 3) → ∀ zs ∈ D.map (·.map (fm P)), zs.length ≤ 100000 := fun D hD zs hz => by
          obtain ⟨c, hc, rfl⟩ := List.mem_map.1 hz
          rw [List.length_map, hD c hc]; omega
        have lx := hx.lls (by rw [List.length_map]; omega) (ml _ hA3)
        have ly := hy.lls (by rw [List.length_map]; omega) (ml _ hB3)
        have lz := hz.lls (by rw [List.length_map]; omega) (ml _ hC3)
        obtain ⟨xa, xc, hxa⟩ := hx.shape
        rw [List.length_map, hA2] at hxa
        subst hxa
        obtain ⟨ya, yc, hya⟩ := hy.shape
        rw [List.length_map, hB2] at hya
        subst hya
        obtain ⟨za, zc, hza⟩ := hz.shape
        rw [List.length_map, hC2] at hza
        subst hza
        have HLen := Lib.hid (show (A'.length = 2 ∧ ∀ c ∈ A', c.length = 3) ∧ (B'.length = 2 ∧ ∀ c ∈ B', c.length = 3) ∧ (C'.length = 2 ∧ ∀ c ∈ C', c.length = 3) from ⟨⟨hA2, hA3⟩, ⟨hB2, hB3⟩, ⟨hC2, hC3⟩⟩)
        have HLx := Lib.hid lx
        have HLy := Lib.hid ly
        have HLz := Lib.hid lz
        have HO2 := Lib.hid hO
        have h22 : ¬ (2 : Int) < 2 := by omega
        clear hx hy hz hap hO lx ly lz hA2 hB2 hC2 hA3 hB3 hC3 hC' ml hlt hk
        obtain ⟨p0, p1, p2, p3⟩ := cells4 (HO2.out.heap HGP.out (fun c => c))
        have lp := heap_lt (HO2.out.heap HGP.out (fun c => c))
        go_wp2_with fail
        refine (FE.out _ _ A' HLen.out.1.1 HLen.out.1.2 HLx.out (HT.out.off (HO1.out.trans HO2.out (fun _ _ c => c)))).mono ?_
        rintro e v1 ⟨a1, c1, rfl, hs, hO⟩
        have HO3 := Lib.hid (HO2.out.trans hO (fun _ _ c => c))
        have HLy := Lib.hid (HLy.out.off hO)
        have HLz := Lib.hid (HLz.out.off hO)
        have HS1 := Lib.hid hs
        clear hs hO p0 p1 p2 p3 lp HLx
        obtain ⟨p0, p1, p2, p3⟩ := cells4 (HO3.out.heap HGP.out (fun c => c))
        have lp := heap_lt (HO3.out.heap HGP.out (fun c => c))
        go_wp2_with fail
        refine (FE.out _ _ B' HLen.out.2.1.1 HLen.out.2.1.2 HLy.out (HT.out.off (HO1.out.trans HO3.out (fun _ _ c => c)))).mono ?_
        rintro e v2 ⟨a2, c2, rfl, hs, hO⟩
        have HO4 := Lib.hid (HO3.out.trans hO (fun _ _ c => c))
        have HLz := Lib.hid (HLz.out.off hO)
        have HS1 := Lib.hid (HS1.out.off hO (fun _ _ _ c => c))
        have HS2 := Lib.hid hs
        clear hs hO p0 p1 p2 p3 lp HLy
        obtain ⟨p0, p1, p2, p3⟩ := cells4 (HO4.out.heap HGP.out (fun c => c))
        have lp := heap_lt (HO4.out.heap HGP.out (fun c => c))
        go_wp2_with fail
        refine (FE.out _ _ C' HLen.out.2.2.1 HLen.out.2.2.2 HLz.out (HT.out.off (HO1.out.trans HO4.out (fun _ _ c => c)))).mono ?_
        rintro e v3 ⟨a3, c3, rfl, hs, hO⟩
        have HO5 := Lib.hid (HO4.out.trans hO (fun _ _ c => c))
        have HS1 := Lib.hid (HS1.out.off hO (fun _ _ _ c => c))
        have HS2 := Lib.hid (HS2.out.off hO (fun _ _ _ c => c))
        have HS3 := Lib.hid hs
        clear hs hO p0 p1 p2 p3 lp HLz
        go_wp2_with fail
        refine (FCS.out _ a1 c1 A' HLen.out.1.1 HS1.out (HT.out.off (HO1.out.trans HO5.out (fun _ _ c => c)))).mono ?_
        rintro e v4 ⟨rfl, hO⟩
        have HO6 := Lib.hid (HO5.out.trans hO (fun _ _ c => c))
        have HS1 := Lib.hid (HS1.out.off hO (fun _ _ _ c => c))
        have HS2 := Lib.hid (HS2.out.off hO (fun _ _ _ c => c))
        have HS3 := Lib.hid (HS3.out.off hO (fun _ _ _ c => c))
        clear hO
        go_wp2_with fail
        refine (FCS.out _ a2 c2 B' HLen.out.2.1.1 HS2.out (HT.out.off (HO1.out.trans HO6.out (fun _ _ c => c)))).mono ?_
        rintro e v5 ⟨rfl, hO⟩
        have HO7 := Lib.hid (HO6.out.trans hO (fun _ _ c => c))
        have HS1 := Lib.hid (HS1.out.off hO (fun _ _ _ c => c))
        have HS2 := Lib.hid (HS2.out.off hO (fun _ _ _ c => c))
        have HS3 := Lib.hid (HS3.out.off hO (fun _ _ _ c => c))
        clear hO
        go_wp2_with fail
        refine (FCS.out _ a3 c3 C' HLen.out.2.2.1 HS3.out (HT.out.off (HO1.out.trans HO7.out (fun _ _ c => c)))).mono ?_
        rintro e v6 ⟨rfl, hO⟩
        have HO8 := Lib.hid (HO7.out.trans hO (fun _ _ c => c))
        have HS1 := Lib.hid (HS1.out.off hO (fun _ _ _ c => c))
        have HS2 := Lib.hid (HS2.out.off hO (fun _ _ _ c => c))
        have HS3 := Lib.hid (HS3.out.off hO (fun _ _ _ c => c))
        clear hO
        obtain ⟨W8, hW8⟩ : ∃ W8, W8 = v6 := ⟨_, rfl⟩
        subst hW8
        obtain ⟨jb, jo, _, _, _, hj0, _, _⟩ := share_at HS1.out (HSg.out A' 0 (by omega)) (by omega) HLen.out.1.1
        obtain ⟨kb, ko, _, _, _, hk0, _, _⟩ := share_at HS2.out (HSg.out B' 0 (by omega)) (by omega) HLen.out.2.1.1
        obtain ⟨lb, lo, _, _, _, hl0, _, _⟩ := share_at HS3.out (HSg.out C' 0 (by omega)) (by omega) HLen.out.2.2.1
        subst hj0
        subst hk0
        subst hl0
        have HGM8 := Lib.hid (HO8.out.heap HGM.out (fun c => c))
        have hP0 : 0 < P := by have := HP12.out; omega
        have HP0 := Lib.hid hP0
        clear hP0
        go_wp2_with fail
        go_loopw [145] (fun i wr => ∃ k : Nat, k ≤ 4 ∧ i = .int .i64 (k : Int) ∧ Off (fun _ => False) W8 wr) (fun i _ => 4 - (intOf i).toNat)
        case atStart => exact ⟨0, Nat.zero_le _, rfl, Off.refl _ _⟩
        case round =>
          obtain ⟨k, hk, rfl, hO⟩ := hrel
          by_cases hlt : k < 4
          · have w4 : IntKind.i64.wrap ((k : Int) + 1) = (k : Int) + 1 := by rw [IntKind.wrap_i64]; omega
            have hkn : (k : Int) < 4 := by omega
            obtain ⟨_, _, jeb, jeo, jpc, e, j4, jel⟩ := share_at (HS1.out.off hO (fun _ _ _ c => c)) (HSg.out A' k hlt) hlt HLen.out.1.1
            cases e
            obtain ⟨_, _, keb, keo, kpc, e, k4, kel⟩ := share_at (HS2.out.off hO (fun _ _ _ c => c)) (HSg.out B' k hlt) hlt HLen.out.2.1.1
            cases e
            obtain ⟨_, _, leb, leo, lpc, e, l4, lel⟩ := share_at (HS3.out.off hO (fun _ _ _ c => c)) (HSg.out C' k hlt) hlt HLen.out.2.2.1
            cases e
            have HKb := Lib.hid (show k < 4 ∧ k + 1 ≤ 4 from ⟨hlt, hlt⟩)
            have HJ4 := Lib.hid j4
            have HK4 := Lib.hid k4
            have HJe := Lib.hid jel
            have HKe := Lib.hid kel
            have HLe := Lib.hid lel
            have HO9 := Lib.hid hO
            have hlb := World.block_lt_of_cell? wr _ l4
            obtain ⟨W9, hW9⟩ : ∃ W9, W9 = wr := ⟨_, rfl⟩
            subst hW9
            clear j4 k4 jel kel lel hO hk hlt
            go_upto_region 27 with fail
            go_wp2_with fail
            clear l4 hlb
            go_loopw [154] (fun i wr => ∃ c : Nat, c ≤ 2 ∧ i = .int .i64 (c : Int) ∧ Off (fun _ => False) W9 wr) (fun i _ => 2 - (intOf i).toNat)
            case atStart => exact ⟨0, Nat.zero_le _, rfl, Off.refl _ _⟩
            case round =>
              obtain ⟨c, hc, rfl, hO⟩ := hrel
              by_cases hlt : c < 2
              · have w5 : IntKind.i64.wrap ((c : Int) + 1) = (c : Int) + 1 := by rw [IntKind.wrap_i64]; omega
                have hcn : (c : Int) < 2 := by omega
                obtain ⟨al, has⟩ : ∃ l, A'[c]? = some l := ⟨_, List.getElem?_eq_getElem (by rw [HLen.out.1.1]; exact hlt)⟩
                obtain ⟨bl, hbs⟩ : ∃ l, B'[c]? = some l := ⟨_, List.getElem?_eq_getElem (by rw [HLen.out.2.1.1]; exact hlt)⟩
                obtain ⟨x1, hx1⟩ : ∃ x, x = fm P (pv al (k + 1) % P) := ⟨_, rfl⟩
                obtain ⟨y1, hy1⟩ : ∃ x, x = fm P (pv bl (k + 1) % P) := ⟨_, rfl⟩
                obtain ⟨zz, hzz⟩ : ∃ x, x = (x1 + y1) % P := ⟨_, rfl⟩
                have hcz : (payN P C' (k + 1))[c]? = some zz := by
                  rw [HC'.out, payN_get (linL_get has hbs), lin_pay, hzz, hx1, hy1]
                have FAd := Lib.hid (fun W => mod_add P x1 y1 HP12.out.2 (by rw [hx1]; exact fm_lt HP0.out _) (by rw [hy1]; exact fm_lt HP0.out _) W)
                rw [← hzz] at FAd
                obtain ⟨c0, c1', c2', c3'⟩ := HLe.out c zz hcz
                have z0 := hO.cell c0 (fun c => c)
                have z1 := hO.cell c1' (fun c => c)
                have z2 := hO.cell c2' (fun c => c)
                have z3 := hO.cell c3' (fun c => c)
                have hlz := World.block_lt_of_cell? wr _ z0
                obtain ⟨a0', a1', a2', a3'⟩ := HJe.out c x1 (by rw [payN_get has, hx1])
                obtain ⟨b0', b1', b2', b3'⟩ := HKe.out c y1 (by rw [payN_get hbs, hy1])
                obtain ⟨wa, hwa⟩ : ∃ wa, wa = wr.alloc (.cells #[.int .u64 (wd zz 0 : Int), .int .u64 (wd zz 1 : Int), .int .u64 (wd zz 2 : Int), .int .u64 (wd zz 3 : Int)] 66) := ⟨_, rfl⟩
                have hOa : Off (fun _ => False) wr wa := by rw [hwa]; exact (Off.refl _ wr).alloc _
                have hOb : Off (fun _ => False) W9 wa := hO.trans hOa (fun _ _ c => c)
                obtain ⟨g0, g1, g2, g3⟩ := cells4 (show wa.heap[wr.heap.size]? = some (.cells #[.int .u64 (wd zz 0 : Int), .int .u64 (wd zz 1 : Int), .int .u64 (wd zz 2 : Int), .int .u64 (wd zz 3 : Int)] 66 (0, 0)) by rw [hwa]; exact heap_new' rfl _)
                obtain ⟨m0, m1, m2, m3⟩ := cells4 (hOb.heap (HO9.out.heap HGM8.out (fun c => c)) (fun c => c))
                have x0' := hOb.cell a0' (fun c => c)
                have x1' := hOb.cell a1' (fun c => c)
                have x2' := hOb.cell a2' (fun c => c)
                have x3' := hOb.cell a3' (fun c => c)
                have y0' := hOb.cell b0' (fun c => c)
                have y1' := hOb.cell b1' (fun c => c)
                have y2' := hOb.cell b2' (fun c => c)
                have y3' := hOb.cell b3' (fun c => c)
                have j4' := hOb.cell HJ4.out (fun c => c)
                have k4' := hOb.cell HK4.out (fun c => c)
                have e1 := equal4 zz
                have HWa := Lib.hid hwa
                have HOb := Lib.hid hOb
                have HCb := Lib.hid (show c < 2 ∧ c + 1 ≤ 2 from ⟨hlt, hlt⟩)
                clear has hbs hx1 hy1 hzz hcz c0 c1' c2' c3' a0' a1' a2' a3' b0' b1' b2' b3' hwa hOa hOb hO hlt hc
                go_upto_region 30 with fail
                rw [← HWa.out]
                clear z0 z1 z2 z3 hlz
                refine wp_region_off (by kernel_rfl) (by kernel_rfl) (fun T _ g hg => ?_)
                have q0 := fun t => hg.cell g0 t
                have q1 := fun t => hg.cell g1 t
                have q2 := fun t => hg.cell g2 t
                have q3 := fun t => hg.cell g3 t
                have q4 := fun t => hg.cell m0 t
                have q5 := fun t => hg.cell m1 t
                have q6 := fun t => hg.cell m2 t
                have q7 := fun t => hg.cell m3 t
                have q8 := fun t => hg.cell x0' t
                have q9 := fun t => hg.cell x1' t
                have q10 := fun t => hg.cell x2' t
                have q11 := fun t => hg.cell x3' t
                have q12 := fun t => hg.cell y0' t
                have q13 := fun t => hg.cell y1' t
                have q14 := fun t => hg.cell y2' t
                have q15 := fun t => hg.cell y3' t
                have q16 := fun t => hg.cell j4' t
                have q17 := fun t => hg.cell k4' t
                have HGg := Lib.hid hg
                clear hg g0 g1 g2 g3 m0 m1 m2 m3 x0' x1' x2' x3' y0' y1' y2' y3' j4' k4'
                repeat (go_big_quiet_step (exact HGg.out.call (FAd.out _)))
                refine wpQuiet_nil ?_
                rintro wc ⟨t, rfl⟩
                have HOf := Lib.hid (HOb.out.trans (HGg.out.off t) (fun _ _ c => c))
                clear q0 q1 q2 q3 q4 q5 q6 q7 q8 q9 q10 q11 q12 q13 q14 q15 q16 q17
                go_wp2
                go_roundw
                case rel => exact ⟨c + 1, HCb.out.2, by simp, HOf.out⟩
                case measure => simp [intOf]; have := HCb.out; omega
              · obtain rfl : c = 2 := by omega
                have h22 : ¬ (2 : Int) < 2 := by omega
                have HOf := Lib.hid (HO9.out.trans hO (fun _ _ c => c))
                clear hO
                go_wp2
                go_roundw
                case rel => exact ⟨k + 1, HKb.out.2, by simp, HOf.out⟩
                case measure => simp [intOf]; have := HKb.out; omega
          · obtain rfl : k = 4 := by omega
            have h44 : ¬ (4 : Int) < 4 := by omega
            have HOf := Lib.hid (HO1.out.trans (HO8.out.trans hO (fun _ _ c => c)) (fun _ _ c => c))
            clear hO
            go_wp2_with fail
            refine (FAL.out _ (HT.out.off HOf.out)).mono ?_
            rintro e v7 ⟨rfl, hO⟩
            have HOg := Lib.hid (HOf.out.trans hO (fun _ _ c => c))
            clear hO
            go_wp2
            refine bodyPost_ret (results_tmp rfl _ _ _) rfl ?_
            exact ⟨rfl, HOg.out⟩

theorem door_met (os : Os) (args : Array Value) : laidMetH Tryd.prog [("sharecore/field.fields", Rows.laid_sharecore_field_fields)] ((World.doorLaid Tryd.prog 400 os).forCall (fun _ _ => 0) ⟨#[], args, []⟩).memory :=
  laidMetH_of_parts3 (fuel := 8) (laidMet_of_run' 8 (by kernel_rfl) (by kernel_rfl)) (by kernel_rfl) (by kernel_rfl)

set_option maxRecDepth 100000 in
theorem lifted (os : Os) (started : os.Started) (H : Type) (enc : TypeId × Value → H) :
    ReturnsInHanded {} Tryd.checked os 8 .any (fun w args => (Rows.dealIsLinearSpec.pre enc Tryd.prog Tryd.f8 [] false w args ∧ laidMetH Tryd.prog [("sharecore/field.fields", Rows.laid_sharecore_field_fields)] w) ∧ sizedMet enc Tryd.prog Tryd.f8 (OpenSpec.ofChange Rows.dealIsLinearSpec) false w args)
      (Rows.dealIsLinearSpec.post enc Tryd.prog Tryd.f8 false true false false) := by
  refine returnsInHanded_of_change_and (C := Tryd.checked) (X := fun w _ => laidMetH Tryd.prog [("sharecore/field.fields", Rows.laid_sharecore_field_fields)] w) (fun _ _ _ hh h => h.of_heap hh) own started (by kernel_rfl) Tryd.func8
    (ChangeSpec.witness_shaped (enc := enc) (C := Tryd.checked) (os := os) (X := fun w _ => laidMetH Tryd.prog [("sharecore/field.fields", Rows.laid_sharecore_field_fields)] w) false (World.doorLaid Tryd.prog 400 os) #[.bool false, .agg #[.int .u64 0, .int .u64 0, .int .u64 0, .int .u64 0, .int .u64 0, .int .u64 0, .int .u64 0, .int .u64 0, .int .u64 0, .int .u64 0, .int .u64 0, .int .u64 0, .int .u64 0, .int .u64 0, .int .u64 0, .int .u64 0, .int .u64 0, .int .u64 0, .int .u64 0, .int .u64 0, .int .u64 0, .int .u64 0, .int .u64 0, .int .u64 0], .agg #[.int .u64 0, .int .u64 0, .int .u64 0, .int .u64 0, .int .u64 0, .int .u64 0, .int .u64 0, .int .u64 0, .int .u64 0, .int .u64 0, .int .u64 0, .int .u64 0, .int .u64 0, .int .u64 0, .int .u64 0, .int .u64 0, .int .u64 0, .int .u64 0, .int .u64 0, .int .u64 0, .int .u64 0, .int .u64 0, .int .u64 0, .int .u64 0]] 8 rfl (World.shaped_of_RefB (by kernel_rfl) (by kernel_rfl)) (by kernel_rfl) (by kernel_rfl) (by kernel_rfl) (door_met os _)) ?_
  intro W base args ds gs before hval0 hW _ hsz hL _
  have hval : ∀ (j : Nat) t v, Tryd.f8.params[j]? = some t → args[j]? = some v → Value.okWide Tryd.prog W .any base t v := hval0
  have hW' := hW
  obtain ⟨p, q, hA0, hV, rfl, hfz, hnd⟩ := hW
  have hA : DataW.TrodAll enc Tryd.prog W 0 (fun _ => true) true Tryd.f8.params.toList args.toList ds p := hA0
  rw [Tryd.params8] at hA hval
  obtain ⟨v0, vs0, d0, ds0, p0, q0, hargs, rfl, rfl, h0, r0⟩ := trodAll_cons hA
  obtain ⟨v1, vs1, d1, ds1, p1, q1, rfl, rfl, rfl, h1, r1⟩ := trodAll_cons r0
  obtain ⟨v2, vs2, d2, ds2, p2, q2, rfl, rfl, rfl, h2, r2⟩ := trodAll_cons r1
  obtain ⟨rfl, rfl, rfl⟩ := trodAll_nil r2
  obtain rfl : args = #[v0, v1, v2] := by cases args; simp_all
  obtain ⟨rfl, rfl⟩ := trodVars_none hV
  obtain ⟨i0, rfl, rfl, rfl⟩ := open_bool Tryd.underlying4 (hval 0 4 v0 rfl rfl) h0
  have w0 := trivial
  have k1 := h1
  have lt1 : ∀ x ∈ p1, x.block < W.heap.size := by obtain ⟨m, hm⟩ := k1; exact DataW.trod_lt m _ _ _ hm
  obtain ⟨na1, nb1, nc1, nd1, ne1, nf1, w1, rfl⟩ := open_vec6 (hval 1 65 v1 rfl rfl) h1
  have k2 := h2
  have lt2 : ∀ x ∈ p2, x.block < W.heap.size := by obtain ⟨m, hm⟩ := k2; exact DataW.trod_lt m _ _ _ hm
  obtain ⟨na2, nb2, nc2, nd2, ne2, nf2, w2, rfl⟩ := open_vec6 (hval 2 65 v2 rfl rfl) h2
  have hT := tab_of_laid hL
  clear hA0 hval0
  refine (walk i0 na1 nb1 nc1 nd1 ne1 nf1 na2 nb2 nc2 nd2 ne2 nf2 W w0 w1 w2 hT).mono fun e W' ⟨he, hoff⟩ => ?_
  have bel : Below W.heap.size W W' := hoff.below (Nat.le_refl _) (fun _ _ c => c)
  subst he
  exact ⟨_, rfl, _, _, _, [], _, [], hW', trodAll_mk1 (shut_bool Tryd.underlying4 _), (trodAll_cons_mk (shut_bool Tryd.underlying4 _) (trodAll_cons_mk (Below.trod laidOut (by kernel_rfl) (of_decide_eq_true (by kernel_rfl)) k1 bel lt1) (trodAll_cons_mk (Below.trod laidOut (by kernel_rfl) (of_decide_eq_true (by kernel_rfl)) k2 bel lt2) trodAll_mk0))), rfl, bel.frame _, fun h => by cases h⟩

theorem over : Rows.dealIsLinearRow.holds Tryd.pinned (OpenSpec.ofChange Rows.dealIsLinearSpec) :=
  OpenClaim.holds_of_wide 8 Tryd.f8 rfl rfl rfl rfl rfl rfl rfl ⟨rfl, rfl, rfl, rfl, rfl⟩ rfl rfl rfl rfl rfl (by kernel_rfl) Tryd.func8 (by kernel_rfl)
    (of_decide_eq_true (by kernel_rfl)) (by unfold Func.isWrapper; first | (rw [if_pos (by decide +kernel)]; kernel_rfl) | (rw [if_neg (by decide +kernel)]; exact ⟨rfl, rfl⟩))
    (fun os started H enc _ => lifted os started H enc)

theorem proved : Rows.DealIsLinearCardSaid :=
  Claim7.holds_tied_plain_at .later [] [.data] true (true, "dc9d05a06bd05c20369e2833d9d45cce8227d62a1aa5c978d1cfbc5d369dc45f") false
    over (fun _ h => by cases h) (by kernel_rfl) (fun _ h => by cases h) dealIsLinear_row_tie rfl ⟨rfl, rfl⟩ (by kernel_rfl) rfl
    (fun f fn hf hfn => by
      obtain rfl : f = 8 := Option.some.inj ((show Tryd.prog.funcNamed "sharecore/sharecorelaw16.DealIsLinear" = some 8 by kernel_rfl).symm.trans hf) |>.symm
      obtain rfl : fn = Tryd.f8 := (Option.some.inj (Tryd.func8.symm.trans hfn)).symm
      exact ⟨by kernel_rfl, fun j t ht => by
        rw [Tryd.params8] at ht
        have hm : t ∈ [4, 65] := by simpa using Array.mem_of_getElem? ht
        have hall : ([4, 65].all fun u => !Tryd.prog.wantsStandIn u) = true := by kernel_rfl
        exact (show Tryd.prog.wantsStandIn t = false by simpa using List.all_eq_true.1 hall t hm)⟩)
    (by kernel_rfl)
#print axioms proved
end Go.Proofs.YtclehgconbdkpaaDoor.dealIsLinear
