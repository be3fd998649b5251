/-
  The reference of layer 15 over this seat's translation: CheckShares, Column, for lists of shares. Conditions: the shares lie in memory, their numbers are ints.
-/
import Derived.Test.YtmokaikofcbboaaDoorParList
import Derived.Test.YtmokaikofcbboaaDoorParRef
import Derived.Deep.QuietTactic
import Derived.BigQuiet
namespace Go.Proofs.YtmokaikofcbboaaDoor
open Go.RowKit
attribute [local go_sem ↓] Go.wp_at_zero Go.wp_at_succ
set_option maxRecDepth 100000
set_option maxHeartbeats 4000000
/-- The numbers of a share with the index 0. -/
theorem ShAt.zero {w : World} {b o : Nat} {s : Sh} {S : Nat → Prop} (h : ShAt w b (o + 0 * 5) s S) : ShAt w b o s S := by
  rw [show o + 0 * 5 = o by omega] at h; exact h
theorem Off.drewP {S : Nat → Prop} {a w : World} (h : Off S a w) (q : Nat) : Off S a (w.drewN q) := ⟨h.os, h.tape, h.output, h.size, h.block, h.others⟩
theorem ne_of_idx {l : List Sh} {m k : Nat} {s t : Sh} (hk : k < m) (hs : l[m]? = some s) (ht : l[k]? = some t) (e : s.ix = t.ix) : ¬ (ixs l).Nodup :=
  fun h => nodup_ix.1 h m k s t hk hs ht e
theorem refshares_any (l : List Sh) (a : Option Addr) (n cap : Nat) (hn : n = l.length) (S : Nat → Prop) (w : World) (h : ShsAt w (.slice a n cap) l S) :
    Calls Tryd.prog 18 #[.slice a n cap] w fun e w' => e = .returned (.int .i64 (shsN l : Int)) ∧ Off (fun _ => False) w w' := by
  obtain ⟨c, hc⟩ : ∃ c, c = shsN l := ⟨_, rfl⟩
  rw [← hc]
  have hmax : n ≤ maxLen := by
    obtain ⟨_, _, e, _, h1, _⟩ := h
    simp at e; omega
  unfold maxLen at hmax
  have HN := Lib.hid hn
  have HC := Lib.hid hc
  have HL := Lib.hid h
  clear hn hc h
  go_enter Tryd.func18, Tryd.ntmps18
  go_wp2_with fail
  go_loopw [3] (fun i wr => ∃ k : Nat, k ≤ n ∧ i = .int .i64 (k : Int) ∧ firstE (l.take k) = 0 ∧ Off (fun _ => False) w wr) (fun i _ => n - (intOf i).toNat)
  case atStart => exact ⟨0, Nat.zero_le _, rfl, rfl, Off.refl _ _⟩
  case round =>
    obtain ⟨k, hk, rfl, hr, hO⟩ := hrel
    by_cases hlt : k < n
    · have w2 : IntKind.i64.wrap ((k : Int) + 1) = (k : Int) + 1 := by rw [IntKind.wrap_i64]; omega
      obtain ⟨s, b, off, hx, hok, rfl, _, c0, c1, c2, c3, pa, pc, c4, hpc, hV⟩ := (HL.out.off hO (fun _ _ _ c => c)).at hlt
      have FC := Lib.hid (refshare_any s hok pa pc _ _ hV)
      obtain ⟨r, hr2⟩ : ∃ r, r = shN s := ⟨_, rfl⟩
      rw [← hr2] at FC
      unfold Sh.val at FC
      have HX := Lib.hid hx
      have HR := Lib.hid hr
      have HR2 := Lib.hid hr2
      have HO := Lib.hid hO
      have hkn : (k : Int) < (n : Int) := by omega
      obtain ⟨fd, th, ix, ln, pl⟩ := s
      dsimp only at FC c0 c1 c2 c3 c4
      clear hx hr hr2 hO hok hV hpc
      go_wp2_with fail
      refine FC.out.mono ?_
      rintro e u ⟨rfl, hO⟩
      have HO2 := Lib.hid (HO.out.trans hO (fun _ _ c => c))
      clear hO FC c0 c1 c2 c3 c4
      by_cases h0 : r = 0
      · have HF := Lib.hid ((firstE_cut HR.out HX.out).1.trans (HR2.out.symm.trans h0))
        subst h0
        go_wp2
        go_roundw
        case rel => exact ⟨k + 1, by omega, by simp, HF.out, HO2.out⟩
        case measure => simp [intOf]; omega
      · have HF := Lib.hid (show c = r by rw [HC.out, HR2.out]; exact shsN_err ((firstE_cut HR.out HX.out).2 (by rw [← HR2.out]; exact h0)) (by rw [← HR2.out]; exact h0))
        have hr0 : ¬ ((r : Int) = 0) := by omega
        go_wp2
        refine bodyPost_ret (results_tmp rfl _ _ _) rfl ?_
        exact ⟨by rw [HF.out]; rfl, HO2.out⟩
    · obtain rfl : n = k := by omega
      rw [List.take_of_length_le (by rw [← HN.out]; exact Nat.le_refl _)] at hr
      have HR0 := Lib.hid hr
      have HO := Lib.hid hO
      have hnn : ¬ (n : Int) < (n : Int) := by omega
      clear hr hO
      go_wp2
      go_loopw [5] (fun i wr => ∃ k : Nat, 1 ≤ k ∧ (k ≤ n ∨ n = 0) ∧ i = .int .i64 (k : Int) ∧ (∀ (j : Nat) (s t : Sh), j < k → l[j]? = some s → l[0]? = some t → SameH s t) ∧ Off (fun _ => False) w wr) (fun i _ => n - (intOf i).toNat)
      case atStart => exact ⟨1, Nat.le_refl _, by omega, rfl, (fun j s t hj hs ht => by obtain rfl : j = 0 := (by omega); rw [hs] at ht; cases ht; exact ⟨rfl, rfl, rfl⟩), HO.out⟩
      case round =>
        clear hnn
        obtain ⟨k, h1k, hk, rfl, hr, hO⟩ := hrel
        by_cases hlt : k < n
        · have w2 : IntKind.i64.wrap ((k : Int) + 1) = (k : Int) + 1 := by rw [IntKind.wrap_i64]; omega
          obtain ⟨s, b, off, hx, hok, rfl, _, c0, c1, c2, c3, pa, pc, c4, hpc, hV⟩ := (HL.out.off hO (fun _ _ _ c => c)).at hlt
          obtain ⟨t, b', off', hy, _, e', _, hz⟩ := (HL.out.off hO (fun _ _ _ c => c)).at (show 0 < n by omega)
          cases e'
          obtain ⟨z0, z1, z2, z3, _, _, z4, _, _⟩ := hz.zero
          have HX := Lib.hid hx
          have HY := Lib.hid hy
          have HR := Lib.hid hr
          have HO := Lib.hid hO
          have hkn : (k : Int) < (n : Int) := by omega
          have hn0 : 0 < n := by omega
          have hn0' : (0 : Int) < (n : Int) := by omega
          clear hx hy hr hO hok hV hpc hz h1k
          obtain ⟨fd, th, ix, ln, pl⟩ := s
          obtain ⟨fd', th', ix', ln', pl'⟩ := t
          dsimp only at c0 c1 c2 c3 c4 z0 z1 z2 z3 z4
          by_cases h1 : fd = fd'
          · have q1 : (fd != fd') = false := by simp [h1]
            by_cases h2 : th = th'
            · have q2 : (th != th') = false := by simp [h2]
              by_cases h3 : ln = ln'
              · have q3 : (ln != ln') = false := by simp [h3]
                have HS := Lib.hid (show SameH ⟨fd, th, ix, ln, pl⟩ ⟨fd', th', ix', ln', pl'⟩ from ⟨h1, h2, h3⟩)
                clear h1 h2 h3
                go_wp2
                go_quiet (fail)
                go_wp2
                go_roundw
                case rel => exact ⟨k + 1, by omega, by omega, by simp, (fun j s t hj hs ht => by
                  by_cases hjk : j < k
                  · exact HR.out j s t hjk hs ht
                  · obtain rfl : j = k := (by omega)
                    rw [HX.out] at hs; rw [HY.out] at ht; cases hs; cases ht; exact HS.out), HO.out.drewP _⟩
                case measure => simp [intOf]; omega
              · have q3 : (ln != ln') = true := by simp [h3]
                have HB := Lib.hid (show c = 14 by rw [HC.out]; exact shsN_mix HR0.out (fun h => h3 ((oneH_of HY.out).1 h _ _ HX.out).2.2))
                go_wp2
                go_quiet (fail)
                go_wp2
                refine bodyPost_ret (results_tmp rfl _ _ _) rfl ?_
                exact ⟨by rw [HB.out]; rfl, HO.out.drewP _⟩
            · have q2 : (th != th') = true := by simp [h2]
              have HB := Lib.hid (show c = 14 by rw [HC.out]; exact shsN_mix HR0.out (fun h => h2 ((oneH_of HY.out).1 h _ _ HX.out).2.1))
              go_wp2
              go_quiet (fail)
              go_wp2
              refine bodyPost_ret (results_tmp rfl _ _ _) rfl ?_
              exact ⟨by rw [HB.out]; rfl, HO.out.drewP _⟩
          · have q1 : (fd != fd') = true := by simp [h1]
            have HB := Lib.hid (show c = 14 by rw [HC.out]; exact shsN_mix HR0.out (fun h => h1 ((oneH_of HY.out).1 h _ _ HX.out).1))
            go_wp2
            go_quiet (fail)
            go_wp2
            refine bodyPost_ret (results_tmp rfl _ _ _) rfl ?_
            exact ⟨by rw [HB.out]; rfl, HO.out.drewP _⟩
        · have HH := Lib.hid (show OneH l by
            by_cases h0 : n = 0
            · have : l = [] := List.length_eq_zero_iff.1 (by rw [← HN.out]; exact h0)
              subst this
              exact fun _ h => by simp at h
            · obtain ⟨t, ht⟩ : ∃ t, l[0]? = some t := ⟨_, List.getElem?_eq_getElem (by rw [← HN.out]; omega)⟩
              exact (oneH_of ht).2 (fun j s hj => hr j s t (by have := (List.getElem?_eq_some_iff.1 hj).1; rw [← HN.out] at this; omega) hj ht))
          have HO := Lib.hid hO
          have hkn : ¬ (k : Int) < (n : Int) := by omega
          clear hr hO
          go_wp2
          go_loopw [6] (fun i wr => ∃ m : Nat, m ≤ n ∧ i = .int .i64 (m : Int) ∧ (∀ (j q : Nat) (s t : Sh), q < j → j < m → l[j]? = some s → l[q]? = some t → s.ix ≠ t.ix) ∧ Off (fun _ => False) w wr) (fun i _ => n - (intOf i).toNat)
          case atStart => exact ⟨0, Nat.zero_le _, rfl, (fun _ _ _ _ _ h => absurd h (Nat.not_lt_zero _)), HO.out⟩
          case round =>
            clear hkn hlt hk h1k
            obtain ⟨m, hm, rfl, hr, hO⟩ := hrel
            by_cases hlt : m < n
            · obtain ⟨s, b, off, hx, _, rfl, _, _⟩ := (HL.out.off hO (fun _ _ _ c => c)).at hlt
              have HX := Lib.hid hx
              have HR := Lib.hid hr
              have HO := Lib.hid hO
              have hmn : (m : Int) < (n : Int) := by omega
              have w2 : IntKind.i64.wrap ((m : Int) + 1) = (m : Int) + 1 := by rw [IntKind.wrap_i64]; omega
              clear hx hr hO
              go_wp2
              go_loopw [7] (fun i wr => ∃ q : Nat, q ≤ m ∧ i = .int .i64 (q : Int) ∧ (∀ (j : Nat) (t : Sh), j < q → l[j]? = some t → s.ix ≠ t.ix) ∧ Off (fun _ => False) w wr) (fun i _ => m - (intOf i).toNat)
              case atStart => exact ⟨0, Nat.zero_le _, rfl, (fun _ _ h => absurd h (Nat.not_lt_zero _)), HO.out⟩
              case round =>
                obtain ⟨q, hq, rfl, hno, hO⟩ := hrel
                by_cases hlt2 : q < m
                · obtain ⟨s', b', off', hx', _, e1, _, _, _, c2, _⟩ := (HL.out.off hO (fun _ _ _ c => c)).at hlt
                  obtain ⟨t, b2, off2, hy, _, e2, _, _, _, d2, _⟩ := (HL.out.off hO (fun _ _ _ c => c)).at (show q < n by omega)
                  rw [HX.out] at hx'
                  cases hx'
                  cases e1
                  cases e2
                  have HY := Lib.hid hy
                  have HNt := Lib.hid hno
                  have HO := Lib.hid hO
                  have hqm : (q : Int) < (m : Int) := by omega
                  have hqn : (q : Int) < (n : Int) := by omega
                  have w3 : IntKind.i64.wrap ((q : Int) + 1) = (q : Int) + 1 := by rw [IntKind.wrap_i64]; omega
                  obtain ⟨x, hx2⟩ : ∃ x, x = s.ix := ⟨_, rfl⟩
                  obtain ⟨y, hy2⟩ : ∃ y, y = t.ix := ⟨_, rfl⟩
                  rw [← hx2] at c2
                  rw [← hy2] at d2
                  have HX2 := Lib.hid hx2
                  have HY2 := Lib.hid hy2
                  clear hy hno hO hx2 hy2
                  by_cases h1 : x = y
                  · have HB := Lib.hid (show c = 15 by rw [HC.out]; exact shsN_dup HR0.out HH.out (ne_of_idx hlt2 HX.out HY.out (by rw [← HX2.out, ← HY2.out]; exact h1)))
                    have hxy : (x == y) = true := by simp [h1]
                    go_wp2
                    go_quiet (fail)
                    go_wp2
                    refine bodyPost_ret (results_tmp rfl _ _ _) rfl ?_
                    exact ⟨by rw [HB.out]; rfl, HO.out.drewP _⟩
                  · have hxy : (x == y) = false := by simp [h1]
                    have HNe := Lib.hid h1
                    clear h1
                    go_wp2
                    go_quiet (fail)
                    go_wp2
                    go_roundw
                    case rel => exact ⟨q + 1, by omega, by simp, (fun j t' hj ht => by
                      by_cases hjq : j < q
                      · exact HNt.out j t' hjq ht
                      · obtain rfl : j = q := (by omega)
                        rw [HY.out] at ht; cases ht; rw [← HX2.out, ← HY2.out]; exact HNe.out), HO.out.drewP _⟩
                    case measure => simp [intOf]; omega
                · obtain rfl : q = m := by omega
                  have HNt := Lib.hid hno
                  have HO := Lib.hid hO
                  have hqq : ¬ (q : Int) < (q : Int) := by omega
                  clear hno hO hlt2
                  go_wp2
                  go_roundw
                  case rel => exact ⟨q + 1, by omega, by simp, (fun j p s' t hp hj hs ht => by
                    by_cases hjq : j < q
                    · exact HR.out j p s' t hp hjq hs ht
                    · obtain rfl : j = q := (by omega)
                      rw [HX.out] at hs; cases hs; exact HNt.out p t hp ht), HO.out⟩
                  case measure => simp [intOf]; omega
            · obtain rfl : m = n := by omega
              have HD := Lib.hid (show (ixs l).Nodup from nodup_ix.2 (fun j q s t hq hj ht => hr j q s t hq (by have := (List.getElem?_eq_some_iff.1 hj).1; rw [← HN.out] at this; exact this) hj ht))
              have HO := Lib.hid hO
              have hmm : ¬ (m : Int) < (m : Int) := by omega
              by_cases h0 : m = 0
              · have HB := Lib.hid (show c = 16 by
                  have : l = [] := List.length_eq_zero_iff.1 (by rw [← HN.out]; exact h0)
                  rw [HC.out, this]; exact shsN_nil)
                subst h0
                have q0 : decide ((0 : Int) = 0) = true := rfl
                clear hr hO
                go_wp2
                refine bodyPost_ret (results_tmp rfl _ _ _) rfl ?_
                exact ⟨by rw [HB.out]; rfl, HO.out⟩
              · obtain ⟨t, b, off, hy, _, rfl, _, hz⟩ := (HL.out.off hO (fun _ _ _ c => c)).at (show 0 < m by omega)
                obtain ⟨z0, z1, z2, z3, _, _, z4, _, _⟩ := hz.zero
                have HB := Lib.hid (show c = if (m : Int) < t.th then 16 else 0 by rw [HC.out, HN.out]; exact shsN_end HR0.out HH.out HD.out hy)
                obtain ⟨fd, th, ix, ln, pl⟩ := t
                dsimp only at z0 z1 z2 z3 z4 HB
                have q0 : decide ((m : Int) = 0) = false := decide_eq_false (by omega)
                have hp0 : (0 : Int) < (m : Int) := by omega
                clear hr hO hy hz h0
                by_cases hth : (m : Int) < th
                · have q1 : decide ((m : Int) < th) = true := decide_eq_true hth
                  rw [if_pos hth] at HB
                  go_wp2
                  refine bodyPost_ret (results_tmp rfl _ _ _) rfl ?_
                  exact ⟨by rw [HB.out]; rfl, HO.out⟩
                · have q1 : decide ((m : Int) < th) = false := decide_eq_false hth
                  rw [if_neg hth] at HB
                  go_wp2
                  refine bodyPost_ret (results_tmp rfl _ _ _) rfl ?_
                  exact ⟨by rw [HB.out]; rfl, HO.out⟩
theorem own_offB {w w' : World} {base size n bx : Nat} {T : TypeId} {v : Value} {xs : List Value} (h : w.ownsRow base T size v n xs) (ho : Off (fun j => j = bx) w w') (hd : ∀ g, v.ownBlock = some g → g ≠ bx) : w'.ownsRow base T size v n xs := by
  obtain ⟨hl, h⟩ := h
  refine ⟨hl, ?_⟩
  rcases h with hn | ⟨g, cap, cur, rfl, hb, hg, r⟩
  · exact .inl hn
  · exact .inr ⟨g, cap, cur, rfl, hb, ho.heap hg (hd g (by simp [Value.ownBlock])), r⟩
theorem refcolumn_any (l : List Sh) (a : Option Addr) (n cap : Nat) (hn : n = l.length) (hl : n ≤ 100000) (c : Int) (S : Nat → Prop) (w : World) (h : ShsAt w (.slice a n cap) l S) :
    Calls Tryd.prog 20 #[.slice a n cap, .int .i64 c] w fun e w' => ∃ a2 c2, e = .returned (.slice a2 n c2) ∧ w'.ownsRow w.heap.size 45 4 (.slice a2 n c2) n (flat4 (colN l c)) ∧ Off (fun _ => False) w w' := by
  obtain ⟨j0, hj, hj0, hj1, hj2⟩ := info_parts vec_info
  have HN := Lib.hid hn
  have HL := Lib.hid h
  clear hn h
  go_enter Tryd.func20, Tryd.ntmps20
  go_wp2
  go_loopw [5, 6] (fun v i wr => ∃ k : Nat, k ≤ n ∧ i = .int .i64 (k : Int) ∧ (∃ a c2, v = .slice a k c2 ∧ wr.ownsRow w.heap.size 45 4 v k (flat4 (colN (l.take k) c))) ∧ Off (fun _ => False) w wr) (fun _ i _ => n - (intOf i).toNat)
  case atStart => exact ⟨0, Nat.zero_le _, rfl, ⟨none, 0, rfl, World.ownsRow_nil _ _ _ _⟩, Off.refl _ w⟩
  case round =>
    obtain ⟨k, hk, rfl, ⟨va, vc, rfl, hov⟩, hO⟩ := hrel
    by_cases hlt : k < n
    · obtain ⟨s, b, off, hx, hok, rfl, _, c0, c1, c2, c3, pa, pc, c4, hpc, hV⟩ := (HL.out.off hO (fun _ _ _ c => c)).at hlt
      have HX := Lib.hid hx
      have HKb := Lib.hid (show k + 1 ≤ 100000 ∧ k < n from ⟨by omega, hlt⟩)
      have HO := Lib.hid hO
      have HOv := Lib.hid hov
      have HV := Lib.hid hV
      have hlb : b < wr.heap.size := World.block_lt_of_cell? wr _ c0
      have hkn : (k : Int) < (n : Int) := by omega
      obtain ⟨m, hm⟩ : ∃ m, m = s.pl.length := ⟨_, rfl⟩
      rw [← hm] at c4
      have HM := Lib.hid hm
      obtain ⟨W1, hW1⟩ : ∃ W1, W1 = wr.alloc (.cells #[.int .u64 0, .int .u64 0, .int .u64 0, .int .u64 0] 45) := ⟨_, rfl⟩
      have HO1 := Lib.hid (show Off (fun _ => False) w W1 by rw [hW1]; exact hO.alloc _)
      have HOw := Lib.hid (show Off (fun _ => False) wr W1 by rw [hW1]; exact (Off.refl _ wr).alloc _)
      have HOv1 := Lib.hid (show W1.ownsRow w.heap.size 45 4 (.slice va k vc) k (flat4 (colN (l.take k) c)) by rw [hW1]; exact hov.alloc _)
      have HG1 := Lib.hid (show W1.heap[wr.heap.size]? = some (.cells #[.int .u64 0, .int .u64 0, .int .u64 0, .int .u64 0] 45 (0, 0)) by rw [hW1]; exact heap_new' rfl _)
      have hsz : W1.heap.size = wr.heap.size + 1 := by rw [hW1]; simp
      have HS1 := Lib.hid hsz
      have HW1 := Lib.hid hW1
      have HO0 := Lib.hid hO.size
      have HVa := Lib.hid (show ∀ g, (Value.slice va k vc).ownBlock = some g → g ≠ wr.heap.size from fun g hg e => by have := World.ownsRow.lt hov g hg; omega)
      clear hk hov hO hx hok hV hpc hm hW1 hsz
      by_cases hc0 : c < 0
      · have HXv := Lib.hid (show (if 0 ≤ c then s.pl.getD c.toNat 0 else 0) = 0 from if_neg (by omega))
        have i0 : decide (0 ≤ c) = false := decide_eq_false (by omega)
        have HFl := Lib.hid (show flat4 (colN (l.take k) (c)) ++ words4 0 = flat4 (colN (l.take (k + 1)) (c)) by
          rw [List.take_add_one, HX.out]
          unfold colN
          rw [List.map_append, flat4_append]
          show _ = _ ++ flat4 [if 0 ≤ (c) then s.pl.getD (c).toNat 0 else 0]
          rw [HXv.out]
          rfl)
        obtain ⟨x, hx0⟩ : ∃ x : Nat, x = 0 := ⟨_, rfl⟩
        rw [← hx0] at HFl
        have HGx := Lib.hid (show W1.heap[wr.heap.size]? = some (.cells #[.int .u64 (wd x 0 : Int), .int .u64 (wd x 1 : Int), .int .u64 (wd x 2 : Int), .int .u64 (wd x 3 : Int)] 45 (0, 0)) by rw [hx0]; exact HG1.out)
        clear HXv hx0 HG1
        have c4' := HOw.out.cell c4 (fun c => c)
        have hlb2 : b < wr.heap.size + 1 := by omega
        go_upto_region 6 with fail
        rw [← HW1.out]
        go_upto_region 8 with fail
        clear c4 c4'
        obtain ⟨p0, p1, p2, p3⟩ := cells4 HGx.out
        have lt := heap_lt HGx.out
        go_wp2_with (at_builtin; refine wpList_append_own _ rfl _ _ 40 rfl w.heap.size 45 j0 _ 4 32 Tryd.underlying40 hj hj0 hj1 hj2 rfl (by decide) _ k _ rfl (HOv1.out.alloc _) ⟨W1.heap.size, 0, none⟩ 1 1 (words4 x) rfl rfl ?aq1 (words4_one _) ?aq2 ?aq3 ?aq4 ?_)
        case aq1 => exact words4_at (heap_new' rfl _)
        case aq2 => have := HKb.out; unfold maxLen; omega
        case aq3 => have := HKb.out; omega
        case aq4 => have := HO1.out.size; simp; omega
        intro v' w1 hown' hgrow hnil
        obtain ⟨g6, c6, rfl⟩ := ownsRow_succ hown'
        have hO3 : Off (fun _ => False) w w1 := grown_off (HO1.out.alloc _) (Nat.le_refl _) (HOv1.out.alloc _) hgrow
        rw [HFl.out] at hown'
        have w2 : IntKind.i64.wrap ((k : Int) + 1) = (k : Int) + 1 := by rw [IntKind.wrap_i64]; have := HKb.out; omega
        go_wp2
        go_roundw
        case rel => exact ⟨k + 1, by have := HKb.out; omega, by simp, ⟨_, _, rfl, hown'⟩, hO3⟩
        case measure => simp [intOf]; omega
      · obtain ⟨q, rfl⟩ : ∃ q : Nat, c = (q : Int) := Int.eq_ofNat_of_zero_le (by omega)
        have i0 : decide ((0 : Int) ≤ (q : Int)) = true := decide_eq_true (by omega)
        by_cases hqm : q < m
        · have hx2 : ∃ x, s.pl[q]? = some x := ⟨_, List.getElem?_eq_getElem (by rw [← HM.out]; omega)⟩
          obtain ⟨x, hx2⟩ := hx2
          have HXv := Lib.hid (show (if 0 ≤ (q : Int) then s.pl.getD (q : Int).toNat 0 else 0) = x by
            rw [if_pos (by omega), Int.toNat_natCast, List.getD_eq_getElem?_getD, hx2]; rfl)
          have i2 : decide ((q : Int) < (m : Int)) = true := decide_eq_true (by omega)
          have i3 : (q : Int) < (m : Int) := by omega
          have hv := (HV.out.off HOw.out (fun _ _ _ c => c))
          rw [← HM.out] at hv
          obtain ⟨eb, eo, rfl, _, e0, e1, e2, e3⟩ := hv.get hx2
          have hleb : eb < W1.heap.size := World.block_lt_of_cell? W1 _ e0
          have HFl := Lib.hid (show flat4 (colN (l.take k) (q : Int)) ++ words4 x = flat4 (colN (l.take (k + 1)) (q : Int)) by
            rw [List.take_add_one, HX.out]
            unfold colN
            rw [List.map_append, flat4_append]
            show _ = _ ++ flat4 [if 0 ≤ (q : Int) then s.pl.getD (q : Int).toNat 0 else 0]
            rw [HXv.out]
            rfl)
          clear HXv hx2 hv
          have c4' := HOw.out.cell c4 (fun c => c)
          obtain ⟨⟨m0, m1, m2, m3⟩, fz, lt⟩ := zero_cells HG1.out
          have hlb2 : b < W1.heap.size := by rw [HS1.out]; omega
          go_upto_region 6 with fail
          rw [← HW1.out]
          go_upto_region 8 with fail
          obtain ⟨W2, hW2⟩ : ∃ W2, W2 = (((W1.setCell ⟨wr.heap.size, 0, none⟩ (.int .u64 (wd x 0 : Int))).setCell ⟨wr.heap.size, 1, none⟩ (.int .u64 (wd x 1 : Int))).setCell ⟨wr.heap.size, 2, none⟩ (.int .u64 (wd x 2 : Int))).setCell ⟨wr.heap.size, 3, none⟩ (.int .u64 (wd x 3 : Int)) := ⟨_, rfl⟩
          rw [← hW2]
          have HGx := Lib.hid (show W2.heap[wr.heap.size]? = some (.cells #[.int .u64 (wd x 0 : Int), .int .u64 (wd x 1 : Int), .int .u64 (wd x 2 : Int), .int .u64 (wd x 3 : Int)] 45 (0, 0)) by rw [hW2]; exact setCells_at (vs := words4 x) HG1.out rfl)
          have hOb : Off (fun j => j = wr.heap.size) W1 W2 := by rw [hW2]; exact setCells_off wr.heap.size (words4 x) 0 W1
          have hO2 : Off (fun _ => False) w W2 := by rw [hW2]; exact off4 HO1.out HO0.out _ _ _ _
          have HOv2 := Lib.hid (own_offB HOv1.out hOb HVa.out)
          have HO2 := Lib.hid hO2
          clear m0 m1 m2 m3 fz lt e0 e1 e2 e3 hleb hW2 hO2 hOb c4 c4' HG1
          obtain ⟨p0, p1, p2, p3⟩ := cells4 HGx.out
          have lt := heap_lt HGx.out
          go_wp2_with (at_builtin; refine wpList_append_own _ rfl _ _ 40 rfl w.heap.size 45 j0 _ 4 32 Tryd.underlying40 hj hj0 hj1 hj2 rfl (by decide) _ k _ rfl (HOv2.out.alloc _) ⟨W2.heap.size, 0, none⟩ 1 1 (words4 x) rfl rfl ?bq1 (words4_one _) ?bq2 ?bq3 ?bq4 ?_)
          case bq2 => have := HKb.out; unfold maxLen; omega
          case bq3 => have := HKb.out; omega
          case bq4 => have := HO2.out.size; simp; omega
          intro v' w1 hown' hgrow hnil
          obtain ⟨g6, c6, rfl⟩ := ownsRow_succ hown'
          have hO3 : Off (fun _ => False) w w1 := grown_off (HO2.out.alloc _) (Nat.le_refl _) (HOv2.out.alloc _) hgrow
          rw [HFl.out] at hown'
          have w2 : IntKind.i64.wrap ((k : Int) + 1) = (k : Int) + 1 := by rw [IntKind.wrap_i64]; have := HKb.out; omega
          go_wp2
          go_roundw
          case rel => exact ⟨k + 1, by have := HKb.out; omega, by simp, ⟨_, _, rfl, hown'⟩, hO3⟩
          case measure => simp [intOf]; omega
        · have HXv := Lib.hid (show (if 0 ≤ (q : Int) then s.pl.getD (q : Int).toNat 0 else 0) = 0 by
            rw [if_pos (by omega), Int.toNat_natCast, List.getD_eq_getElem?_getD, List.getElem?_eq_none (by rw [← HM.out]; omega)]; rfl)
          have i2 : decide ((q : Int) < (m : Int)) = false := decide_eq_false (by omega)
          have HFl := Lib.hid (show flat4 (colN (l.take k) (q : Int)) ++ words4 0 = flat4 (colN (l.take (k + 1)) (q : Int)) by
            rw [List.take_add_one, HX.out]
            unfold colN
            rw [List.map_append, flat4_append]
            show _ = _ ++ flat4 [if 0 ≤ (q : Int) then s.pl.getD (q : Int).toNat 0 else 0]
            rw [HXv.out]
            rfl)
          obtain ⟨x, hx0⟩ : ∃ x : Nat, x = 0 := ⟨_, rfl⟩
          rw [← hx0] at HFl
          have HGx := Lib.hid (show W1.heap[wr.heap.size]? = some (.cells #[.int .u64 (wd x 0 : Int), .int .u64 (wd x 1 : Int), .int .u64 (wd x 2 : Int), .int .u64 (wd x 3 : Int)] 45 (0, 0)) by rw [hx0]; exact HG1.out)
          clear HXv hx0 HG1
          have c4' := HOw.out.cell c4 (fun c => c)
          have hlb2 : b < wr.heap.size + 1 := by omega
          go_upto_region 6 with fail
          rw [← HW1.out]
          go_upto_region 8 with fail
          clear c4 c4'
          obtain ⟨p0, p1, p2, p3⟩ := cells4 HGx.out
          have lt := heap_lt HGx.out
          go_wp2_with (at_builtin; refine wpList_append_own _ rfl _ _ 40 rfl w.heap.size 45 j0 _ 4 32 Tryd.underlying40 hj hj0 hj1 hj2 rfl (by decide) _ k _ rfl (HOv1.out.alloc _) ⟨W1.heap.size, 0, none⟩ 1 1 (words4 x) rfl rfl ?cq1 (words4_one _) ?cq2 ?cq3 ?cq4 ?_)
          case cq2 => have := HKb.out; unfold maxLen; omega
          case cq3 => have := HKb.out; omega
          case cq4 => have := HO1.out.size; simp; omega
          intro v' w1 hown' hgrow hnil
          obtain ⟨g6, c6, rfl⟩ := ownsRow_succ hown'
          have hO3 : Off (fun _ => False) w w1 := grown_off (HO1.out.alloc _) (Nat.le_refl _) (HOv1.out.alloc _) hgrow
          rw [HFl.out] at hown'
          have w2 : IntKind.i64.wrap ((k : Int) + 1) = (k : Int) + 1 := by rw [IntKind.wrap_i64]; have := HKb.out; omega
          go_wp2
          go_roundw
          case rel => exact ⟨k + 1, by have := HKb.out; omega, by simp, ⟨_, _, rfl, hown'⟩, hO3⟩
          case measure => simp [intOf]; omega
    · obtain rfl : n = k := by omega
      have i1 : ¬ (n : Int) < (n : Int) := by omega
      rw [List.take_of_length_le (by rw [← HN.out]; exact Nat.le_refl _)] at hov
      have HOv := Lib.hid hov
      have HO := Lib.hid hO
      clear hov hO
      go_wp2
      exact bodyPost_ret (v := .slice va n vc) (by simp [results, Tryd.results20, go_sem]) rfl ⟨_, _, rfl, HOv.out, HO.out⟩
end Go.Proofs.YtmokaikofcbboaaDoor
