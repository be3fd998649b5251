/-
  The statements' own Large over this seat's translation. Condition: the shares lie in memory.
-/
import Derived.Test.YtmokaikofcbboaaDoorParList
import Derived.Deep.QuietTactic
import Derived.BigQuiet
namespace Go.Proofs.YtmokaikofcbboaaDoor
open Go.RowKit
attribute [local go_sem ↓] Go.wp_at_zero Go.wp_at_succ
set_option maxRecDepth 100000
set_option maxHeartbeats 4000000
def totN (l : List Sh) : Nat := (l.map fun s => 1 + min s.pl.length 5000).sum
theorem totN_snoc (l : List Sh) (s : Sh) : totN (l ++ [s]) = totN l + (1 + min s.pl.length 5000) := by simp [totN]
theorem totN_le (l t : List Sh) : totN l ≤ totN (l ++ t) := by simp [totN]
theorem totN_mem {l : List Sh} {s : Sh} (h : s ∈ l) : 1 + min s.pl.length 5000 ≤ totN l := by
  obtain ⟨a, b, rfl⟩ := List.append_of_mem h
  simp [totN]
  omega
def lrgN (l : List Sh) : Nat := if 300 < l.length ∨ 5000 < totN l then 1 else 0
theorem lrg_zero {l : List Sh} (h : lrgN l = 0) : l.length ≤ 300 ∧ ∀ s ∈ l, s.pl.length ≤ 5000 := by
  unfold lrgN at h
  have hn : ¬ (300 < l.length ∨ 5000 < totN l) := fun c => by rw [if_pos c] at h; exact absurd h (by decide)
  refine ⟨by omega, fun s hs => ?_⟩
  have := totN_mem hs
  omega
theorem lrg_cases (l : List Sh) : lrgN l = 0 ∨ lrgN l = 1 := by unfold lrgN; split <;> simp
theorem large_any (l : List Sh) (a : Option Addr) (n cap : Nat) (hn : n = l.length) (S : Nat → Prop) (w : World) (h : ShsAt w (.slice a n cap) l S) :
    Calls Tryd.prog 14 #[.slice a n cap] w fun e w' => e = .returned (.int .i64 (lrgN l : Int)) ∧ Off (fun _ => False) w w' := by
  obtain ⟨c, hc⟩ : ∃ c, c = lrgN l := ⟨_, rfl⟩
  rw [← hc]
  have hmax : n ≤ maxLen := by
    obtain ⟨_, _, e, _, h1, _⟩ := h
    simp at e; omega
  unfold maxLen at hmax
  have HN := Lib.hid hn
  have HC := Lib.hid hc
  have HL := Lib.hid h
  clear hn hc h
  go_enter Tryd.func14, Tryd.ntmps14
  go_wp2_with fail
  go_loopw [3, 8] (fun t i wr => ∃ k : Nat, k ≤ n ∧ i = .int .i64 (k : Int) ∧ t = .int .i64 (totN (l.take k) : Int) ∧ totN (l.take k) ≤ 5000 ∧ (0 < k → n ≤ 300) ∧ Off (fun _ => False) w wr) (fun _ i _ => n - (intOf i).toNat)
  case atStart => exact ⟨0, Nat.zero_le _, rfl, rfl, Nat.zero_le _, (fun h => absurd h (Nat.lt_irrefl _)), Off.refl _ _⟩
  case round =>
    obtain ⟨k, hk, rfl, rfl, ht, h3, hO⟩ := hrel
    by_cases hlt : k < n
    · obtain ⟨s, b, off, hx, hok, rfl, _, c0, c1, c2, c3, pa, pc, c4, hpc, hV⟩ := (HL.out.off hO (fun _ _ _ c => c)).at hlt
      have hlb : b < wr.heap.size := World.block_lt_of_cell? wr _ c0
      have HS := Lib.hid (show totN (l.take (k + 1)) = totN (l.take k) + (1 + min s.pl.length 5000) by rw [List.take_add_one, hx]; exact totN_snoc _ _)
      have HT := Lib.hid (show totN (l.take (k + 1)) ≤ totN l by have := totN_le (l.take (k + 1)) (l.drop (k + 1)); rwa [List.take_append_drop] at this)
      obtain ⟨t0, ht0⟩ : ∃ t0, t0 = totN (l.take k) := ⟨_, rfl⟩
      obtain ⟨t1, ht1⟩ : ∃ t1, t1 = totN (l.take (k + 1)) := ⟨_, rfl⟩
      obtain ⟨m, hm⟩ : ∃ m, m = s.pl.length := ⟨_, rfl⟩
      obtain ⟨q, hq⟩ : ∃ q, q = min m 5000 := ⟨_, rfl⟩
      rw [← ht0] at ht ⊢
      rw [← ht1, ← ht0, ← hm, ← hq] at HS
      rw [← ht1] at HT
      rw [← hm] at c4
      have mn : min (m : Int) 5000 = (q : Int) := by omega
      have hq5 : q ≤ 5000 := by omega
      have w1 : IntKind.i64.wrap (1 + (q : Int)) = 1 + (q : Int) := by rw [IntKind.wrap_i64]; omega
      have w2 : IntKind.i64.wrap ((t0 : Int) + (1 + (q : Int))) = (t1 : Int) := by rw [IntKind.wrap_i64, HS.out]; omega
      have w3 : IntKind.i64.wrap ((k : Int) + 1) = (k : Int) + 1 := by rw [IntKind.wrap_i64]; omega
      have hkn : (k : Int) < (n : Int) := by omega
      have HO := Lib.hid hO
      have HT1 := Lib.hid ht1
      obtain ⟨fd, th, ix, ln, pl⟩ := s
      dsimp only at c0 c1 c2 c3 c4
      clear hk hx hok hV hpc hm hq ht0 ht1 hO h3
      by_cases hbig : 5000 < t1
      · have HB := Lib.hid (show c = 1 by rw [HC.out]; unfold lrgN; exact if_pos (.inr (Nat.lt_of_lt_of_le hbig HT.out)))
        have b1 : decide ((5000 : Int) < (t1 : Int)) = true := decide_eq_true (by omega)
        go_wp2
        refine bodyPost_ret (results_tmp rfl _ _ _) rfl ?_
        exact ⟨by rw [HB.out]; rfl, HO.out.alloc _⟩
      · have b1 : decide ((5000 : Int) < (t1 : Int)) = false := decide_eq_false (by omega)
        by_cases hmany : 300 < n
        · have HB := Lib.hid (show c = 1 by rw [HC.out]; unfold lrgN; exact if_pos (.inl (HN.out ▸ hmany)))
          have b2 : decide ((300 : Int) < (n : Int)) = true := decide_eq_true (by omega)
          go_wp2
          refine bodyPost_ret (results_tmp rfl _ _ _) rfl ?_
          exact ⟨by rw [HB.out]; rfl, HO.out.alloc _⟩
        · have b2 : decide ((300 : Int) < (n : Int)) = false := decide_eq_false (by omega)
          go_wp2
          go_roundw
          case rel => exact ⟨k + 1, by omega, by simp, by rw [HT1.out], by rw [← HT1.out]; omega, fun _ => by omega, HO.out.alloc _⟩
          case measure => simp [intOf]; omega
    · obtain rfl : n = k := by omega
      rw [List.take_of_length_le (by rw [← HN.out]; exact Nat.le_refl _)] at ht ⊢
      have HB := Lib.hid (show c = 0 by
        rw [HC.out]; unfold lrgN
        refine if_neg (fun h => ?_)
        rcases h with h | h
        · rw [← HN.out] at h; have := h3 (by omega); omega
        · omega)
      have hnn : ¬ (n : Int) < (n : Int) := by omega
      have HO := Lib.hid hO
      obtain ⟨t0, ht0⟩ : ∃ t0, t0 = totN l := ⟨_, rfl⟩
      rw [← ht0]
      clear ht h3 hO ht0
      go_wp2
      refine bodyPost_ret (results_tmp rfl _ _ _) rfl ?_
      exact ⟨by rw [HB.out]; rfl, HO.out⟩
end Go.Proofs.YtmokaikofcbboaaDoor
