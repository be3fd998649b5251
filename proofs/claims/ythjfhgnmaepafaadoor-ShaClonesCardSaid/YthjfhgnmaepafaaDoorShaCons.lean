/-
  The contract of the reference's constants over this seat's translation: the roots of the first primes. Condition: the number of them is that of the hash (64 cube roots, 8 square roots).
-/
import Derived.Test.YthjfhgnmaepafaaDoorShaRow
namespace Go.Proofs.YthjfhgnmaepafaaDoor
open Go.RowKit
set_option maxRecDepth 100000
set_option maxHeartbeats 4000000
/-- The roots of the primes below k. -/
def consL (cube : Bool) (k : Nat) : List Nat := consF cube (k - 2) 2
theorem consF_next (cube : Bool) : ∀ f k, consF cube (f + 1) k = consF cube f k ++ if isPr (k + f) then [rootN (k + f) cube] else []
  | 0, k => by unfold consF; simp [consF]
  | f + 1, k => by
    rw [consF, consF_next cube f (k + 1), consF]
    rw [show k + 1 + f = k + (f + 1) by omega]
    split <;> simp
theorem consL_next (cube : Bool) {k : Nat} (hk : 2 ≤ k) : consL cube (k + 1) = consL cube k ++ if isPr k then [rootN k cube] else [] := by
  unfold consL
  rw [show k + 1 - 2 = (k - 2) + 1 by omega, consF_next, show 2 + (k - 2) = k by omega]
theorem consL_mono (cube : Bool) {j k : Nat} (hj : 2 ≤ j) (h : j ≤ k) : (consL cube j).length ≤ (consL cube k).length := by
  induction k with
  | zero => omega
  | succ k ih =>
    rcases Nat.lt_or_eq_of_le h with h1 | h1
    · have := ih (by omega)
      rw [consL_next cube (by omega), List.length_append]
      omega
    · subst h1; exact Nat.le_refl _
theorem consL_kL : consL true 312 = kL := kL_roots
theorem consL_hV : consL false 20 = hV.list := hV_roots
theorem consL_kL' : (consL true 311).length = 63 := by decide +kernel
theorem consL_hV' : (consL false 19).length = 7 := by decide +kernel
/-- .. as many as asked for: n, the last of them the root of the prime m. -/
theorem constants_any (cube : Bool) (n m : Nat) (hm : m ≤ 1000) (h2 : 2 ≤ m) (hl : (consL cube m).length = n - 1) (hn : (consL cube (m + 1)).length = n) (hn0 : 0 < n) (hn1 : n ≤ 1000) (w : World) :
    Calls Tryd.prog 20 #[.int .i64 (n : Int), .bool cube] w fun e w' => ∃ v, e = .returned v ∧ RowW w.heap.size w' v (consL cube (m + 1)) ∧ Off (fun _ => False) w w' := by
  have hP := isprime_any
  have hR := root_any
  have HM := Lib.hid (fun k (hk : 2 ≤ k) => consL_mono cube (j := k) (k := m) hk)
  have HM2 := Lib.hid (fun k (hk : m + 1 ≤ k) => consL_mono cube (j := m + 1) (k := k) (by omega) hk)
  have HN := Lib.hid (fun k (hk : 2 ≤ k) => consL_next cube (k := k) hk)
  have HL := Lib.hid hl
  have HN0 := Lib.hid hn
  clear hl hn
  go_enter Tryd.func20, Tryd.ntmps20
  go_wp2
  go_loopw [5, 6] (fun v k wr => ∃ q : Nat, 2 ≤ q ∧ q ≤ m + 1 ∧ k = .int .u64 (q : Int) ∧ RowW w.heap.size wr v (consL cube q) ∧ Off (fun _ => False) w wr) (fun _ k _ => m + 2 - (intOf k).toNat)
  case atStart => exact ⟨2, by omega, by omega, rfl, RowT.nil _, Off.refl _ w⟩
  case round =>
    obtain ⟨q, hq2, hqm, rfl, hRow, hO⟩ := hrel
    obtain ⟨a, cap, rfl, hcap⟩ := hRow.shape
    obtain ⟨c, hc⟩ : ∃ c, c = (consL cube q).length := ⟨_, rfl⟩
    rw [← hc] at hRow hcap ⊢
    by_cases hlt : q = m + 1
    · subst hlt
      have hcn : c = n := hc.trans HN0.out
      have i0 : ¬ c < n := by omega
      have i1 : decide ((c : Int) < (n : Int)) = false := by simp; omega
      have HR1 := Lib.hid hRow
      have HO1 := Lib.hid hO
      clear hRow hO hP hR
      go_wp2
      go_ret
      exact ⟨_, rfl, HR1.out, HO1.out⟩
    · have hle := HM.out q hq2 (by omega)
      have := HL.out
      have i0 : c < n := by omega
      have i1 : decide ((c : Int) < (n : Int)) = true := by simp; omega
      have i2 : IntKind.u64.wrap ((q : Int) + 1) = (q : Int) + 1 := by rw [IntKind.wrap_u64]; omega
      have hPq := hP q (by omega) wr
      have hnx := HN.out q hq2
      cases hp : isPr q with
      | false =>
        rw [hp] at hPq hnx
        rw [if_neg (by decide), List.append_nil] at hnx
        have HR1 := Lib.hid (show RowW w.heap.size wr _ (consL cube (q + 1)) from hnx ▸ hRow)
        have HO1 := Lib.hid hO
        clear hRow hO hP hR hnx hle hc
        go_wp2_with first | (go_at_call 25; refine hPq.mono ?_; rintro e w' ⟨rfl, rfl⟩) | fail
        go_roundw
        case rel => exact ⟨q + 1, by omega, by omega, by simp, HR1.out, HO1.out⟩
        case measure => simp [intOf] <;> omega
      | true =>
        rw [hp] at hPq hnx
        rw [if_pos rfl] at hnx
        have hRq := hR q cube (by omega) wr
        have hcL : (consL cube q).length ≤ 1000 := by omega
        obtain ⟨x, hx⟩ : ∃ x, x = rootN q cube := ⟨_, rfl⟩
        rw [← hx] at hRq hnx
        obtain ⟨v', w1, hr1, r1, o1⟩ := app_word (hO.alloc (.cells #[u32v x] 42)) (World.ownsRow.alloc hRow _) (by omega) ⟨wr.heap.size, 0, none⟩ x (by rw [cell_of_heap (heap_new' rfl _)]; rfl)
        rw [← hnx] at r1
        have HR1 := Lib.hid r1
        have HO1 := Lib.hid o1
        have HH := Lib.hid hr1
        clear hRow hO hP hR hnx hle hc r1 o1 hr1 hx
        go_wp2_with first | (go_at_call 25; refine hPq.mono ?_; rintro e w' ⟨rfl, rfl⟩) | (go_at_call 26; refine hRq.mono ?_; rintro e w' ⟨rfl, rfl⟩) | (at_builtin; refine Go.Lib.wpList_append_run _ rfl _ _ _ _ rfl _ _ rfl rfl _ _ HH.out ?_) | fail
        go_roundw
        case rel => exact ⟨q + 1, by omega, by omega, by simp, HR1.out, HO1.out⟩
        case measure => simp [intOf] <;> omega
end Go.Proofs.YthjfhgnmaepafaaDoor
