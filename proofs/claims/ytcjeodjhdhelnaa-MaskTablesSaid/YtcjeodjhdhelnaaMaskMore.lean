/-
  Contracts of mask.Equal, of the reference's IsZero, Choose and Table, and of slices.Clone and slices.Equal, over this seat's translation. Conditions: the arguments are words; a list's cells lie in memory as its slice says.
-/
import Derived.Test.YtcjeodjhdhelnaaMaskWalks
import Derived.Below
namespace Go.Proofs.Ytcjeodjhdhelnaa
open Go.RowKit

theorem Words.lt {w : World} {a : Option Addr} {len cap : Nat} {zs : List Int} (h : Words w (.slice a len cap) zs) : len = zs.length := by
  obtain ⟨a', cap', e, _⟩ := h
  simp at e; omega

/-- The words of a list lie below the heap's end. -/
def WordsB (n₀ : Nat) (w : World) (sv : Value) (zs : List Int) : Prop :=
  ∃ a cap, sv = .slice a zs.length cap ∧ zs.length ≤ 17592186044416 ∧ (∀ n ∈ zs, Word n) ∧
    (0 < zs.length → ∃ b off, a = some ⟨b, off, none⟩ ∧ b < n₀ ∧ ∀ j, j < zs.length → w.cell? ⟨b, off + j, none⟩ = some (.int .u64 (nth zs j)))
theorem WordsB.words {n₀ : Nat} {w : World} {sv : Value} {zs : List Int} (h : WordsB n₀ w sv zs) : Words w sv zs := by
  obtain ⟨a, cap, e, h1, h2, h3⟩ := h
  exact ⟨a, cap, e, h1, h2, fun h => by obtain ⟨b, off, e, _, hc⟩ := h3 h; exact ⟨b, off, e, hc⟩⟩
theorem WordsB.below {n₀ : Nat} {A B : World} (hb : Below n₀ A B) {sv : Value} {zs : List Int} (h : WordsB n₀ A sv zs) : WordsB n₀ B sv zs := by
  obtain ⟨a, cap, e, h1, h2, h3⟩ := h
  exact ⟨a, cap, e, h1, h2, fun h => by
    obtain ⟨b, off, e, hlt, hc⟩ := h3 h
    exact ⟨b, off, e, hlt, fun j hj => (hb.cell (p := ⟨b, off + j, none⟩) hlt).trans (hc j hj)⟩⟩
theorem WordsB.mono {n₀ n₁ : Nat} (hn : n₀ ≤ n₁) {w : World} {sv : Value} {zs : List Int} (h : WordsB n₀ w sv zs) : WordsB n₁ w sv zs := by
  obtain ⟨a, cap, e, h1, h2, h3⟩ := h
  exact ⟨a, cap, e, h1, h2, fun h => by
    obtain ⟨b, off, e, hlt, hc⟩ := h3 h
    exact ⟨b, off, e, by omega, hc⟩⟩

theorem zeroB_one (x : Int) : zeroB [x] = decide (x = 0) := by simp [zeroB]

theorem words_one (w : World) (x : Int) (hx : Word x) (T : Nat) : Words (w.alloc (.cells #[.int .u64 x] T)) (.slice (some ⟨w.heap.size, 0, none⟩) 1 1) [x] := by
  refine ⟨_, _, rfl, by simp, by simpa using hx, fun _ => ⟨_, _, rfl, ?_⟩⟩
  intro j hj
  obtain rfl : j = 0 := by simp at hj; omega
  simp [go_sem, nth]

set_option maxHeartbeats 400000 in
theorem equal_any (a b : Int) (ha : Word a) (hb : Word b) (w : World) :
    Calls Try.prog 16 #[.int .u64 a, .int .u64 b] w fun e w' => e = .returned (.int .u64 (mk (eqB a b))) ∧ ∃ c, w' = w.alloc (.cells c 22) := by
  have hx := xor_word ha hb
  have HE := Lib.hid (xor_eq ha hb)
  have HW := fun W => words_one W _ hx 22
  go_enter Try.func16, Try.ntmps16
  go_wp2_with (go_at_call 13; refine (iszero_any [_] _ _ (HW _)).mono ?_; rintro e w' ⟨rfl, rfl⟩)
  go_ret
  exact ⟨ret_u64 (by rw [zeroB_one]; exact congrArg mk HE.out), _, rfl⟩

set_option maxHeartbeats 400000 in
theorem refiszero_any (zs : List Int) (sv : Value) (w : World) (hv : Words w sv zs) :
    Calls Try.prog 14 #[sv] w fun e w' => e = .returned (.bool (zeroB zs)) ∧ w = w' := by
  obtain ⟨a, cap, rfl, hlen, hws, hc⟩ := hv
  go_enter Try.func14, Try.ntmps14
  go_wp2
  go_loop [3] (fun i => ∃ k : Nat, k ≤ zs.length ∧ i = .int .i64 k ∧ Hid (zeroB (zs.take k) = true)) (fun i => zs.length - (intOf i).toNat)
  case atStart => exact ⟨0, Nat.zero_le _, rfl, Lib.hid (by simp [zeroB])⟩
  case round =>
    obtain ⟨k, hk, rfl, HZ⟩ := hrel
    by_cases hlt : k < zs.length
    · obtain ⟨b, off, rfl, hcell⟩ := hc (by omega)
      have hck := hcell k hlt
      have HT := Lib.hid (take_snoc hlt)
      by_cases hz : nth zs k = 0
      · have h0 : (nth zs k != 0) = false := by simp [hz]
        have HN := Lib.hid hz
        clear hc hcell hz
        go_wp2
        go_round
        case rel => exact ⟨k + 1, by omega, by go_num, Lib.hid (by rw [HT.out]; have := HZ.out; have h2 := HN.out; unfold zeroB at *; simp [this, h2])⟩
        case measure => simp [intOf]; omega
      · have h0 : (nth zs k != 0) = true := by simp [hz]
        have HN := Lib.hid hz
        clear hc hcell hz
        go_wp2
        go_ret
        have hf : zeroB zs = false := by
          unfold zeroB
          rw [List.all_eq_false]
          refine ⟨nth zs k, ?_, by simpa using HN.out⟩
          unfold nth
          rw [List.getElem?_eq_getElem hlt]
          exact List.getElem_mem hlt
        rw [hf]
        exact ⟨rfl, rfl⟩
    · obtain rfl : k = zs.length := by omega
      clear hc
      rw [List.take_length] at HZ
      go_wp2
      go_ret
      rw [HZ.out]
      exact ⟨rfl, rfl⟩

set_option maxHeartbeats 400000 in
theorem reftable_in (zs : List Int) (i : Int) (hi : Word i) (sv : Value) (w : World) (hv : Words w sv zs) :
    Calls Try.prog 21 #[sv, .int .u64 i] w fun e w' => e = .returned (.int .u64 (tableV zs i)) ∧ w = w' := by
  obtain ⟨a, cap, rfl, hlen, hws, hc⟩ := hv
  obtain ⟨i, rfl⟩ := Int.eq_ofNat_of_zero_le hi.1
  by_cases hlt : i < zs.length
  · obtain ⟨b, off, rfl, hcell⟩ := hc (by omega)
    have hck := hcell i hlt
    have hz : tableV zs (i : Int) = nth zs i := rfl
    rw [hz]
    clear hc hcell hz
    go_enter Try.func21, Try.ntmps21
    go_wp2
    go_ret
    exact ⟨rfl, rfl⟩
  · have hz : tableV zs (i : Int) = 0 := by
      unfold tableV; rw [Int.toNat_natCast, List.getElem?_eq_none (by omega)]; rfl
    rw [hz]
    clear hc hz
    go_enter Try.func21, Try.ntmps21
    go_wp2
    go_ret
    exact ⟨rfl, rfl⟩
end Go.Proofs.Ytcjeodjhdhelnaa
