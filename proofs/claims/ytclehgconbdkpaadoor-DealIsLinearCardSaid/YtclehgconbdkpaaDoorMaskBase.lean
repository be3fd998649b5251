/-
  Contracts of mask.FromBit, mask.Choose, mask.IsZero and the reference's Mask over this seat's translation. Conditions: the arguments are words; a list's cells lie in memory as its slice says.
-/
import Derived.Test.YtclehgconbdkpaaDoorPlainAll
import Derived.Test.YtclehgconbdkpaaDoorRows
import Derived.WalkKit
import Derived.WalkSpells
import Derived.WalkLawsBesides
import Derived.Shelf.Spec.BitsCarry
import Derived.Deep.QuietTactic
import Derived.BigQuiet
import Derived.Lib.Hide
namespace Go.Proofs.YtclehgconbdkpaaDoor
open Go.RowKit

theorem ret_u64 {a b : Int} (h : a = b) : Ending.returned (.int .u64 a) = .returned (.int .u64 b) := by rw [h]

set_option maxHeartbeats 400000 in
theorem frombit_any (a : Int) (h : Word a) (w : World) :
    Calls Tryd.prog 108 #[.int .u64 a] w fun e w' => e = .returned (.int .u64 (mk (oddB a))) ∧ w = w' := by
  have e := neg_and1 a h
  have H := Lib.hid e
  clear e h
  go_enter Tryd.func108, Tryd.ntmps108
  go_wp2
  go_ret
  exact ⟨ret_u64 H.out, rfl⟩
set_option maxHeartbeats 400000 in
theorem choose_any (m a b : Int) (hm : Word m) (ha : Word a) (hb : Word b) (w : World) :
    Calls Tryd.prog 112 #[.int .u64 m, .int .u64 a, .int .u64 b] w fun e w' => e = .returned (.int .u64 (chooseV m a b)) ∧ w = w' := by
  have e := choose_bits hm ha hb
  have H := Lib.hid e
  clear e hm ha hb
  have hs : (IntKind.u64.signed = true) = False := by decide
  go_enter Tryd.func112, Tryd.ntmps112
  go_wp2
  go_ret
  exact ⟨ret_u64 H.out, rfl⟩
/-- The element at an index, or 0. -/
def nth (l : List Int) (k : Nat) : Int := l[k]?.getD 0

/-- The slice value sv holds the words zs, in whatever block: its cells, where it has any, can be read. -/
def Words (w : World) (sv : Value) (zs : List Int) : Prop :=
  ∃ a cap, sv = .slice a zs.length cap ∧ zs.length ≤ 17592186044416 ∧ (∀ n ∈ zs, Word n) ∧
    (0 < zs.length → ∃ b off, a = some ⟨b, off, none⟩ ∧ ∀ j, j < zs.length → w.cell? ⟨b, off + j, none⟩ = some (.int .u64 (nth zs j)))

theorem take_words {zs : List Int} (h : ∀ n ∈ zs, Word n) (k : Nat) : ∀ n ∈ zs.take k, Word n := fun n hn => h n (List.mem_of_mem_take hn)
theorem get_word {zs : List Int} (h : ∀ n ∈ zs, Word n) {k : Nat} (hk : k < zs.length) : Word (nth zs k) := by
  unfold nth; rw [List.getElem?_eq_getElem hk]; exact h _ (List.getElem_mem hk)
theorem take_snoc {zs : List Int} {k : Nat} (hk : k < zs.length) : zs.take (k + 1) = zs.take k ++ [nth zs k] := by
  unfold nth; rw [List.take_succ_eq_append_getElem hk, List.getElem?_eq_getElem hk]; rfl

/-- The end of IsZero, as a number: the word whose lowest bit says whether x is zero. -/
def topBit (x : Int) : Int := bits .xor .u64 IntKind.u64.max (bits .or .u64 x (IntKind.u64.wrap (-x))) / 9223372036854775808
theorem neg_word (x : Int) : Word (IntKind.u64.wrap x) := by rw [IntKind.wrap_u64]; exact ⟨by omega, by omega⟩
theorem topBit_eq {x : Int} (h : Word x) : topBit x = if x = 0 then 1 else 0 := by
  have hw := or_word h (neg_word (-x))
  have hz := high_zero h
  have h1 := hw.1
  have h2 := hw.2
  unfold topBit
  rw [not_word hw]
  by_cases e : x = 0
  · have := hz.2 e
    simp only [e, if_true] at *
    omega
  · have : ¬ _ := fun c => e (hz.1 c)
    rw [if_neg e]
    omega
theorem topBit_word {x : Int} (h : Word x) : Word (topBit x) := by rw [topBit_eq h]; split <;> exact ⟨by omega, by omega⟩
theorem topBit_odd {zs : List Int} (h : ∀ n ∈ zs, Word n) : mk (oddB (topBit (orAll zs))) = mk (zeroB zs) := by
  rw [topBit_eq (orAll_word zs h), ← orAll_zero zs h]
  by_cases e : orAll zs = 0 <;> simp [e, oddB]

end Go.Proofs.YtclehgconbdkpaaDoor
