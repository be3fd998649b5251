/-
  Contracts of field.All, of slices.Equal at lists of ints and of the examples of the chapter (alive) over this seat's translation. Condition: the table of fields lies in memory as it was laid.
-/
import Derived.Test.YtiappkokbdhgeaaDoorFieldGet
import Derived.Test.YtiappkokbdhgeaaDoorFieldOps
import Derived.Lib.SliceRun
import Derived.Deep.LoopGhost
namespace Go.Proofs.YtiappkokbdhgeaaDoor
open Go.RowKit

attribute [local go_sem ↓] Go.wp_at_zero Go.wp_at_succ
/-- The numbers of the fields, by their position. -/
def idf (j : Nat) : Nat := j + 1
set_option maxRecDepth 100000 in
set_option maxHeartbeats 4000000 in
theorem all_any (w : World) (hT : TabAt w) :
    Calls Tryd.prog 21 #[] w fun e w' => ∃ b cap, e = .returned (.slice (some ⟨b, 0, none⟩) 2 cap) ∧ 2 ≤ cap ∧ w'.cell? ⟨b, 0, none⟩ = some (.int .i64 1) ∧ w'.cell? ⟨b, 1, none⟩ = some (.int .i64 2) ∧ Off (fun _ => False) w w' := by
  have HT := Lib.hid hT
  have x1 := index_tab1
  have x2 := index_tab2
  clear hT
  go_enter Tryd.func21, Tryd.ntmps21
  go_wp2_with (refine wpList_load_tab rfl _ rfl rfl HT.out ?_)
  clear HT
  obtain ⟨i0, hi, hz0, hz1, hz2⟩ := info_parts int_info
  go_loopw [1, 5] (fun v i wr => ∃ k : Nat, k ≤ 2 ∧ i = .int .i64 k ∧ Row wr w.heap.size v k idf ∧ Off (fun _ => False) w wr) (fun _ i _ => 2 - (intOf i).toNat)
  case atStart => exact ⟨0, by omega, rfl, World.ownsRow_nil _ _ _ _, Off.refl _ w⟩
  case round =>
    obtain ⟨k, hk, rfl, hR, hO⟩ := hrel
    rcases (show k = 0 ∨ k = 1 ∨ k = 2 by omega) with rfl | rfl | rfl
    · skip
      have HR := Lib.hid hR
      have HO := Lib.hid hO
      have HR' := Lib.hid (World.ownsRow.alloc hR (.cells #[.int .i64 1, .int .u64 18446744073709551597, .int .u64 18446744073709551615, .int .u64 18446744073709551615, .int .u64 9223372036854775807, .int .u64 9708812670373448219, .int .u64 38, .int .u64 0, .int .u64 0, .int .u64 0, .int .u64 1444, .int .u64 0, .int .u64 0, .int .u64 0] 26))
      clear hR hO hk x2
      go_wp2_with (at_builtin; refine wpList_append_own _ rfl _ _ 47 rfl w.heap.size 3 i0 _ 1 8 Tryd.underlying47 hi hz0 hz1 hz2 rfl (by decide) _ 0 _ rfl (World.ownsRow.alloc HR'.out _) ⟨wr.heap.size + 1, 0, none⟩ 1 1 [.int .i64 1] rfl rfl ?q1 ?q5 ?q2 ?q3 ?q4 ?_)
      case q1 =>
        intro j u hj
        cases j with
        | zero => simp at hj; subst hj; simp [go_sem]
        | succ j => simp at hj
      case q5 => simp [Value.oneCell']
      case q2 => unfold maxLen; omega
      case q3 => omega
      case q4 => have := HO.out.size; simp; omega
      intro v' w1 hown hgrow hnil
      have hR1 : Row w1 w.heap.size v' (0 + 1) idf := Row.snoc hown rfl
      have hO1 := Row.push HR'.out hgrow
      have HO2 := Lib.hid ((HO.out.alloc _).trans hO1 (fun y hy h => by omega))
      have HR1 := Lib.hid hR1
      clear hown hgrow hnil hR1 hO1 HR HR' HO
      go_wp2
      go_roundw
      case rel => exact ⟨0 + 1, by omega, by rfl, HR1.out, HO2.out⟩
      case measure => simp [intOf]
    · skip
      have HR := Lib.hid hR
      have HO := Lib.hid hO
      have HR' := Lib.hid (World.ownsRow.alloc hR (.cells #[.int .i64 2, .int .u64 17562291160714782033, .int .u64 13611842547513532036, .int .u64 18446744073709551615, .int .u64 18446744069414584320, .int .u64 14758798090332847183, .int .u64 884452912994769583, .int .u64 4834901526196019579, .int .u64 0, .int .u64 4294967295, .int .u64 9449762124159643298, .int .u64 5087230966250696614, .int .u64 2901921493521525849, .int .u64 7413256579398063648] 26))
      clear hR hO hk x1
      go_wp2_with (at_builtin; refine wpList_append_own _ rfl _ _ 47 rfl w.heap.size 3 i0 _ 1 8 Tryd.underlying47 hi hz0 hz1 hz2 rfl (by decide) _ 1 _ rfl (World.ownsRow.alloc HR'.out _) ⟨wr.heap.size + 1, 0, none⟩ 1 1 [.int .i64 2] rfl rfl ?q1 ?q5 ?q2 ?q3 ?q4 ?_)
      case q1 =>
        intro j u hj
        cases j with
        | zero => simp at hj; subst hj; simp [go_sem]
        | succ j => simp at hj
      case q5 => simp [Value.oneCell']
      case q2 => unfold maxLen; omega
      case q3 => omega
      case q4 => have := HO.out.size; simp; omega
      intro v' w1 hown hgrow hnil
      have hR1 : Row w1 w.heap.size v' (1 + 1) idf := Row.snoc hown rfl
      have hO1 := Row.push HR'.out hgrow
      have HO2 := Lib.hid ((HO.out.alloc _).trans hO1 (fun y hy h => by omega))
      have HR1 := Lib.hid hR1
      clear hown hgrow hnil hR1 hO1 HR HR' HO
      go_wp2
      go_roundw
      case rel => exact ⟨1 + 1, by omega, by rfl, HR1.out, HO2.out⟩
      case measure => simp [intOf]
    · obtain ⟨g, cap, rfl, hb, hlt⟩ := Row.form hR (by omega)
      have c0 := Row.cell hR (show 0 < 2 by omega)
      have c1 := Row.cell hR (show 1 < 2 by omega)
      have hcap : 2 ≤ cap := by
        obtain ⟨_, h | ⟨g', cap', cur, he, _, _, hn, _⟩⟩ := hR
        · simp at h
        · simp only [Value.slice.injEq] at he; omega
      have HO := Lib.hid hO
      have HC := Lib.hid (And.intro c0 c1)
      clear hR hO c0 c1 x1 x2
      go_wp2
      go_ret
      exact ⟨g, cap, rfl, hcap, HC.out.1, HC.out.2, HO.out⟩

set_option maxHeartbeats 2000000 in
/-- slices.Equal at two lists of the same ints. -/
theorem intsequal_same (b1 b2 c1 c2 n : Nat) (f : Nat → Int) (hn : n ≤ 17592186044416) (w : World) (h1 : ∀ j, j < n → w.cell? ⟨b1, j, none⟩ = some (.int .i64 (f j))) (h2 : ∀ j, j < n → w.cell? ⟨b2, j, none⟩ = some (.int .i64 (f j))) :
    Calls Tryd.prog 25 #[.slice (some ⟨b1, 0, none⟩) n c1, .slice (some ⟨b2, 0, none⟩) n c2] w fun e w' => e = .returned (.bool true) ∧ ∃ q, w' = w.drewN q := by
  go_enter Tryd.func25, Tryd.ntmps25
  go_wp2
  go_loopg [13] n (fun g s13 wr => ∃ k q : Nat, k ≤ n ∧ n - k ≤ g ∧ s13 = .int .i64 k ∧ wr = w.drewN q)
  case atStart => exact ⟨0, 0, Nat.zero_le _, by omega, rfl, rfl⟩
  case round =>
    obtain ⟨k, q, hk, hg, rfl, rfl⟩ := hrel
    by_cases hlt : k < n
    · have g1 := h1 k hlt
      have g2 := h2 k hlt
      clear h1 h2
      have ht : (f k != f k) = false := by simp
      go_wp2_with fail
      go_region
      go_wp2
      go_roundg (n - (k + 1))
      case measure => omega
      case rel => exact ⟨k + 1, q + 1, by omega, by omega, by go_num, rfl⟩
    · have : k = n := by omega
      subst this
      clear h1 h2
      go_wp2
      go_ret
      exact ⟨rfl, q, rfl⟩

theorem sub_alive (w : World) : Calls Tryd.prog 15 #[.agg #[.int .i64 1, .int .u64 18446744073709551597, .int .u64 18446744073709551615, .int .u64 18446744073709551615, .int .u64 9223372036854775807, .int .u64 9708812670373448219, .int .u64 38, .int .u64 0, .int .u64 0, .int .u64 0, .int .u64 1444, .int .u64 0, .int .u64 0, .int .u64 0], .agg #[.int .u64 18446744073709551597, .int .u64 18446744073709551615, .int .u64 18446744073709551615, .int .u64 9223372036854775807], .int .u64 0] w fun e w' =>
    e = .returned (.agg #[.int .u64 0, .int .u64 0, .int .u64 0, .int .u64 0]) ∧ Off (fun _ => False) w w' := by
  have h := subtract_any 1 P1 (negInv (wd P1 0)) (radV P1 256) (radV P1 256 * radV P1 256 % P1) P1 0 p1_lt p1_lt ⟨by omega, by omega⟩ w
  rw [← f1_eq, show V (redV P1 P1 0) = .agg #[.int .u64 0, .int .u64 0, .int .u64 0, .int .u64 0] by kernel_rfl, show V P1 = .agg #[.int .u64 18446744073709551597, .int .u64 18446744073709551615, .int .u64 18446744073709551615, .int .u64 9223372036854775807] by kernel_rfl] at h
  exact h
set_option maxRecDepth 100000 in
set_option maxHeartbeats 4000000 in
theorem alive_any (w : World) (hT : TabAt w) : Calls Tryd.prog 11 #[] w fun e w' => e = .returned (.bool true) ∧ Off (fun _ => False) w w' := by
  have G : Calls Tryd.prog 9 #[.int .i64 1] w fun e w' => e = .returned (.tuple #[.agg #[.int .i64 1, .int .u64 18446744073709551597, .int .u64 18446744073709551615, .int .u64 18446744073709551615, .int .u64 9223372036854775807, .int .u64 9708812670373448219, .int .u64 38, .int .u64 0, .int .u64 0, .int .u64 0, .int .u64 1444, .int .u64 0, .int .u64 0, .int .u64 0], .int .i64 0]) ∧ Off (fun _ => False) w w' := fget_raw 1 w hT
  have e1 : ∀ W, (Op.equalIn 10000 24 (.agg #[.int .u64 38, .int .u64 0, .int .u64 0, .int .u64 0]) (.agg #[.int .u64 38, .int .u64 0, .int .u64 0, .int .u64 0])).run Tryd.prog W = .ok true W := fun W => by rw [equalIn_elem]; simp
  have e2 : ∀ W, (Op.equalIn 10000 23 (.agg #[.int .u64 1444, .int .u64 0, .int .u64 0, .int .u64 0]) (.agg #[.int .u64 1444, .int .u64 0, .int .u64 0, .int .u64 0])).run Tryd.prog W = .ok true W := fun W => by rw [equalIn_four]; simp
  have e3 : ∀ W, (Op.equalIn 10000 23 (.agg #[.int .u64 0, .int .u64 0, .int .u64 0, .int .u64 0]) (.agg #[.int .u64 0, .int .u64 0, .int .u64 0, .int .u64 0])).run Tryd.prog W = .ok true W := fun W => by rw [equalIn_four]; simp
  have HT := Lib.hid hT
  clear hT
  go_enter Tryd.func11, Tryd.ntmps11
  go_wp2_with fail
  refine G.mono ?_
  rintro e u1 ⟨rfl, hO1⟩
  have HT1 := Lib.hid (HT.out.off hO1)
  have HO1 := Lib.hid hO1
  clear hO1 HT G
  go_wp2_with fail
  refine (sub_alive _).mono ?_
  rintro e u2 ⟨rfl, hO2⟩
  have HO2' := Lib.hid (((Off.refl _ u1).alloc _).trans hO2 (fun _ _ c => c))
  have HT2 := Lib.hid (HT1.out.off HO2'.out)
  have HO2 := Lib.hid (HO1.out.trans HO2'.out (fun _ _ c => c))
  clear hO2 HT1 HO1 HO2'
  go_wp2_with fail
  refine (all_any _ HT2.out).mono ?_
  rintro e u3 ⟨b, cap, rfl, hcap, c0, c1, hO3⟩
  have HO3 := Lib.hid (HO2.out.trans hO3 (fun _ _ c => c))
  have HE := Lib.hid (intsequal_same b u3.heap.size cap 2 2 (fun j => (j : Int) + 1) (by omega) (u3.alloc (.cells #[.int .i64 1, .int .i64 2] 3))
    (fun j hj => by
      have hlt := World.block_lt_of_cell? _ _ c0
      rcases (show j = 0 ∨ j = 1 by omega) with rfl | rfl
      · exact ((Off.refl (fun _ => False) u3).alloc _).cell c0 (fun c => c)
      · exact ((Off.refl (fun _ => False) u3).alloc _).cell c1 (fun c => c))
    (fun j hj => by
      rcases (show j = 0 ∨ j = 1 by omega) with rfl | rfl
      · rw [cell_of_heap (heap_new' rfl _)]; rfl
      · rw [cell_of_heap (heap_new' rfl _)]; rfl))
  clear hO3 HO2 HT2 c0 c1
  go_wp2_with fail
  refine HE.out.mono ?_
  rintro e u4 ⟨rfl, q, rfl⟩
  go_wp2
  go_ret
  exact ⟨rfl, (HO3.out.alloc _).drewN q⟩
end Go.Proofs.YtiappkokbdhgeaaDoor
