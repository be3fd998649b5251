/-
  For every two lists of events, the examples of the chapter hold, First and Equal of the tapes made of them return what the reference returns for the lists, in either order, a tape is equal to another one made of the same list, and both lists stay as they were (of lists of more than 3000 events only the examples are asked): the statement of P2.4. No condition.
-/
import Derived.Test.YtpaiigapffbinaaRows
import Derived.Test.YtpaiigapffbinaaTapeOpen
import Derived.WalkKit
import Derived.ProofKit
import Derived.OpenShut
import Derived.ShutString
import Derived.ChangeOld
import Derived.Below
namespace Go.Proofs.Ytpaiigapffbinaa.tapeCompares
open Go.ChangeShapes Go.WideShapes Go.ChangeAt Go.RowKit
set_option linter.unusedVariables false

theorem own : ownKnob Try.prog.godebug = none := by kernel_rfl
theorem laidOut : laidOutB Try.prog = true := by kernel_rfl

theorem lcp_comm : ∀ l m : List Ev, lcp l m = lcp m l
  | [], [] => rfl
  | [], _ :: _ => rfl
  | _ :: _, [] => rfl
  | x :: l, y :: m => by
    simp only [lcp]
    by_cases h : x = y
    · subst h; simp [lcp_comm l m]
    · rw [if_neg h, if_neg (fun e => h e.symm)]
theorem firstV_comm (l m : List Ev) : firstV m l = firstV l m := by
  unfold firstV
  by_cases h : l = m
  · subst h; rfl
  · rw [if_neg h, if_neg (fun e => h e.symm), lcp_comm]
theorem firstV_none (l m : List Ev) : (firstV l m == -1) = decide (l = m) := by
  unfold firstV
  by_cases h : l = m
  · simp [h]
  · rw [if_neg h, decide_eq_false h, beq_eq_false_iff_ne]
    omega

set_option maxHeartbeats 4000000 in
theorem walk (a0 : Option Addr) (n0 cap0 : Nat) (es0 : List Ev) (a1 : Option Addr) (n1 cap1 : Nat) (es1 : List Ev) (w : World) (hn0 : n0 = es0.length) (w0 : EvsAt w (.slice a0 n0 cap0) es0 (fun k => k < w.heap.size)) (hn1 : n1 = es1.length) (w1 : EvsAt w (.slice a1 n1 cap1) es1 (fun k => k < w.heap.size)) :
    Calls Try.prog 5 #[.slice a0 n0 cap0, .slice a1 n1 cap1] w fun e w' => e = .returned (.bool true) ∧ Off (fun _ => False) w w' := by
  have hlong := long2_any w.heap.size a0 a1 n0 cap0 n1 cap1 (w.alloc (.cells #[.slice a0 n0 cap0, .slice a1 n1 cap1] 22)) (by simp [go_sem]) (by simp [go_sem])
  by_cases hl : 3000 < n0 ∨ 3000 < n1
  · rw [decide_eq_true hl] at hlong
    clear hl w0 hn0 w1 hn1
    go_enter Try.func5, Try.ntmps5
    go_wp2_with fail
    refine hlong.mono ?_
    rintro e w1 ⟨rfl, rfl⟩
    go_wp2_with fail
    refine (alive_any _).mono ?_
    rintro e w2 ⟨rfl, hO⟩
    go_wp2
    go_ret
    exact ⟨rfl, ((Off.refl _ w).alloc _).trans hO (fun _ _ c => c)⟩
  · rw [decide_eq_false hl] at hlong
    have hA1 : Off (fun _ => False) w (w.alloc (.cells #[.slice a0 n0 cap0, .slice a1 n1 cap1] 22)) := (Off.refl _ w).alloc _
    have hx1 := w0.off hA1 (fun _ _ _ c => c)
    have hy1 := w1.off hA1 (fun _ _ _ c => c)
    have hle0 : es0.length ≤ 90000 := by omega
    have hle1 : es1.length ≤ 90000 := by omega
    have hnew := new_any _ es0 _ _ hx1 hle0
    have hne := firstV_none es0 es1
    have hcm := firstV_comm es0 es1
    obtain ⟨z, hz⟩ : ∃ z, z = firstV es0 es1 := ⟨_, rfl⟩
    obtain ⟨d, hd⟩ : ∃ d, d = decide (es0 = es1) := ⟨_, rfl⟩
    rw [← hz, ← hd] at hne
    rw [← hz] at hcm
    have HZ := Lib.hid hz
    have HD := Lib.hid hd
    have HCM := Lib.hid hcm
    clear w0 hn0 w1 hn1 hl hz hd hcm
    go_enter Try.func5, Try.ntmps5
    go_wp2_with fail
    refine hlong.mono ?_
    rintro e w1 ⟨rfl, rfl⟩
    go_wp2_with fail
    refine hnew.mono ?_
    rintro e w2 ⟨rfl, hT2, hO2⟩
    rw [World.size_alloc] at hT2
    have ht2 : TapeV w2 (.pointer (some ⟨_, 0, none⟩)) es0 _ := .inr ⟨_, rfl, hT2⟩
    have hx2 := hx1.off hO2 (fun _ _ _ c => c)
    have hy2 := hy1.off hO2 (fun _ _ _ c => c)
    have hA2 := hA1.trans hO2 (fun _ _ c => c)
    have hnew2 := new_any _ es1 _ _ hy2 hle1
    clear hnew hlong hx1 hy1 hA1 hT2 hO2
    go_wp2_with fail
    refine hnew2.mono ?_
    rintro e w3 ⟨rfl, hT3, hO3⟩
    have hu3 : TapeV w3 (.pointer (some ⟨_, 0, none⟩)) es1 _ := .inr ⟨_, rfl, hT3⟩
    have ht3 := ht2.off hO3 (fun _ _ _ c => c)
    have hx3 := hx2.off hO3 (fun _ _ _ c => c)
    have hy3 := hy2.off hO3 (fun _ _ _ c => c)
    have hA3 := hA2.trans hO3 (fun _ _ c => c)
    have href := reffirst_any _ _ _ _ _ _ _ hx3 hy3 (by omega) (by omega)
    rw [← HZ.out] at href
    clear hnew2 ht2 hx2 hy2 hA2 hT3 hO3
    go_wp2_with fail
    refine href.mono ?_
    rintro e w4 ⟨rfl, q, rfl⟩
    have hO4 := off_drewN (fun _ => False) w3 q
    have hu4 := hu3.off hO4 (fun _ _ _ c => c)
    have ht4 := ht3.off hO4 (fun _ _ _ c => c)
    have hx4 := hx3.off hO4 (fun _ _ _ c => c)
    have hA4 := hA3.trans hO4 (fun _ _ c => c)
    clear href ht3 hu3 hx3 hy3 hA3 hO4
    go_wp2_with fail
    refine (alive_any _).mono ?_
    rintro e w5 ⟨rfl, hO5⟩
    have hu5 := hu4.off hO5 (fun _ _ _ c => c)
    have ht5 := ht4.off hO5 (fun _ _ _ c => c)
    have hx5 := hx4.off hO5 (fun _ _ _ c => c)
    have hA5 := hA4.trans hO5 (fun _ _ c => c)
    have hf5 := first_any _ _ _ _ _ _ _ ht5 hu5 hle0 hle1
    rw [← HZ.out] at hf5
    clear ht4 hu4 hx4 hA4 hO5
    go_wp2_with fail
    refine hf5.mono ?_
    rintro e w6 ⟨rfl, hO6⟩
    have hu6 := hu5.off hO6 (fun _ _ _ c => c)
    have ht6 := ht5.off hO6 (fun _ _ _ c => c)
    have hx6 := hx5.off hO6 (fun _ _ _ c => c)
    have hA6 := hA5.trans hO6 (fun _ _ c => c)
    have hf6 := first_any _ _ _ _ _ _ _ hu6 ht6 hle1 hle0
    rw [HCM.out] at hf6
    clear ht5 hu5 hx5 hA5 hO6 hf5
    go_wp2_with fail
    refine hf6.mono ?_
    rintro e w7 ⟨rfl, hO7⟩
    have hu7 := hu6.off hO7 (fun _ _ _ c => c)
    have ht7 := ht6.off hO7 (fun _ _ _ c => c)
    have hx7 := hx6.off hO7 (fun _ _ _ c => c)
    have hA7 := hA6.trans hO7 (fun _ _ c => c)
    have he7 := equal_any _ _ _ _ _ _ _ ht7 hu7 hle0 hle1
    rw [← HD.out] at he7
    clear ht6 hu6 hx6 hA6 hO7 hf6
    go_wp2_with fail
    refine he7.mono ?_
    rintro e w8 ⟨rfl, hO8⟩
    have ht8 := ht7.off hO8 (fun _ _ _ c => c)
    have hx8 := hx7.off hO8 (fun _ _ _ c => c)
    have hA8 := hA7.trans hO8 (fun _ _ c => c)
    have hnew8 := new_any _ es0 _ _ hx8 hle0
    clear ht7 hu7 hx7 hA7 hO8 he7
    go_wp2_with fail
    refine hnew8.mono ?_
    rintro e w9 ⟨rfl, hT9, hO9⟩
    have hu9 : TapeV w9 (.pointer (some ⟨_, 0, none⟩)) es0 _ := .inr ⟨_, rfl, hT9⟩
    have ht9 := ht8.off hO9 (fun _ _ _ c => c)
    have hA9 := hA8.trans hO9 (fun _ _ c => c)
    have he9 := equal_any _ _ _ _ _ _ _ ht9 hu9 hle0 hle0
    rw [decide_eq_true rfl] at he9
    clear hnew8 ht8 hx8 hA8 hO9 hT9
    go_wp2_with fail
    refine he9.mono ?_
    rintro e w10 ⟨rfl, hO10⟩
    have hA10 := hA9.trans hO10 (fun _ _ c => c)
    go_wp2
    go_ret
    exact ⟨rfl, hA10⟩

set_option maxRecDepth 100000 in
theorem lifted (os : Os) (started : os.Started) (H : Type) (enc : TypeId × Value → H) :
    ReturnsInHanded {} Try.checked os 5 .any (Rows.tapeComparesSpec.pre6 enc Try.prog Try.f5 Rows.tapeComparesRow.domain false) (Rows.tapeComparesSpec.post enc Try.prog Try.f5 false true false false) := by
  refine returnsInHanded_of_change (C := Try.checked) own started (by kernel_rfl) Try.func5
    (ChangeSpec.witness6 (enc := enc) (C := Try.checked) false ⟨#[], #[.slice none 0 0, .slice none 0 0], []⟩ 8 (by kernel_rfl) (by kernel_rfl) (by kernel_rfl) (by kernel_rfl)) ?_
  intro W base args ds gs before hval0 hW hcnd _
  have hval : ∀ (j : Nat) t v, Try.f5.params[j]? = some t → args[j]? = some v → Value.okWide Try.prog W .any base t v := hval0
  have hW' := hW
  obtain ⟨p, q, hA0, hV, rfl, hfz, hnd⟩ := hW
  have hA : DataW.TrodAll enc Try.prog W 0 (fun _ => true) true Try.f5.params.toList args.toList ds p := hA0
  rw [Try.params5] at hA hval
  obtain ⟨v0, vs0, d0, ds0, p0, q0, hargs, rfl, rfl, h0, r0⟩ := trodAll_cons hA
  obtain ⟨v1, vs1, d1, ds1, p1, q1, rfl, rfl, rfl, h1, r1⟩ := trodAll_cons r0
  obtain ⟨rfl, rfl, rfl⟩ := trodAll_nil r1
  obtain rfl : args = #[v0, v1] := by cases args; simp_all
  obtain ⟨rfl, rfl⟩ := trodVars_none hV
  obtain ⟨a0, n0, cap0, rfl⟩ := okWide_slice Try.underlying22 (hval 0 22 v0 rfl rfl)
  have k0 := h0
  have lt0 : ∀ x ∈ p0, x.block < W.heap.size := by obtain ⟨m, hm⟩ := k0; exact DataW.trod_lt m _ _ _ hm
  obtain ⟨es0, hn0, w0⟩ : ∃ es, n0 = es.length ∧ EvsAt W (.slice a0 n0 cap0) es (fun k => k < W.heap.size) := by
    obtain ⟨fuel, hf⟩ := h0
    exact evs_of_trod hf
  obtain ⟨a1, n1, cap1, rfl⟩ := okWide_slice Try.underlying22 (hval 1 22 v1 rfl rfl)
  have k1 := h1
  have lt1 : ∀ x ∈ p1, x.block < W.heap.size := by obtain ⟨m, hm⟩ := k1; exact DataW.trod_lt m _ _ _ hm
  obtain ⟨es1, hn1, w1⟩ : ∃ es, n1 = es.length ∧ EvsAt W (.slice a1 n1 cap1) es (fun k => k < W.heap.size) := by
    obtain ⟨fuel, hf⟩ := h1
    exact evs_of_trod hf
  clear hA0 hval0
  refine (walk a0 n0 cap0 es0 a1 n1 cap1 es1 W hn0 w0 hn1 w1).mono fun e W' ⟨he, hoff⟩ => ?_
  have bel : Below W.heap.size W W' := hoff.below (Nat.le_refl _) (fun _ _ c => c)
  subst he
  exact ⟨_, rfl, _, _, _, [], _, [], hW', trodAll_mk1 (shut_bool Try.underlying4 _), (trodAll_cons_mk (Below.trod laidOut (by kernel_rfl) (of_decide_eq_true (by kernel_rfl)) k0 bel lt0) (trodAll_cons_mk (Below.trod laidOut (by kernel_rfl) (of_decide_eq_true (by kernel_rfl)) k1 bel lt1) trodAll_mk0)), rfl, bel.frame _, fun h => by cases h⟩

theorem over : Rows.tapeComparesRow.holds Try.pinned (OpenSpec.ofChange Rows.tapeComparesSpec) :=
  OpenClaim.holds_of_wide 5 Try.f5 rfl rfl rfl rfl rfl rfl rfl ⟨rfl, rfl, rfl, rfl, rfl⟩ rfl rfl rfl rfl rfl (by kernel_rfl) Try.func5 (by kernel_rfl)
    (of_decide_eq_true (by kernel_rfl)) (by unfold Func.isWrapper; first | (rw [if_pos (by decide +kernel)]; kernel_rfl) | (rw [if_neg (by decide +kernel)]; exact ⟨rfl, rfl⟩))
    (fun os started H enc _ => lifted os started H enc)

theorem proved : Rows.TapeComparesSaid := over
#print axioms proved
end Go.Proofs.Ytpaiigapffbinaa.tapeCompares
