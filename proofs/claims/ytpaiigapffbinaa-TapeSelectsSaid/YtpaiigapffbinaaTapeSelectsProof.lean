/-
  For every list of events, every kind and every number, the examples of the chapter hold, and on a tape made of the list Count returns the number of events with the kind and Since the events after the first n ones, and the list stays as it was (of a list of more than 3000 events only the examples are asked): the statement of P2.2 for Count and Since. No condition.
-/
import Derived.Test.YtpaiigapffbinaaRows
import Derived.Test.YtpaiigapffbinaaTapeOpen
import Derived.WalkKit
import Derived.ProofKit
import Derived.OpenShut
import Derived.ShutString
import Derived.ChangeOld
import Derived.Below
namespace Go.Proofs.Ytpaiigapffbinaa.tapeSelects
open Go.ChangeShapes Go.WideShapes Go.ChangeAt Go.RowKit
set_option linter.unusedVariables false

theorem own : ownKnob Try.prog.godebug = none := by kernel_rfl
theorem laidOut : laidOutB Try.prog = true := by kernel_rfl

set_option maxHeartbeats 4000000 in
theorem walk (a0 : Option Addr) (n0 cap0 : Nat) (es0 : List Ev) (i1 : Int) (i2 : Int) (w : World) (hn0 : n0 = es0.length) (w0 : EvsAt w (.slice a0 n0 cap0) es0 (fun k => k < w.heap.size)) (w1 : (Lit.int .i64 i1).wf = true) (w2 : (Lit.int .i64 i2).wf = true) :
    Calls Try.prog 4 #[.slice a0 n0 cap0, .int .i64 i1, .int .i64 i2] w fun e w' => e = .returned (.bool true) ∧ Off (fun _ => False) w w' := by
  have hlong := long1_any w.heap.size a0 n0 cap0 (w.alloc (.cells #[.slice a0 n0 cap0] 22)) (by simp [go_sem])
  by_cases hl : 3000 < n0
  · rw [decide_eq_true hl] at hlong
    clear hl w0 hn0
    go_enter Try.func4, Try.ntmps4
    go_wp2_with fail
    refine hlong.mono ?_
    rintro e w1 ⟨rfl, rfl⟩
    go_wp2_with fail
    refine (alive_any _).mono ?_
    rintro e w2 ⟨rfl, hO⟩
    go_wp2
    go_ret
    exact ⟨rfl, ((Off.refl _ w).alloc _).trans hO (fun _ _ c => c)⟩
  · rw [decide_eq_false hl] at hlong
    have hA1 : Off (fun _ => False) w (w.alloc (.cells #[.slice a0 n0 cap0] 22)) := (Off.refl _ w).alloc _
    have hI1 := w0.off hA1 (fun _ _ _ c => c)
    have hnew := new_any _ es0 _ _ hI1 (by omega)
    have HN := Lib.hid hn0
    have hle : es0.length ≤ 90000 := by omega
    clear w0 hn0
    go_enter Try.func4, Try.ntmps4
    go_wp2_with fail
    refine hlong.mono ?_
    rintro e w1 ⟨rfl, rfl⟩
    go_wp2_with fail
    refine hnew.mono ?_
    rintro e w2 ⟨rfl, hT2, hO2⟩
    rw [World.size_alloc] at hT2
    have ht2 : TapeV w2 (.pointer (some ⟨_, 0, none⟩)) es0 _ := .inr ⟨_, rfl, hT2⟩
    have hI2 := hI1.off hO2 (fun _ _ _ c => c)
    have hA2 := hA1.trans hO2 (fun _ _ c => c)
    clear hnew hlong hI1 hA1 hT2 hO2
    go_wp2_with fail
    refine (alive_any _).mono ?_
    rintro e w3 ⟨rfl, hO3⟩
    have ht3 := ht2.off hO3 (fun _ _ _ c => c)
    have hI3 := hI2.off hO3 (fun _ _ _ c => c)
    have hA3 := hA2.trans hO3 (fun _ _ c => c)
    have hcnt := count_any _ _ _ i1 _ ht3 (by omega)
    clear hO3 ht2 hI2 hA2
    go_wp2_with fail
    refine hcnt.mono ?_
    rintro e w4 ⟨rfl, hO4⟩
    have ht4 := ht3.off hO4 (fun _ _ _ c => c)
    have hI4 := hI3.off hO4 (fun _ _ _ c => c)
    have hA4 := hA3.trans hO4 (fun _ _ c => c)
    have hof := of_any _ _ _ i1 _ hI4 (by omega)
    clear hO4 ht3 hI3 hA3 hcnt
    go_wp2_with fail
    refine hof.mono ?_
    rintro e w5 ⟨⟨fa, fc, rfl⟩, hO5⟩
    have ht5 := ht4.off hO5 (fun _ _ _ c => c)
    have hI5 := hI4.off hO5 (fun _ _ _ c => c)
    have hA5 := hA4.trans hO5 (fun _ _ c => c)
    have hsince := since_any _ _ _ i2 _ ht5 (by omega)
    clear hO5 ht4 hI4 hA4 hof
    go_wp2_with fail
    refine hsince.mono ?_
    rintro e w6 ⟨v, rfl, hv6, hO6⟩
    have hI6 := hI5.off hO6 (fun _ _ _ c => c)
    have hA6 := hA5.trans hO6 (fun _ _ c => c)
    have hafter := refafter_any _ _ _ i2 _ hI6 (by omega)
    clear hO6 ht5 hI5 hA5 hsince
    go_wp2_with fail
    refine hafter.mono ?_
    rintro e w' ⟨⟨v2, rfl, hv2⟩, rfl⟩
    have hla : (afterV es0 i2).length ≤ 100000 := by unfold afterV; rw [List.length_drop]; omega
    have hsame := same_any _ _ _ _ _ _ _ hv6 hv2 hla hla
    rw [decide_eq_true rfl] at hsame
    clear hafter hI6 hv2 hv6 hla
    go_wp2_with fail
    refine hsame.mono ?_
    rintro e w7 ⟨rfl, hO7⟩
    have hA7 := hA6.trans hO7 (fun _ _ c => c)
    go_wp2
    go_ret
    exact ⟨rfl, hA7⟩

set_option maxRecDepth 100000 in
theorem lifted (os : Os) (started : os.Started) (H : Type) (enc : TypeId × Value → H) :
    ReturnsInHanded {} Try.checked os 4 .any (Rows.tapeSelectsSpec.pre6 enc Try.prog Try.f4 Rows.tapeSelectsRow.domain false) (Rows.tapeSelectsSpec.post enc Try.prog Try.f4 false true false false) := by
  refine returnsInHanded_of_change (C := Try.checked) own started (by kernel_rfl) Try.func4
    (ChangeSpec.witness6 (enc := enc) (C := Try.checked) false ⟨#[], #[.slice none 0 0, .int .i64 0, .int .i64 0], []⟩ 8 (by kernel_rfl) (by kernel_rfl) (by kernel_rfl) (by kernel_rfl)) ?_
  intro W base args ds gs before hval0 hW hcnd _
  have hval : ∀ (j : Nat) t v, Try.f4.params[j]? = some t → args[j]? = some v → Value.okWide Try.prog W .any base t v := hval0
  have hW' := hW
  obtain ⟨p, q, hA0, hV, rfl, hfz, hnd⟩ := hW
  have hA : DataW.TrodAll enc Try.prog W 0 (fun _ => true) true Try.f4.params.toList args.toList ds p := hA0
  rw [Try.params4] at hA hval
  obtain ⟨v0, vs0, d0, ds0, p0, q0, hargs, rfl, rfl, h0, r0⟩ := trodAll_cons hA
  obtain ⟨v1, vs1, d1, ds1, p1, q1, rfl, rfl, rfl, h1, r1⟩ := trodAll_cons r0
  obtain ⟨v2, vs2, d2, ds2, p2, q2, rfl, rfl, rfl, h2, r2⟩ := trodAll_cons r1
  obtain ⟨rfl, rfl, rfl⟩ := trodAll_nil r2
  obtain rfl : args = #[v0, v1, v2] := by cases args; simp_all
  obtain ⟨rfl, rfl⟩ := trodVars_none hV
  obtain ⟨a0, n0, cap0, rfl⟩ := okWide_slice Try.underlying22 (hval 0 22 v0 rfl rfl)
  have k0 := h0
  have lt0 : ∀ x ∈ p0, x.block < W.heap.size := by obtain ⟨m, hm⟩ := k0; exact DataW.trod_lt m _ _ _ hm
  obtain ⟨es0, hn0, w0⟩ : ∃ es, n0 = es.length ∧ EvsAt W (.slice a0 n0 cap0) es (fun k => k < W.heap.size) := by
    obtain ⟨fuel, hf⟩ := h0
    exact evs_of_trod hf
  obtain ⟨i1, rfl, rfl, rfl, w1⟩ := open_int Try.underlying3 (hval 1 3 v1 rfl rfl) h1
  obtain ⟨i2, rfl, rfl, rfl, w2⟩ := open_int Try.underlying3 (hval 2 3 v2 rfl rfl) h2
  clear hA0 hval0
  refine (walk a0 n0 cap0 es0 i1 i2 W hn0 w0 w1 w2).mono fun e W' ⟨he, hoff⟩ => ?_
  have bel : Below W.heap.size W W' := hoff.below (Nat.le_refl _) (fun _ _ c => c)
  subst he
  exact ⟨_, rfl, _, _, _, [], _, [], hW', trodAll_mk1 (shut_bool Try.underlying4 _), (trodAll_cons_mk (Below.trod laidOut (by kernel_rfl) (of_decide_eq_true (by kernel_rfl)) k0 bel lt0) (trodAll_cons_mk (shut_int Try.underlying3 w1) (trodAll_cons_mk (shut_int Try.underlying3 w2) trodAll_mk0))), rfl, bel.frame _, fun h => by cases h⟩

theorem over : Rows.tapeSelectsRow.holds Try.pinned (OpenSpec.ofChange Rows.tapeSelectsSpec) :=
  OpenClaim.holds_of_wide 4 Try.f4 rfl rfl rfl rfl rfl rfl rfl ⟨rfl, rfl, rfl, rfl, rfl⟩ rfl rfl rfl rfl rfl (by kernel_rfl) Try.func4 (by kernel_rfl)
    (of_decide_eq_true (by kernel_rfl)) (by unfold Func.isWrapper; first | (rw [if_pos (by decide +kernel)]; kernel_rfl) | (rw [if_neg (by decide +kernel)]; exact ⟨rfl, rfl⟩))
    (fun os started H enc _ => lifted os started H enc)

theorem proved : Rows.TapeSelectsSaid := over
#print axioms proved
end Go.Proofs.Ytpaiigapffbinaa.tapeSelects
