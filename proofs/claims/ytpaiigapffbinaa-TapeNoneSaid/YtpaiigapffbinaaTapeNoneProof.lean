/-
  For every list of events and every number, the examples of the chapter hold, nothing is appended to a nil tape, which has no events, Play of it appends nothing, and it is equal to an empty tape and to nil, and compares with a tape made of the list as an empty one does, and the list stays as it was (of a list of more than 3000 events only the examples are asked): the statement of P2.1 to P2.4 for nil. No condition.
-/
import Derived.Test.YtpaiigapffbinaaRows
import Derived.Test.YtpaiigapffbinaaTapeOpen
import Derived.WalkKit
import Derived.ProofKit
import Derived.OpenShut
import Derived.ShutString
import Derived.ChangeOld
import Derived.Below
namespace Go.Proofs.Ytpaiigapffbinaa.tapeNone
open Go.ChangeShapes Go.WideShapes Go.ChangeAt Go.RowKit
set_option linter.unusedVariables false

theorem own : ownKnob Try.prog.godebug = none := by kernel_rfl
theorem laidOut : laidOutB Try.prog = true := by kernel_rfl

theorem firstV_nil (l : List Ev) : firstV [] l = if l.length = 0 then -1 else 0 := by
  cases l with
  | nil => rfl
  | cons x l => simp [firstV, lcp]
theorem firstV_nil' (l : List Ev) : firstV l [] = if l.length = 0 then -1 else 0 := by
  cases l with
  | nil => rfl
  | cons x l => simp [firstV, lcp]

set_option maxHeartbeats 4000000 in
theorem walk (a0 : Option Addr) (n0 cap0 : Nat) (es0 : List Ev) (i1 : Int) (w : World) (hn0 : n0 = es0.length) (w0 : EvsAt w (.slice a0 n0 cap0) es0 (fun k => k < w.heap.size)) (w1 : (Lit.int .i64 i1).wf = true) :
    Calls Try.prog 8 #[.slice a0 n0 cap0, .int .i64 i1] w fun e w' => e = .returned (.bool true) ∧ Off (fun _ => False) w w' := by
  have hlong := long1_any w.heap.size a0 n0 cap0 (w.alloc (.cells #[.slice a0 n0 cap0] 22)) (by simp [go_sem])
  by_cases hl : 3000 < n0
  · rw [decide_eq_true hl] at hlong
    clear hl w0 hn0
    go_enter Try.func8, Try.ntmps8
    go_wp2_with fail
    refine hlong.mono ?_
    rintro e w1 ⟨rfl, rfl⟩
    go_wp2_with fail
    refine (alive_any _).mono ?_
    rintro e w2 ⟨rfl, hO⟩
    go_wp2
    go_ret
    exact ⟨rfl, ((Off.refl _ w).alloc _).trans hO (fun _ _ c => c)⟩
  · rw [decide_eq_false hl] at hlong
    have hA1 : Off (fun _ => False) w (w.alloc (.cells #[.slice a0 n0 cap0] 22)) := (Off.refl _ w).alloc _
    have hI1 := w0.off hA1 (fun _ _ _ c => c)
    have hnew := new_any _ es0 _ _ hI1 (by omega)
    have HN := Lib.hid hn0
    have hle : es0.length ≤ 90000 := by omega
    have hm0 : n0 ≤ 3000 := by omega
    have hnil : ∀ W : World, TapeV W (.pointer none) [] (fun _ => False) := fun W => .inl ⟨rfl, rfl⟩
    have hlen0 := fun W => len_any _ _ _ W (hnil W)
    have hev0 := fun W => events_any _ _ _ W (hnil W) (by simp)
    have hsi0 := fun W => since_any _ _ _ 0 W (hnil W) (by simp)
    have hcn0 := fun W => count_any _ _ _ i1 W (hnil W) (by simp)
    have hcz : ((countV [] i1 : Nat) : Int) = 0 := rfl
    simp only [hcz] at hcn0
    have h00 : ((([] : List Ev).length : Nat) : Int) = 0 := rfl
    simp only [h00] at hlen0
    clear w0 hn0 hcz h00
    go_enter Try.func8, Try.ntmps8
    go_wp2_with fail
    refine hlong.mono ?_
    rintro e w1 ⟨rfl, rfl⟩
    go_wp2_with fail
    refine (note_nil _ _ _ _).mono ?_
    rintro e w' ⟨rfl, rfl⟩
    go_wp2_with fail
    refine hnew.mono ?_
    rintro e w2 ⟨rfl, hT2, hO2⟩
    rw [World.size_alloc] at hT2
    have hA2 := hA1.trans hO2 (fun _ _ c => c)
    clear hnew hlong hA1 hO2 hI1
    -- none.Play(t)
    go_wp2_with fail
    refine (play_nil _ _).mono ?_
    rintro e w3 ⟨rfl, hO3⟩
    have hT3 : TapeAt w3 (w.heap.size + 1) es0 _ := TapeG.off hT2 hO3 (fun _ _ _ c => c)
    have hA3 := hA2.trans hO3 (fun _ _ c => c)
    have hplay := play_some _ _ _ _ (fun _ => False) _ _ hT3 (hnil w3) (.inl (fun _ _ h => h.elim)) (by simp; omega)
    rw [List.append_nil] at hplay
    clear hT2 hA2 hO3
    -- t.Play(none)
    go_wp2_with fail
    refine hplay.mono ?_
    rintro e w4 ⟨rfl, hT4, hO4⟩
    have hA4 := hA3.trans hO4 (fun k hk h => by omega)
    clear hplay hT3 hA3 hO4
    go_wp2_with fail
    refine (hlen0 _).mono ?_
    rintro e w' ⟨rfl, rfl⟩
    go_wp2_with fail
    refine (hev0 _).mono ?_
    rintro e w5 ⟨v5, rfl, hv5, hO5⟩
    have hT5 : TapeAt w5 (w.heap.size + 1) es0 _ := TapeG.off hT4 hO5 (fun _ _ _ c => c)
    have hA5 := hA4.trans hO5 (fun _ _ c => c)
    obtain ⟨va, vc, rfl, _⟩ := hv5
    clear hT4 hA4 hO5
    go_wp2_with fail
    refine (hcn0 _).mono ?_
    rintro e w6 ⟨rfl, hO6⟩
    have hT6 : TapeAt w6 (w.heap.size + 1) es0 _ := TapeG.off hT5 hO6 (fun _ _ _ c => c)
    have hA6 := hA5.trans hO6 (fun _ _ c => c)
    clear hT5 hA5 hO6
    go_wp2_with fail
    refine (hsi0 _).mono ?_
    rintro e w7 ⟨v7, rfl, hv7, hO7⟩
    have hT7 : TapeAt w7 (w.heap.size + 1) es0 _ := TapeG.off hT6 hO7 (fun _ _ _ c => c)
    have hA7 := hA6.trans hO7 (fun _ _ c => c)
    obtain ⟨va7, vc7, rfl, _⟩ := hv7
    have ht7 : TapeV w7 (.pointer (some ⟨w.heap.size + 1, 0, none⟩)) es0 _ := .inr ⟨_, rfl, hT7⟩
    have hlen7 := len_any _ _ _ _ ht7
    rw [← HN.out] at hlen7
    clear hT6 hA6 hO7
    go_wp2_with fail
    refine hlen7.mono ?_
    rintro e w' ⟨rfl, rfl⟩
    clear hlen7 hT7
    have hz1 : firstV [] es0 = if n0 = 0 then -1 else 0 := by rw [firstV_nil, ← HN.out]
    have hz2 : firstV es0 [] = if n0 = 0 then -1 else 0 := by rw [firstV_nil', ← HN.out]
    obtain ⟨z, hz⟩ : ∃ z : Int, z = if n0 = 0 then -1 else 0 := ⟨_, rfl⟩
    rw [← hz] at hz1 hz2
    have HZ := Lib.hid hz
    have HZ1 := Lib.hid hz1
    have HZ2 := Lib.hid hz2
    clear hz hz1 hz2
    by_cases h0 : n0 = 0
    · have hb : ((n0 : Int) == 0) = true := by simp [h0]
      have HV : Hid (z = -1) := Lib.hid (by rw [HZ.out, if_pos h0])
      clear h0
      go_wp2_with fail
      refine (alive_any _).mono ?_
      rintro e w8 ⟨rfl, hO8⟩
      have ht8 := ht7.off hO8 (fun _ _ _ c => c)
      have hA8 := hA7.trans hO8 (fun _ _ c => c)
      have hnew8 := new_any (.slice none 0 0) [] (fun _ => False) w8 (evs_nil_new w8 _) (by simp)
      clear ht7 hA7 hO8
      go_wp2_with fail
      refine hnew8.mono ?_
      rintro e w9 ⟨rfl, hT9, hO9⟩
      have ht9 := ht8.off hO9 (fun _ _ _ c => c)
      have hA9 := hA8.trans hO9 (fun _ _ c => c)
      have he9 := equal_any none _ [] [] _ _ w9 (hnil w9) (show TapeV w9 (.pointer (some ⟨w8.heap.size, 0, none⟩)) [] _ from .inr ⟨_, rfl, hT9⟩) (by simp) (by simp)
      rw [decide_eq_true rfl] at he9
      clear hnew8 ht8 hA8 hO9 hT9
      go_wp2_with fail
      refine he9.mono ?_
      rintro e w10 ⟨rfl, hO10⟩
      have ht10 := ht9.off hO10 (fun _ _ _ c => c)
      have hA10 := hA9.trans hO10 (fun _ _ c => c)
      have he10 := equal_any none none [] [] _ _ w10 (hnil w10) (hnil w10) (by simp) (by simp)
      rw [decide_eq_true rfl] at he10
      clear he9 ht9 hA9 hO10
      go_wp2_with fail
      refine he10.mono ?_
      rintro e w11 ⟨rfl, hO11⟩
      have ht11 := ht10.off hO11 (fun _ _ _ c => c)
      have hA11 := hA10.trans hO11 (fun _ _ c => c)
      have hf11 := first_any none _ [] es0 _ _ w11 (hnil w11) ht11 (by simp) hle
      rw [HZ1.out, HV.out] at hf11
      clear he10 ht10 hA10 hO11
      go_wp2_with fail
      refine hf11.mono ?_
      rintro e w12 ⟨rfl, hO12⟩
      have ht12 := ht11.off hO12 (fun _ _ _ c => c)
      have hA12 := hA11.trans hO12 (fun _ _ c => c)
      have hf12 := first_any _ none es0 [] _ _ w12 ht12 (hnil w12) hle (by simp)
      rw [HZ2.out, HV.out] at hf12
      clear hf11 ht11 hA11 hO12
      go_wp2_with fail
      refine hf12.mono ?_
      rintro e w13 ⟨rfl, hO13⟩
      have hA13 := hA12.trans hO13 (fun _ _ c => c)
      go_wp2
      go_ret
      exact ⟨rfl, hA13⟩
    · have hb : ((n0 : Int) == 0) = false := by simp [h0]
      have HV : Hid (z = 0) := Lib.hid (by rw [HZ.out, if_neg h0])
      clear h0
      go_wp2_with fail
      refine (alive_any _).mono ?_
      rintro e w8 ⟨rfl, hO8⟩
      have ht8 := ht7.off hO8 (fun _ _ _ c => c)
      have hA8 := hA7.trans hO8 (fun _ _ c => c)
      have hnew8 := new_any (.slice none 0 0) [] (fun _ => False) w8 (evs_nil_new w8 _) (by simp)
      clear ht7 hA7 hO8
      go_wp2_with fail
      refine hnew8.mono ?_
      rintro e w9 ⟨rfl, hT9, hO9⟩
      have ht9 := ht8.off hO9 (fun _ _ _ c => c)
      have hA9 := hA8.trans hO9 (fun _ _ c => c)
      have he9 := equal_any none _ [] [] _ _ w9 (hnil w9) (show TapeV w9 (.pointer (some ⟨w8.heap.size, 0, none⟩)) [] _ from .inr ⟨_, rfl, hT9⟩) (by simp) (by simp)
      rw [decide_eq_true rfl] at he9
      clear hnew8 ht8 hA8 hO9 hT9
      go_wp2_with fail
      refine he9.mono ?_
      rintro e w10 ⟨rfl, hO10⟩
      have ht10 := ht9.off hO10 (fun _ _ _ c => c)
      have hA10 := hA9.trans hO10 (fun _ _ c => c)
      have he10 := equal_any none none [] [] _ _ w10 (hnil w10) (hnil w10) (by simp) (by simp)
      rw [decide_eq_true rfl] at he10
      clear he9 ht9 hA9 hO10
      go_wp2_with fail
      refine he10.mono ?_
      rintro e w11 ⟨rfl, hO11⟩
      have ht11 := ht10.off hO11 (fun _ _ _ c => c)
      have hA11 := hA10.trans hO11 (fun _ _ c => c)
      have hf11 := first_any none _ [] es0 _ _ w11 (hnil w11) ht11 (by simp) hle
      rw [HZ1.out, HV.out] at hf11
      clear he10 ht10 hA10 hO11
      go_wp2_with fail
      refine hf11.mono ?_
      rintro e w12 ⟨rfl, hO12⟩
      have ht12 := ht11.off hO12 (fun _ _ _ c => c)
      have hA12 := hA11.trans hO12 (fun _ _ c => c)
      have hf12 := first_any _ none es0 [] _ _ w12 ht12 (hnil w12) hle (by simp)
      rw [HZ2.out, HV.out] at hf12
      clear hf11 ht11 hA11 hO12
      go_wp2_with fail
      refine hf12.mono ?_
      rintro e w13 ⟨rfl, hO13⟩
      have hA13 := hA12.trans hO13 (fun _ _ c => c)
      go_wp2
      go_ret
      exact ⟨rfl, hA13⟩

set_option maxRecDepth 100000 in
theorem lifted (os : Os) (started : os.Started) (H : Type) (enc : TypeId × Value → H) :
    ReturnsInHanded {} Try.checked os 8 .any (Rows.tapeNoneSpec.pre6 enc Try.prog Try.f8 Rows.tapeNoneRow.domain false) (Rows.tapeNoneSpec.post enc Try.prog Try.f8 false true false false) := by
  refine returnsInHanded_of_change (C := Try.checked) own started (by kernel_rfl) Try.func8
    (ChangeSpec.witness6 (enc := enc) (C := Try.checked) false ⟨#[], #[.slice none 0 0, .int .i64 0], []⟩ 8 (by kernel_rfl) (by kernel_rfl) (by kernel_rfl) (by kernel_rfl)) ?_
  intro W base args ds gs before hval0 hW hcnd _
  have hval : ∀ (j : Nat) t v, Try.f8.params[j]? = some t → args[j]? = some v → Value.okWide Try.prog W .any base t v := hval0
  have hW' := hW
  obtain ⟨p, q, hA0, hV, rfl, hfz, hnd⟩ := hW
  have hA : DataW.TrodAll enc Try.prog W 0 (fun _ => true) true Try.f8.params.toList args.toList ds p := hA0
  rw [Try.params8] at hA hval
  obtain ⟨v0, vs0, d0, ds0, p0, q0, hargs, rfl, rfl, h0, r0⟩ := trodAll_cons hA
  obtain ⟨v1, vs1, d1, ds1, p1, q1, rfl, rfl, rfl, h1, r1⟩ := trodAll_cons r0
  obtain ⟨rfl, rfl, rfl⟩ := trodAll_nil r1
  obtain rfl : args = #[v0, v1] := by cases args; simp_all
  obtain ⟨rfl, rfl⟩ := trodVars_none hV
  obtain ⟨a0, n0, cap0, rfl⟩ := okWide_slice Try.underlying22 (hval 0 22 v0 rfl rfl)
  have k0 := h0
  have lt0 : ∀ x ∈ p0, x.block < W.heap.size := by obtain ⟨m, hm⟩ := k0; exact DataW.trod_lt m _ _ _ hm
  obtain ⟨es0, hn0, w0⟩ : ∃ es, n0 = es.length ∧ EvsAt W (.slice a0 n0 cap0) es (fun k => k < W.heap.size) := by
    obtain ⟨fuel, hf⟩ := h0
    exact evs_of_trod hf
  obtain ⟨i1, rfl, rfl, rfl, w1⟩ := open_int Try.underlying3 (hval 1 3 v1 rfl rfl) h1
  clear hA0 hval0
  refine (walk a0 n0 cap0 es0 i1 W hn0 w0 w1).mono fun e W' ⟨he, hoff⟩ => ?_
  have bel : Below W.heap.size W W' := hoff.below (Nat.le_refl _) (fun _ _ c => c)
  subst he
  exact ⟨_, rfl, _, _, _, [], _, [], hW', trodAll_mk1 (shut_bool Try.underlying4 _), (trodAll_cons_mk (Below.trod laidOut (by kernel_rfl) (of_decide_eq_true (by kernel_rfl)) k0 bel lt0) (trodAll_cons_mk (shut_int Try.underlying3 w1) trodAll_mk0)), rfl, bel.frame _, fun h => by cases h⟩

theorem over : Rows.tapeNoneRow.holds Try.pinned (OpenSpec.ofChange Rows.tapeNoneSpec) :=
  OpenClaim.holds_of_wide 8 Try.f8 rfl rfl rfl rfl rfl rfl rfl ⟨rfl, rfl, rfl, rfl, rfl⟩ rfl rfl rfl rfl rfl (by kernel_rfl) Try.func8 (by kernel_rfl)
    (of_decide_eq_true (by kernel_rfl)) (by unfold Func.isWrapper; first | (rw [if_pos (by decide +kernel)]; kernel_rfl) | (rw [if_neg (by decide +kernel)]; exact ⟨rfl, rfl⟩))
    (fun os started H enc _ => lifted os started H enc)

theorem proved : Rows.TapeNoneSaid := over
#print axioms proved
end Go.Proofs.Ytpaiigapffbinaa.tapeNone
