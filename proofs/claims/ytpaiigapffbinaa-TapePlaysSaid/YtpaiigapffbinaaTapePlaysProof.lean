/-
  For every two lists of events, the examples of the chapter hold, Play of a tape made of the second list on one made of the first or on an empty one, and on itself, appends its events and returns their number, and the played tape and both lists stay as they were (of lists of more than 3000 events only the examples are asked): the statement of P2.3 and P2.5. No condition.
-/
import Derived.Test.YtpaiigapffbinaaRows
import Derived.Test.YtpaiigapffbinaaTapeOpen
import Derived.WalkKit
import Derived.ProofKit
import Derived.OpenShut
import Derived.ShutString
import Derived.ChangeOld
import Derived.Below
namespace Go.Proofs.Ytpaiigapffbinaa.tapePlays
open Go.ChangeShapes Go.WideShapes Go.ChangeAt Go.RowKit
set_option linter.unusedVariables false

theorem own : ownKnob Try.prog.godebug = none := by kernel_rfl
theorem laidOut : laidOutB Try.prog = true := by kernel_rfl

set_option maxHeartbeats 4000000 in
theorem walk (a0 : Option Addr) (n0 cap0 : Nat) (es0 : List Ev) (a1 : Option Addr) (n1 cap1 : Nat) (es1 : List Ev) (w : World) (hn0 : n0 = es0.length) (w0 : EvsAt w (.slice a0 n0 cap0) es0 (fun k => k < w.heap.size)) (hn1 : n1 = es1.length) (w1 : EvsAt w (.slice a1 n1 cap1) es1 (fun k => k < w.heap.size)) :
    Calls Try.prog 6 #[.slice a0 n0 cap0, .slice a1 n1 cap1] w fun e w' => e = .returned (.bool true) ∧ Off (fun _ => False) w w' := by
  have hlong := long2_any w.heap.size a0 a1 n0 cap0 n1 cap1 (w.alloc (.cells #[.slice a0 n0 cap0, .slice a1 n1 cap1] 22)) (by simp [go_sem]) (by simp [go_sem])
  by_cases hl : 3000 < n0 ∨ 3000 < n1
  · rw [decide_eq_true hl] at hlong
    clear hl w0 hn0 w1 hn1
    go_enter Try.func6, Try.ntmps6
    go_wp2_with fail
    refine hlong.mono ?_
    rintro e w1 ⟨rfl, rfl⟩
    go_wp2_with fail
    refine (alive_any _).mono ?_
    rintro e w2 ⟨rfl, hO⟩
    go_wp2
    go_ret
    exact ⟨rfl, ((Off.refl _ w).alloc _).trans hO (fun _ _ c => c)⟩
  · rw [decide_eq_false hl] at hlong
    have hA1 : Off (fun _ => False) w (w.alloc (.cells #[.slice a0 n0 cap0, .slice a1 n1 cap1] 22)) := (Off.refl _ w).alloc _
    have hx1 := w0.off hA1 (fun _ _ _ c => c)
    have hy1 := w1.off hA1 (fun _ _ _ c => c)
    have hle0 : es0.length ≤ 3000 := by omega
    have hle1 : es1.length ≤ 3000 := by omega
    have hnew := new_any _ es0 _ _ hx1 (by omega)
    have HN0 := Lib.hid hn0
    have HN1 := Lib.hid hn1
    have hm0 : n0 ≤ 3000 := by omega
    have hm1 : n1 ≤ 3000 := by omega
    have HX := Lib.hid w0
    have HY := Lib.hid w1
    clear w0 hn0 w1 hn1 hl hx1
    go_enter Try.func6, Try.ntmps6
    go_wp2_with fail
    refine hlong.mono ?_
    rintro e w1 ⟨rfl, rfl⟩
    -- t, u, v
    go_wp2_with fail
    refine hnew.mono ?_
    rintro e w2 ⟨rfl, hT2, hO2⟩
    rw [World.size_alloc] at hT2
    have hA2 := hA1.trans hO2 (fun _ _ c => c)
    have hsz2 := hA2.size
    have ht2 : TapeAt w2 (w.heap.size + 1) es0 (fun k => w.heap.size ≤ k ∧ k < w2.heap.size) := TapeG.mono hT2 (fun k hk h => ⟨by omega, hk⟩)
    have hnew2 := new_any _ es1 _ _ (HY.out.off hA2 (fun _ _ _ c => c)) (by omega)
    clear hnew hlong hA1 hT2 hO2 hy1
    go_wp2_with fail
    refine hnew2.mono ?_
    rintro e w3 ⟨rfl, hT3, hO3⟩
    have hsz3 := hO3.size
    have hA3 := hA2.trans hO3 (fun _ _ c => c)
    have ht3 : TapeAt w3 (w.heap.size + 1) es0 _ := TapeG.off ht2 hO3 (fun _ _ _ c => c)
    have hu3 : TapeAt w3 w2.heap.size es1 (fun k => w2.heap.size ≤ k ∧ k < w3.heap.size) := TapeG.mono hT3 (fun k hk h => ⟨h, hk⟩)
    have hnew3 := new_any (.slice none 0 0) [] (fun _ => False) w3 (evs_nil_new w3 _) (by simp)
    clear hnew2 hA2 hT3 hO3 ht2
    go_wp2_with fail
    refine hnew3.mono ?_
    rintro e w4 ⟨rfl, hT4, hO4⟩
    have hsz4 := hO4.size
    have hA4 := hA3.trans hO4 (fun _ _ c => c)
    have ht4 : TapeAt w4 (w.heap.size + 1) es0 _ := TapeG.off ht3 hO4 (fun _ _ _ c => c)
    have hu4 : TapeAt w4 w2.heap.size es1 _ := TapeG.off hu3 hO4 (fun _ _ _ c => c)
    have hv4 : TapeAt w4 w3.heap.size [] (fun k => w3.heap.size ≤ k ∧ k < w4.heap.size) := TapeG.mono hT4 (fun k hk h => ⟨h, hk⟩)
    have hplay4 := play_some _ _ es1 _ _ _ _ ht4 (show TapeV w4 (.pointer (some ⟨w2.heap.size, 0, none⟩)) es1 _ from .inr ⟨_, rfl, hu4⟩) (.inl (fun k _ h1 h2 => by omega)) (by omega)
    rw [← HN1.out] at hplay4
    clear hnew3 hA3 hT4 hO4 ht3 hu3
    -- t.Play(u)
    go_wp2_with fail
    refine hplay4.mono ?_
    rintro e w5 ⟨rfl, hT5, hO5⟩
    have hsz5 := hO5.size
    have hA5 := hA4.trans hO5 (fun k hk h => by omega)
    have hu5 : TapeAt w5 w2.heap.size es1 _ := TapeG.off hu4 hO5 (fun k _ h1 h2 => by omega)
    have hv5 : TapeAt w5 w3.heap.size [] _ := TapeG.off hv4 hO5 (fun k _ h1 h2 => by omega)
    have ht5 : TapeAt w5 (w.heap.size + 1) (es0 ++ es1) (fun k => (w.heap.size ≤ k ∧ k < w2.heap.size) ∨ (w4.heap.size ≤ k ∧ k < w5.heap.size)) := TapeG.mono hT5 (fun k hk h => by omega)
    have hplay5 := play_some _ _ es1 _ _ _ _ hv5 (show TapeV w5 (.pointer (some ⟨w2.heap.size, 0, none⟩)) es1 _ from .inr ⟨_, rfl, hu5⟩) (.inl (fun k _ h1 h2 => by omega)) (by simp; omega)
    rw [← HN1.out, List.nil_append] at hplay5
    clear hplay4 hA4 hT5 hO5 ht4 hu4 hv4
    -- v.Play(u)
    go_wp2_with fail
    refine hplay5.mono ?_
    rintro e w6 ⟨rfl, hT6, hO6⟩
    have hsz6 := hO6.size
    have hA6 := hA5.trans hO6 (fun k hk h => by omega)
    have hu6 : TapeAt w6 w2.heap.size es1 _ := TapeG.off hu5 hO6 (fun k _ h1 h2 => by omega)
    have ht6 : TapeAt w6 (w.heap.size + 1) (es0 ++ es1) _ := TapeG.off ht5 hO6 (fun k _ h1 h2 => by omega)
    have hv6 : TapeAt w6 w3.heap.size es1 (fun k => (w3.heap.size ≤ k ∧ k < w4.heap.size) ∨ (w5.heap.size ≤ k ∧ k < w6.heap.size)) := TapeG.mono hT6 (fun k hk h => by omega)
    have heq := equal_any _ _ es1 es1 _ _ w6 (show TapeV w6 (.pointer (some ⟨w2.heap.size, 0, none⟩)) es1 _ from .inr ⟨_, rfl, hu6⟩) (show TapeV w6 (.pointer (some ⟨w3.heap.size, 0, none⟩)) es1 _ from .inr ⟨_, rfl, hv6⟩) (by omega) (by omega)
    rw [decide_eq_true rfl] at heq
    clear hplay5 hA5 hT6 hO6 ht5 hu5 hv5
    go_wp2_with fail
    refine heq.mono ?_
    rintro e w7 ⟨rfl, hO7⟩
    have hsz7 := hO7.size
    have hA7 := hA6.trans hO7 (fun _ _ c => c)
    have hu7 : TapeAt w7 w2.heap.size es1 _ := TapeG.off hu6 hO7 (fun _ _ _ c => c)
    have ht7 : TapeAt w7 (w.heap.size + 1) (es0 ++ es1) _ := TapeG.off ht6 hO7 (fun _ _ _ c => c)
    have hv7 : TapeAt w7 w3.heap.size es1 _ := TapeG.off hv6 hO7 (fun _ _ _ c => c)
    have hev7 := events_any _ _ _ w7 (show TapeV w7 (.pointer (some ⟨w2.heap.size, 0, none⟩)) es1 _ from .inr ⟨_, rfl, hu7⟩) (by omega)
    clear heq hA6 hO7 ht6 hu6 hv6
    go_wp2_with fail
    refine hev7.mono ?_
    rintro e w8 ⟨q8, rfl, hq8, hO8⟩
    have hsz8 := hO8.size
    have hA8 := hA7.trans hO8 (fun _ _ c => c)
    have hu8 : TapeAt w8 w2.heap.size es1 _ := TapeG.off hu7 hO8 (fun _ _ _ c => c)
    have ht8 : TapeAt w8 (w.heap.size + 1) (es0 ++ es1) _ := TapeG.off ht7 hO8 (fun _ _ _ c => c)
    have hv8 : TapeAt w8 w3.heap.size es1 _ := TapeG.off hv7 hO8 (fun _ _ _ c => c)
    have hsame8 := same_any _ _ _ _ _ _ _ hq8 (HY.out.off hA8 (fun _ _ _ c => c)) (by omega) (by omega)
    rw [decide_eq_true rfl] at hsame8
    clear hev7 hA7 hO8 ht7 hu7 hv7 hq8
    go_wp2_with fail
    refine hsame8.mono ?_
    rintro e w9 ⟨rfl, hO9⟩
    have hsz9 := hO9.size
    have hA9 := hA8.trans hO9 (fun _ _ c => c)
    have hu9 : TapeAt w9 w2.heap.size es1 _ := TapeG.off hu8 hO9 (fun _ _ _ c => c)
    have ht9 : TapeAt w9 (w.heap.size + 1) (es0 ++ es1) _ := TapeG.off ht8 hO9 (fun _ _ _ c => c)
    have hv9 : TapeAt w9 w3.heap.size es1 _ := TapeG.off hv8 hO9 (fun _ _ _ c => c)
    have hplay9 := play_some _ _ es1 _ _ _ _ hu9 (show TapeV w9 (.pointer (some ⟨w2.heap.size, 0, none⟩)) es1 _ from .inr ⟨_, rfl, hu9⟩) (.inr ⟨rfl, rfl⟩) (by omega)
    rw [← HN1.out] at hplay9
    clear hsame8 hA8 hO9 ht8 hu8 hv8
    -- u.Play(u)
    go_wp2_with fail
    refine hplay9.mono ?_
    rintro e w10 ⟨rfl, hT10, hO10⟩
    have hsz10 := hO10.size
    have hA10 := hA9.trans hO10 (fun k hk h => by omega)
    have ht10 : TapeAt w10 (w.heap.size + 1) (es0 ++ es1) _ := TapeG.off ht9 hO10 (fun k _ h1 h2 => by omega)
    have hv10 : TapeAt w10 w3.heap.size es1 _ := TapeG.off hv9 hO10 (fun k _ h1 h2 => by omega)
    have tu10 : TapeV w10 (.pointer (some ⟨w2.heap.size, 0, none⟩)) (es1 ++ es1) _ := .inr ⟨_, rfl, hT10⟩
    have tt10 : TapeV w10 (.pointer (some ⟨w.heap.size + 1, 0, none⟩)) (es0 ++ es1) _ := .inr ⟨_, rfl, ht10⟩
    have tv10 : TapeV w10 (.pointer (some ⟨w3.heap.size, 0, none⟩)) es1 _ := .inr ⟨_, rfl, hv10⟩
    clear hplay9 hA9 hO10 ht9 hu9 hv9 hT10 ht10 hv10
    go_wp2_with fail
    refine (alive_any _).mono ?_
    rintro e w11 ⟨rfl, hO11⟩
    have hA11 := hA10.trans hO11 (fun _ _ c => c)
    have tu11 := tu10.off hO11 (fun _ _ _ c => c)
    have tt11 := tt10.off hO11 (fun _ _ _ c => c)
    have tv11 := tv10.off hO11 (fun _ _ _ c => c)
    have hl11 : (es1 ++ es1).length ≤ 90000 := by rw [List.length_append]; omega
    have hl01 : (es0 ++ es1).length ≤ 90000 := by rw [List.length_append]; omega
    have hev11 := events_any _ _ _ w11 tu11 hl11
    clear hA10 hO11 tu10 tt10 tv10
    go_wp2_with fail
    refine hev11.mono ?_
    rintro e w12 ⟨q12, rfl, hq12, hO12⟩
    have hA12 := hA11.trans hO12 (fun _ _ c => c)
    have tt12 := tt11.off hO12 (fun _ _ _ c => c)
    have tv12 := tv11.off hO12 (fun _ _ _ c => c)
    have hal12 : Off (fun _ => False) w12 (w12.alloc (.cells #[.slice a1 n1 cap1, .slice a1 n1 cap1] 22)) := (Off.refl _ w12).alloc _
    have hcat12 := concat_any w12.heap.size (.slice a1 n1 cap1) (.slice a1 n1 cap1) es1 es1 _ _ (w12.alloc (.cells #[.slice a1 n1 cap1, .slice a1 n1 cap1] 22)) (by simp [go_sem]) (by simp [go_sem]) (HY.out.off (hA12.trans hal12 (fun _ _ c => c)) (fun _ _ _ c => c)) (HY.out.off (hA12.trans hal12 (fun _ _ c => c)) (fun _ _ _ c => c)) (by omega) (by omega)
    clear hA11 hO12 tu11 tt11 tv11 hev11
    go_wp2_with fail
    refine hcat12.mono ?_
    rintro e w13 ⟨c13, rfl, hown13, hO13⟩
    have hO13' := hal12.trans hO13 (fun _ _ c => c)
    have hA13 := hA12.trans hO13' (fun _ _ c => c)
    have tt13 := tt12.off hO13' (fun _ _ _ c => c)
    have tv13 := tv12.off hO13' (fun _ _ _ c => c)
    have hsame13 := same_any _ _ _ _ _ _ _ (hq12.off hO13' (fun _ _ _ c => c)) (evs_of_own hown13) (by omega) (by omega)
    rw [decide_eq_true rfl] at hsame13
    clear hA12 hO13 tt12 tv12 hcat12 hal12 hO13' hown13 hq12
    go_wp2_with fail
    refine hsame13.mono ?_
    rintro e w14 ⟨rfl, hO14⟩
    have hA14 := hA13.trans hO14 (fun _ _ c => c)
    have tt14 := tt13.off hO14 (fun _ _ _ c => c)
    have tv14 := tv13.off hO14 (fun _ _ _ c => c)
    have hev14 := events_any _ _ _ w14 tt14 hl01
    clear hA13 hO14 tt13 tv13 hsame13
    go_wp2_with fail
    refine hev14.mono ?_
    rintro e w15 ⟨q15, rfl, hq15, hO15⟩
    have hA15 := hA14.trans hO15 (fun _ _ c => c)
    have tv15 := tv14.off hO15 (fun _ _ _ c => c)
    have hal15 : Off (fun _ => False) w15 (w15.alloc (.cells #[.slice a0 n0 cap0, .slice a1 n1 cap1] 22)) := (Off.refl _ w15).alloc _
    have hcat15 := concat_any w15.heap.size (.slice a0 n0 cap0) (.slice a1 n1 cap1) es0 es1 _ _ (w15.alloc (.cells #[.slice a0 n0 cap0, .slice a1 n1 cap1] 22)) (by simp [go_sem]) (by simp [go_sem]) (HX.out.off (hA15.trans hal15 (fun _ _ c => c)) (fun _ _ _ c => c)) (HY.out.off (hA15.trans hal15 (fun _ _ c => c)) (fun _ _ _ c => c)) (by omega) (by omega)
    clear hA14 hO15 tt14 tv14 hev14
    go_wp2_with fail
    refine hcat15.mono ?_
    rintro e w16 ⟨c16, rfl, hown16, hO16⟩
    have hO16' := hal15.trans hO16 (fun _ _ c => c)
    have hA16 := hA15.trans hO16' (fun _ _ c => c)
    have tv16 := tv15.off hO16' (fun _ _ _ c => c)
    have hsame16 := same_any _ _ _ _ _ _ _ (hq15.off hO16' (fun _ _ _ c => c)) (evs_of_own hown16) (by omega) (by omega)
    rw [decide_eq_true rfl] at hsame16
    clear hA15 hO16 tv15 hcat15 hal15 hO16' hown16 hq15
    go_wp2_with fail
    refine hsame16.mono ?_
    rintro e w17 ⟨rfl, hO17⟩
    have hA17 := hA16.trans hO17 (fun _ _ c => c)
    have tv17 := tv16.off hO17 (fun _ _ _ c => c)
    have hlen17 := len_any _ _ _ w17 tv17
    rw [← HN1.out] at hlen17
    clear hA16 hO17 tv16 hsame16
    go_wp2_with fail
    refine hlen17.mono ?_
    rintro e w' ⟨rfl, rfl⟩
    go_wp2
    go_ret
    exact ⟨rfl, hA17⟩

set_option maxRecDepth 100000 in
theorem lifted (os : Os) (started : os.Started) (H : Type) (enc : TypeId × Value → H) :
    ReturnsInHanded {} Try.checked os 6 .any (Rows.tapePlaysSpec.pre6 enc Try.prog Try.f6 Rows.tapePlaysRow.domain false) (Rows.tapePlaysSpec.post enc Try.prog Try.f6 false true false false) := by
  refine returnsInHanded_of_change (C := Try.checked) own started (by kernel_rfl) Try.func6
    (ChangeSpec.witness6 (enc := enc) (C := Try.checked) false ⟨#[], #[.slice none 0 0, .slice none 0 0], []⟩ 8 (by kernel_rfl) (by kernel_rfl) (by kernel_rfl) (by kernel_rfl)) ?_
  intro W base args ds gs before hval0 hW hcnd _
  have hval : ∀ (j : Nat) t v, Try.f6.params[j]? = some t → args[j]? = some v → Value.okWide Try.prog W .any base t v := hval0
  have hW' := hW
  obtain ⟨p, q, hA0, hV, rfl, hfz, hnd⟩ := hW
  have hA : DataW.TrodAll enc Try.prog W 0 (fun _ => true) true Try.f6.params.toList args.toList ds p := hA0
  rw [Try.params6] at hA hval
  obtain ⟨v0, vs0, d0, ds0, p0, q0, hargs, rfl, rfl, h0, r0⟩ := trodAll_cons hA
  obtain ⟨v1, vs1, d1, ds1, p1, q1, rfl, rfl, rfl, h1, r1⟩ := trodAll_cons r0
  obtain ⟨rfl, rfl, rfl⟩ := trodAll_nil r1
  obtain rfl : args = #[v0, v1] := by cases args; simp_all
  obtain ⟨rfl, rfl⟩ := trodVars_none hV
  obtain ⟨a0, n0, cap0, rfl⟩ := okWide_slice Try.underlying22 (hval 0 22 v0 rfl rfl)
  have k0 := h0
  have lt0 : ∀ x ∈ p0, x.block < W.heap.size := by obtain ⟨m, hm⟩ := k0; exact DataW.trod_lt m _ _ _ hm
  obtain ⟨es0, hn0, w0⟩ : ∃ es, n0 = es.length ∧ EvsAt W (.slice a0 n0 cap0) es (fun k => k < W.heap.size) := by
    obtain ⟨fuel, hf⟩ := h0
    exact evs_of_trod hf
  obtain ⟨a1, n1, cap1, rfl⟩ := okWide_slice Try.underlying22 (hval 1 22 v1 rfl rfl)
  have k1 := h1
  have lt1 : ∀ x ∈ p1, x.block < W.heap.size := by obtain ⟨m, hm⟩ := k1; exact DataW.trod_lt m _ _ _ hm
  obtain ⟨es1, hn1, w1⟩ : ∃ es, n1 = es.length ∧ EvsAt W (.slice a1 n1 cap1) es (fun k => k < W.heap.size) := by
    obtain ⟨fuel, hf⟩ := h1
    exact evs_of_trod hf
  clear hA0 hval0
  refine (walk a0 n0 cap0 es0 a1 n1 cap1 es1 W hn0 w0 hn1 w1).mono fun e W' ⟨he, hoff⟩ => ?_
  have bel : Below W.heap.size W W' := hoff.below (Nat.le_refl _) (fun _ _ c => c)
  subst he
  exact ⟨_, rfl, _, _, _, [], _, [], hW', trodAll_mk1 (shut_bool Try.underlying4 _), (trodAll_cons_mk (Below.trod laidOut (by kernel_rfl) (of_decide_eq_true (by kernel_rfl)) k0 bel lt0) (trodAll_cons_mk (Below.trod laidOut (by kernel_rfl) (of_decide_eq_true (by kernel_rfl)) k1 bel lt1) trodAll_mk0)), rfl, bel.frame _, fun h => by cases h⟩

theorem over : Rows.tapePlaysRow.holds Try.pinned (OpenSpec.ofChange Rows.tapePlaysSpec) :=
  OpenClaim.holds_of_wide 6 Try.f6 rfl rfl rfl rfl rfl rfl rfl ⟨rfl, rfl, rfl, rfl, rfl⟩ rfl rfl rfl rfl rfl (by kernel_rfl) Try.func6 (by kernel_rfl)
    (of_decide_eq_true (by kernel_rfl)) (by unfold Func.isWrapper; first | (rw [if_pos (by decide +kernel)]; kernel_rfl) | (rw [if_neg (by decide +kernel)]; exact ⟨rfl, rfl⟩))
    (fun os started H enc _ => lifted os started H enc)

theorem proved : Rows.TapePlaysSaid := over
#print axioms proved
end Go.Proofs.Ytpaiigapffbinaa.tapePlays
