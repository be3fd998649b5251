/-
  For every two lists of events, the examples of the chapter hold, and a tape that was made of the first list and on which the events of the second were noted has the events of the first list followed by those of the second, in order, and their number after each note, and both lists stay as they were (of lists of more than 3000 events only the examples are asked): the statement of P2.1 and P2.2. No condition.
-/
import Derived.Test.YtpaiigapffbinaaRows
import Derived.Test.YtpaiigapffbinaaTapeOpen
import Derived.WalkKit
import Derived.ProofKit
import Derived.OpenShut
import Derived.ShutString
import Derived.ChangeOld
import Derived.Below
namespace Go.Proofs.Ytpaiigapffbinaa.tapeKeeps
open Go.ChangeShapes Go.WideShapes Go.ChangeAt Go.RowKit
set_option linter.unusedVariables false

theorem own : ownKnob Try.prog.godebug = none := by kernel_rfl
theorem laidOut : laidOutB Try.prog = true := by kernel_rfl

set_option maxHeartbeats 4000000 in
theorem walk (a0 : Option Addr) (n0 cap0 : Nat) (es0 : List Ev) (a1 : Option Addr) (n1 cap1 : Nat) (es1 : List Ev) (w : World) (hn0 : n0 = es0.length) (w0 : EvsAt w (.slice a0 n0 cap0) es0 (fun k => k < w.heap.size)) (hn1 : n1 = es1.length) (w1 : EvsAt w (.slice a1 n1 cap1) es1 (fun k => k < w.heap.size)) :
    Calls Try.prog 3 #[.slice a0 n0 cap0, .slice a1 n1 cap1] w fun e w' => e = .returned (.bool true) ∧ Off (fun _ => False) w w' := by
  have hlong := long2_any w.heap.size a0 a1 n0 cap0 n1 cap1 (w.alloc (.cells #[.slice a0 n0 cap0, .slice a1 n1 cap1] 22)) (by simp [go_sem]) (by simp [go_sem])
  by_cases hl : 3000 < n0 ∨ 3000 < n1
  · rw [decide_eq_true hl] at hlong
    clear hl w0 hn0 w1 hn1
    go_enter Try.func3, Try.ntmps3
    go_wp2_with fail
    refine hlong.mono ?_
    rintro e w1 ⟨rfl, rfl⟩
    go_wp2_with fail
    refine (alive_any _).mono ?_
    rintro e w2 ⟨rfl, hO⟩
    go_wp2
    go_ret
    exact ⟨rfl, ((Off.refl _ w).alloc _).trans hO (fun _ _ c => c)⟩
  · rw [decide_eq_false hl] at hlong
    have hA1 : Off (fun _ => False) w (w.alloc (.cells #[.slice a0 n0 cap0, .slice a1 n1 cap1] 22)) := (Off.refl _ w).alloc _
    have hI1 := w0.off hA1 (fun _ _ _ c => c)
    have hnew := new_any _ es0 _ _ hI1 (by omega)
    have hm0 : n0 ≤ 3000 := by omega
    have hm1 : n1 ≤ 3000 := by omega
    have HN0 := Lib.hid hn0
    have HN1 := Lib.hid hn1
    have HW0 := Lib.hid w0
    have HW1 := Lib.hid w1
    clear w0 hn0 w1 hn1 hl hI1
    go_enter Try.func3, Try.ntmps3
    go_wp2_with fail
    refine hlong.mono ?_
    rintro e w1 ⟨rfl, rfl⟩
    go_wp2_with fail
    refine hnew.mono ?_
    rintro e w2 ⟨rfl, hT2, hO2⟩
    rw [World.size_alloc] at hT2
    have HT2 := Lib.hid hT2
    have HA2 := Lib.hid (hA1.trans hO2 (fun _ _ c => c))
    clear hnew hlong hA1 hT2 hO2
    go_wp2
    go_loopw [17] (fun i wr => ∃ k : Nat, k ≤ n1 ∧ i = .int .i64 k ∧ TapeAt wr (w.heap.size + 1) (es0 ++ es1.take k) (fun k => w.heap.size + 1 ≤ k) ∧ Off (fun _ => False) w wr) (fun i _ => n1 - (intOf i).toNat)
    case atStart => exact ⟨0, Nat.zero_le _, rfl, by simpa using HT2.out, HA2.out⟩
    case round =>
      obtain ⟨k, hk, rfl, hT, hO⟩ := hrel
      by_cases hlt : k < n1
      · obtain ⟨x, hx⟩ : ∃ x, es1[k]? = some x := ⟨es1[k]'(by have := HN1.out; omega), List.getElem?_eq_getElem _⟩
        have hW1 := HW1.out.off hO (fun _ _ _ c => c)
        obtain ⟨b, off, rfl, hcell⟩ : ∃ b off, a1 = some ⟨b, off, none⟩ ∧ ∀ j e, es1[j]? = some e → evAt wr b (off + j * 3) e := by
          obtain ⟨a, cap, hv, _, _, _, h4⟩ := hW1
          obtain ⟨b, off, ha, _, hc⟩ := h4 (by have := HN1.out; omega)
          simp at hv
          exact ⟨b, off, hv.1.trans ha, hc⟩
        obtain ⟨c0, c1, c2⟩ := hcell k x hx
        have HX := Lib.hid hx
        have HL : Hid ((es0 ++ es1.take (k + 1)).length = n0 + k + 1) := Lib.hid (by rw [List.length_append, List.length_take]; have := HN0.out; have := HN1.out; omega)
        have hnote := note_any _ _ _ _ (TapeG.grown hT (World.grownBy_alloc wr (.cells #[.int .i64 x.1, .int .i64 x.2.1, .int .i64 x.2.2] 28) none)) (by rw [List.length_append, List.length_take]; have := HN0.out; omega) x
        have HO := Lib.hid hO
        clear hx hW1 hcell hT hO
        go_wp2_with fail
        refine hnote.mono ?_
        rintro r w5 ⟨rfl, hT5, hO5⟩
        rw [List.append_assoc, ← take_push HX.out] at hT5
        have hT6 : TapeAt w5 (w.heap.size + 1) (es0 ++ es1.take (k + 1)) (fun k => w.heap.size + 1 ≤ k) := TapeG.mono hT5 (fun j _ h => h.elim id (fun h => by have := HO.out.size; simp at h; omega))
        have hO6 : Off (fun _ => False) w w5 := (HO.out.alloc _).trans hO5 (fun j hj h => by omega)
        have hlen := len_any _ _ _ _ (show TapeV w5 (.pointer (some ⟨w.heap.size + 1, 0, none⟩)) _ _ from .inr ⟨_, rfl, hT6⟩)
        rw [HL.out] at hlen
        have hlen' : Calls Try.prog 13 #[.pointer (some ⟨w.heap.size + 1, 0, none⟩)] w5 fun r w' => r = .returned (.int .i64 ((n0 : Int) + k + 1)) ∧ w5 = w' := by simpa using hlen
        have HT6 := Lib.hid hT6
        have HO6 := Lib.hid hO6
        clear hT5 hT6 hO6 hlen hnote hO5
        go_wp2_with fail
        refine hlen'.mono ?_
        rintro r w' ⟨rfl, rfl⟩
        clear hlen'
        go_wp2
        go_roundw
        case rel => exact ⟨k + 1, by omega, by go_num, HT6.out, HO6.out⟩
        case measure => simp [intOf]; omega
      · obtain rfl : k = n1 := by omega
        have htk : es1.take k = es1 := by rw [HN1.out, List.take_length]
        rw [htk] at hT
        have ht : TapeV wr (.pointer (some ⟨w.heap.size + 1, 0, none⟩)) (es0 ++ es1) (fun k => w.heap.size + 1 ≤ k) := .inr ⟨_, rfl, hT⟩
        have hlen : (es0 ++ es1).length = n0 + k := by rw [List.length_append, ← HN0.out, ← HN1.out]
        have HA := Lib.hid hO
        clear hT htk HT2 HA2 hO
        go_wp2_with fail
        refine (alive_any _).mono ?_
        rintro e w3 ⟨rfl, hO3⟩
        have ht3 := ht.off hO3 (fun _ _ _ c => c)
        have hA3 := HA.out.trans hO3 (fun _ _ c => c)
        have hev := events_any _ _ _ _ ht3 (by omega)
        clear hO3 ht
        go_wp2_with fail
        refine hev.mono ?_
        rintro e w4 ⟨v, rfl, hv4, hO4⟩
        have ht4 := ht3.off hO4 (fun _ _ _ c => c)
        have hA4 := hA3.trans hO4 (fun _ _ c => c)
        have hal : Off (fun _ => False) w4 (w4.alloc (.cells #[.slice a0 n0 cap0, .slice a1 k cap1] 22)) := (Off.refl _ w4).alloc _
        have hcat := concat_any w4.heap.size (.slice a0 n0 cap0) (.slice a1 k cap1) es0 es1 _ _ (w4.alloc (.cells #[.slice a0 n0 cap0, .slice a1 k cap1] 22)) (by simp [go_sem]) (by simp [go_sem]) (HW0.out.off (hA4.trans hal (fun _ _ c => c)) (fun _ _ _ c => c)) (HW1.out.off (hA4.trans hal (fun _ _ c => c)) (fun _ _ _ c => c)) (by have := HN0.out; omega) (by have := HN1.out; omega)
        clear hO4 ht3 hev hA3
        go_wp2_with fail
        refine hcat.mono ?_
        rintro e w5 ⟨v2, rfl, hown5, hO5⟩
        have hO45 := hal.trans hO5 (fun _ _ c => c)
        have hA5 := hA4.trans hO45 (fun _ _ c => c)
        have ht5 := ht4.off hO45 (fun _ _ _ c => c)
        have hv5 := hv4.off hO45 (fun _ _ _ c => c)
        have hv2 := evs_of_own hown5
        have hsame := same_any _ _ _ _ _ _ _ hv5 hv2 (by omega) (by omega)
        rw [decide_eq_true rfl] at hsame
        clear hcat hal hO5 hO45 ht4 hv4 hown5 hA4
        go_wp2_with fail
        refine hsame.mono ?_
        rintro e w6 ⟨rfl, hO6⟩
        have hA6 := hA5.trans hO6 (fun _ _ c => c)
        have ht6 := ht5.off hO6 (fun _ _ _ c => c)
        have hl6 := len_any _ _ _ _ ht6
        rw [hlen] at hl6
        have hl6' : Calls Try.prog 13 #[.pointer (some ⟨w.heap.size + 1, 0, none⟩)] w6 fun r w' => r = .returned (.int .i64 ((n0 : Int) + k)) ∧ w6 = w' := by simpa using hl6
        clear hsame hO6 ht5 hv5 hv2 hl6 ht6 hA5
        go_wp2_with fail
        refine hl6'.mono ?_
        rintro r w' ⟨rfl, rfl⟩
        clear hl6'
        go_wp2
        go_ret
        exact ⟨rfl, hA6⟩

set_option maxRecDepth 100000 in
theorem lifted (os : Os) (started : os.Started) (H : Type) (enc : TypeId × Value → H) :
    ReturnsInHanded {} Try.checked os 3 .any (Rows.tapeKeepsSpec.pre6 enc Try.prog Try.f3 Rows.tapeKeepsRow.domain false) (Rows.tapeKeepsSpec.post enc Try.prog Try.f3 false true false false) := by
  refine returnsInHanded_of_change (C := Try.checked) own started (by kernel_rfl) Try.func3
    (ChangeSpec.witness6 (enc := enc) (C := Try.checked) false ⟨#[], #[.slice none 0 0, .slice none 0 0], []⟩ 8 (by kernel_rfl) (by kernel_rfl) (by kernel_rfl) (by kernel_rfl)) ?_
  intro W base args ds gs before hval0 hW hcnd _
  have hval : ∀ (j : Nat) t v, Try.f3.params[j]? = some t → args[j]? = some v → Value.okWide Try.prog W .any base t v := hval0
  have hW' := hW
  obtain ⟨p, q, hA0, hV, rfl, hfz, hnd⟩ := hW
  have hA : DataW.TrodAll enc Try.prog W 0 (fun _ => true) true Try.f3.params.toList args.toList ds p := hA0
  rw [Try.params3] at hA hval
  obtain ⟨v0, vs0, d0, ds0, p0, q0, hargs, rfl, rfl, h0, r0⟩ := trodAll_cons hA
  obtain ⟨v1, vs1, d1, ds1, p1, q1, rfl, rfl, rfl, h1, r1⟩ := trodAll_cons r0
  obtain ⟨rfl, rfl, rfl⟩ := trodAll_nil r1
  obtain rfl : args = #[v0, v1] := by cases args; simp_all
  obtain ⟨rfl, rfl⟩ := trodVars_none hV
  obtain ⟨a0, n0, cap0, rfl⟩ := okWide_slice Try.underlying22 (hval 0 22 v0 rfl rfl)
  have k0 := h0
  have lt0 : ∀ x ∈ p0, x.block < W.heap.size := by obtain ⟨m, hm⟩ := k0; exact DataW.trod_lt m _ _ _ hm
  obtain ⟨es0, hn0, w0⟩ : ∃ es, n0 = es.length ∧ EvsAt W (.slice a0 n0 cap0) es (fun k => k < W.heap.size) := by
    obtain ⟨fuel, hf⟩ := h0
    exact evs_of_trod hf
  obtain ⟨a1, n1, cap1, rfl⟩ := okWide_slice Try.underlying22 (hval 1 22 v1 rfl rfl)
  have k1 := h1
  have lt1 : ∀ x ∈ p1, x.block < W.heap.size := by obtain ⟨m, hm⟩ := k1; exact DataW.trod_lt m _ _ _ hm
  obtain ⟨es1, hn1, w1⟩ : ∃ es, n1 = es.length ∧ EvsAt W (.slice a1 n1 cap1) es (fun k => k < W.heap.size) := by
    obtain ⟨fuel, hf⟩ := h1
    exact evs_of_trod hf
  clear hA0 hval0
  refine (walk a0 n0 cap0 es0 a1 n1 cap1 es1 W hn0 w0 hn1 w1).mono fun e W' ⟨he, hoff⟩ => ?_
  have bel : Below W.heap.size W W' := hoff.below (Nat.le_refl _) (fun _ _ c => c)
  subst he
  exact ⟨_, rfl, _, _, _, [], _, [], hW', trodAll_mk1 (shut_bool Try.underlying4 _), (trodAll_cons_mk (Below.trod laidOut (by kernel_rfl) (of_decide_eq_true (by kernel_rfl)) k0 bel lt0) (trodAll_cons_mk (Below.trod laidOut (by kernel_rfl) (of_decide_eq_true (by kernel_rfl)) k1 bel lt1) trodAll_mk0)), rfl, bel.frame _, fun h => by cases h⟩

theorem over : Rows.tapeKeepsRow.holds Try.pinned (OpenSpec.ofChange Rows.tapeKeepsSpec) :=
  OpenClaim.holds_of_wide 3 Try.f3 rfl rfl rfl rfl rfl rfl rfl ⟨rfl, rfl, rfl, rfl, rfl⟩ rfl rfl rfl rfl rfl (by kernel_rfl) Try.func3 (by kernel_rfl)
    (of_decide_eq_true (by kernel_rfl)) (by unfold Func.isWrapper; first | (rw [if_pos (by decide +kernel)]; kernel_rfl) | (rw [if_neg (by decide +kernel)]; exact ⟨rfl, rfl⟩))
    (fun os started H enc _ => lifted os started H enc)

theorem proved : Rows.TapeKeepsSaid := over
#print axioms proved
end Go.Proofs.Ytpaiigapffbinaa.tapeKeeps
