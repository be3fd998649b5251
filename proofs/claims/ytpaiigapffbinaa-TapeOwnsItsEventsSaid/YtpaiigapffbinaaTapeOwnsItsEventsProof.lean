/-
  For every list of events and every kind, the examples of the chapter hold, and a tape keeps its events when the list with which it was made or a list that it returned is changed, and a list that it returned stays when an event is noted, and the list stays as it was (of a list of more than 3000 events only the examples are asked): the statement of P2.1 and P2.2 for what the tape owns. No condition.
-/
import Derived.Test.YtpaiigapffbinaaRows
import Derived.Test.YtpaiigapffbinaaTapeOpen
import Derived.WalkKit
import Derived.ProofKit
import Derived.OpenShut
import Derived.ShutString
import Derived.ChangeOld
import Derived.Below
namespace Go.Proofs.Ytpaiigapffbinaa.tapeOwnsItsEvents
open Go.ChangeShapes Go.WideShapes Go.ChangeAt Go.RowKit
set_option linter.unusedVariables false

theorem own : ownKnob Try.prog.godebug = none := by kernel_rfl
theorem laidOut : laidOutB Try.prog = true := by kernel_rfl

/-- The slice v has n elements of three cells that hold numbers and can be written, in a block within S. -/
def NumRow (W : World) (v : Value) (n : Nat) (S : Nat → Prop) : Prop :=
  (n = 0 ∧ ∃ a c, v = .slice a 0 c) ∨ ∃ g c cur, v = .slice (some ⟨g, 0, none⟩) n c ∧ S g ∧ W.heap[g]? = some (.cells cur 28 (0, 0)) ∧ ∀ j, j < n * 3 → ∃ z, cur[j]? = some (.int .i64 z)
theorem flat_int : ∀ (l : List Ev) (j : Nat), j < l.length * 3 → ∃ z, (flat l)[j]? = some (.int .i64 z)
  | [], j, h => by simp at h
  | e :: l, 0, _ => ⟨e.1, rfl⟩
  | e :: l, 1, _ => ⟨e.2.1, rfl⟩
  | e :: l, 2, _ => ⟨e.2.2, rfl⟩
  | e :: l, j + 3, h => by
    obtain ⟨z, hz⟩ := flat_int l j (by simp at h; omega)
    exact ⟨z, by simpa [flat] using hz⟩
theorem numRow_of_own {W : World} {base n : Nat} {v : Value} {l : List Ev} (h : W.ownsRow base 28 3 v n (flat l)) : NumRow W v n (fun k => base ≤ k) := by
  have hl := h.1
  rw [flat_length] at hl
  rcases h.2 with ⟨rfl, h0⟩ | ⟨g, cap, cur, rfl, hb, hg, hn, hm, hs, ht⟩
  · exact .inl ⟨h0, none, 0, rfl⟩
  · refine .inr ⟨g, cap, cur, rfl, hb, hg, fun j hj => ?_⟩
    obtain ⟨z, hz⟩ := flat_int l j (by omega)
    refine ⟨z, ?_⟩
    rw [← ht, List.getElem?_take] at hz
    rw [if_pos hj] at hz
    simpa using hz
theorem NumRow.off {W W' : World} {v : Value} {n : Nat} {S S' : Nat → Prop} (h : NumRow W v n S) (ho : Off S' W W') (hd : ∀ k, k < W.heap.size → S k → ¬ S' k) : NumRow W' v n S := by
  rcases h with h | ⟨g, c, cur, hv, hS, hg, hz⟩
  · exact .inl h
  · exact .inr ⟨g, c, cur, hv, hS, ho.heap hg (hd _ (heap_lt hg) hS), hz⟩
theorem NumRow.mono {W : World} {v : Value} {n : Nat} {S S' : Nat → Prop} (h : NumRow W v n S) (hs : ∀ k, k < W.heap.size → S k → S' k) : NumRow W v n S' := by
  rcases h with h | ⟨g, c, cur, hv, hS, hg, hz⟩
  · exact .inl h
  · exact .inr ⟨g, c, cur, hv, hs _ (heap_lt hg) hS, hg, hz⟩
/-- One element's number is read and written. -/
theorem NumRow.at {W : World} {v : Value} {n : Nat} {S : Nat → Prop} (h : NumRow W v n S) {k r : Nat} (hk : k < n) (hr : r < 3) : ∃ g c z, v = .slice (some ⟨g, 0, none⟩) n c ∧ S g ∧ W.cell? ⟨g, k * 3 + r, none⟩ = some (.int .i64 z) ∧ W.frozen? ⟨g, k * 3 + r, none⟩ = false ∧
    ∀ y : Int, NumRow (W.setCell ⟨g, k * 3 + r, none⟩ (.int .i64 y)) v n S ∧ Off S W (W.setCell ⟨g, k * 3 + r, none⟩ (.int .i64 y)) := by
  rcases h with ⟨h0, _⟩ | ⟨g, c, cur, hv, hS, hg, hz⟩
  · omega
  · obtain ⟨z, hzz⟩ := hz (k * 3 + r) (by omega)
    refine ⟨g, c, z, hv, hS, (cell_of_heap hg _).trans hzz, frozen_of_heap hg _, fun y => ⟨.inr ⟨g, c, _, hv, hS, heap_set hg _ _, fun j hj => ?_⟩, (Off.refl S W).setCell (p := ⟨g, k * 3 + r, none⟩) (fun _ => hS) _⟩⟩
    by_cases e : j = k * 3 + r
    · subst e
      exact ⟨y, Array.getElem?_setIfInBounds_self_of_lt (Array.getElem?_eq_some_iff.1 hzz).1⟩
    · obtain ⟨x, hx⟩ := hz j hj
      exact ⟨x, by rw [Array.getElem?_setIfInBounds_ne (Ne.symm e)]; exact hx⟩
theorem NumRow.shape {W : World} {v : Value} {n : Nat} {S : Nat → Prop} (h : NumRow W v n S) : ∃ a c, v = .slice a n c := by
  rcases h with ⟨rfl, a, c, rfl⟩ | ⟨g, c, _, rfl, _⟩ <;> exact ⟨_, _, rfl⟩

set_option maxHeartbeats 4000000 in
theorem walk (a0 : Option Addr) (n0 cap0 : Nat) (es0 : List Ev) (i1 : Int) (w : World) (hn0 : n0 = es0.length) (w0 : EvsAt w (.slice a0 n0 cap0) es0 (fun k => k < w.heap.size)) (w1 : (Lit.int .i64 i1).wf = true) :
    Calls Try.prog 7 #[.slice a0 n0 cap0, .int .i64 i1] w fun e w' => e = .returned (.bool true) ∧ Off (fun _ => False) w w' := by
  have hlong := long1_any w.heap.size a0 n0 cap0 (w.alloc (.cells #[.slice a0 n0 cap0] 22)) (by simp [go_sem])
  by_cases hl : 3000 < n0
  · rw [decide_eq_true hl] at hlong
    clear hl w0 hn0
    go_enter Try.func7, Try.ntmps7
    go_wp2_with fail
    refine hlong.mono ?_
    rintro e w1 ⟨rfl, rfl⟩
    go_wp2_with fail
    refine (alive_any _).mono ?_
    rintro e w2 ⟨rfl, hO⟩
    go_wp2
    go_ret
    exact ⟨rfl, ((Off.refl _ w).alloc _).trans hO (fun _ _ c => c)⟩
  · rw [decide_eq_false hl] at hlong
    have hA1 : Off (fun _ => False) w (w.alloc (.cells #[.slice a0 n0 cap0] 22)) := (Off.refl _ w).alloc _
    have hcl := clone_any _ es0 _ _ (w0.off hA1 (fun _ _ _ c => c)) (by omega)
    have HN := Lib.hid hn0
    have hm0 : n0 ≤ 3000 := by omega
    have hle : es0.length ≤ 3000 := by omega
    have HX := Lib.hid w0
    rw [World.size_alloc] at hcl
    clear w0 hn0 hl
    go_enter Try.func7, Try.ntmps7
    go_wp2_with fail
    refine hlong.mono ?_
    rintro e w1 ⟨rfl, rfl⟩
    -- m
    go_wp2_with fail
    refine hcl.mono ?_
    rintro e w2 ⟨vm, rfl, hown2, hO2⟩
    have hA2 := hA1.trans hO2 (fun _ _ c => c)
    have hsz2 : w.heap.size + 1 ≤ w2.heap.size := by have := hO2.size; rw [World.size_alloc] at this; exact this
    have hM2 : NumRow w2 vm n0 (fun k => w.heap.size + 1 ≤ k ∧ k < w2.heap.size) := by
      rw [HN.out]; exact (numRow_of_own hown2).mono (fun k hk h => ⟨h, hk⟩)
    have hnew := new_any vm es0 _ _ (evs_of_own hown2) (by omega)
    clear hcl hlong hA1 hO2 hown2
    -- t
    go_wp2_with fail
    refine hnew.mono ?_
    rintro e w3 ⟨rfl, hT3, hO3⟩
    have hA3 := hA2.trans hO3 (fun _ _ c => c)
    have hsz3 := hO3.size
    have hM3 := hM2.off hO3 (fun _ _ _ c => c)
    have ht3 : TapeAt w3 w2.heap.size es0 (fun k => w2.heap.size ≤ k ∧ k < w3.heap.size) := TapeG.mono hT3 (fun k hk h => ⟨h, hk⟩)
    have hev3 := events_own _ _ _ w3 (show TapeV w3 (.pointer (some ⟨w2.heap.size, 0, none⟩)) es0 _ from .inr ⟨_, rfl, ht3⟩) (by omega)
    rw [← HN.out] at hev3
    clear hnew hA2 hM2 hT3 hO3
    -- a
    go_wp2_with fail
    refine hev3.mono ?_
    rintro e w4 ⟨va, rfl, ha4, hO4⟩
    have hA4 := hA3.trans hO4 (fun _ _ c => c)
    have hsz4 := hO4.size
    have hM4 := hM3.off hO4 (fun _ _ _ c => c)
    have hR4 : NumRow w4 va n0 (fun k => w3.heap.size ≤ k ∧ k < w4.heap.size) := (numRow_of_own ha4).mono (fun k hk h => ⟨h, hk⟩)
    have ht4 : TapeAt w4 w2.heap.size es0 _ := TapeG.off ht3 hO4 (fun _ _ _ c => c)
    have hsi4 := since_any _ _ _ 0 w4 (show TapeV w4 (.pointer (some ⟨w2.heap.size, 0, none⟩)) es0 _ from .inr ⟨_, rfl, ht4⟩) (by omega)
    have hz0 : afterV es0 0 = es0 := rfl
    rw [hz0] at hsi4
    clear hev3 hA3 hM3 ht3 hO4 ha4 hz0
    -- b
    go_wp2_with fail
    refine hsi4.mono ?_
    rintro e w5 ⟨vb, rfl, hb5, hO5⟩
    have hA5 := hA4.trans hO5 (fun _ _ c => c)
    have hsz5 := hO5.size
    have hM5 := hM4.off hO5 (fun _ _ _ c => c)
    have hR5 := hR4.off hO5 (fun _ _ _ c => c)
    have ht5 : TapeAt w5 w2.heap.size es0 _ := TapeG.off ht4 hO5 (fun _ _ _ c => c)
    obtain ⟨ma, mc, rfl⟩ := hM5.shape
    obtain ⟨ra, rc, rfl⟩ := hR5.shape
    have HA5 := Lib.hid hA5
    have HM5 := Lib.hid hM5
    have HR5 := Lib.hid hR5
    have HT5 := Lib.hid ht5
    have HB5 : Hid (EvsAt w5 vb es0 (fun k => w4.heap.size ≤ k ∧ k < w5.heap.size)) := Lib.hid (hb5.mono (fun k hk h => ⟨h, hk⟩))
    clear hsi4 hA4 hM4 hR4 ht4 hO5 hA5 hM5 hR5 ht5 hb5
    -- m[i].A++
    go_wp2
    go_loopw [25] (fun i wr => ∃ k : Nat, k ≤ n0 ∧ i = .int .i64 k ∧ NumRow wr (.slice ma n0 mc) n0 (fun k => w.heap.size + 1 ≤ k ∧ k < w2.heap.size) ∧ Off (fun k => w.heap.size + 1 ≤ k ∧ k < w2.heap.size) w5 wr) (fun i _ => n0 - (intOf i).toNat)
    case atStart => exact ⟨0, Nat.zero_le _, rfl, HM5.out, Off.refl _ _⟩
    case round =>
      obtain ⟨k, hk, rfl, hM, hO⟩ := hrel
      by_cases hlt : k < n0
      · obtain ⟨g, c, z, hv, hS, hc, hf, hstep⟩ := hM.at hlt (r := 1) (by omega)
        obtain ⟨rfl, rfl⟩ : ma = some ⟨g, 0, none⟩ ∧ mc = c := by simpa using hv
        have HST := Lib.hid (hstep (wrap64 (z + 1)))
        have HO := Lib.hid hO
        clear hM hO hstep hv
        go_wp2
        exact ⟨⟨k + 1, by omega, by simp, HST.out.1, HO.out.trans HST.out.2 (fun _ _ h => h)⟩, by simp [intOf]; omega⟩
      · obtain rfl : k = n0 := by omega
        have HO5 := Lib.hid hO
        have HR6 := Lib.hid (HR5.out.off hO (fun j _ h1 h2 => by omega))
        clear hM hO HM5 HR5
        -- a[i].B++
        go_wp2
        go_loopw [39] (fun i wr2 => ∃ j : Nat, j ≤ k ∧ i = .int .i64 j ∧ NumRow wr2 (.slice ra k rc) k (fun x => w3.heap.size ≤ x ∧ x < w4.heap.size) ∧ Off (fun x => w3.heap.size ≤ x ∧ x < w4.heap.size) wr wr2) (fun i _ => k - (intOf i).toNat)
        case atStart => exact ⟨0, Nat.zero_le _, rfl, HR6.out, Off.refl _ _⟩
        case round =>
          obtain ⟨j, hj, rfl, hM, hO⟩ := hrel
          by_cases hlt2 : j < k
          · obtain ⟨g, c, z, hv, hS, hc, hf, hstep⟩ := hM.at hlt2 (r := 2) (by omega)
            obtain ⟨rfl, rfl⟩ : ra = some ⟨g, 0, none⟩ ∧ rc = c := by simpa using hv
            have HST := Lib.hid (hstep (wrap64 (z + 1)))
            have HO := Lib.hid hO
            clear hM hO hstep hv
            go_wp2
            exact ⟨⟨j + 1, by omega, by simp, HST.out.1, HO.out.trans HST.out.2 (fun _ _ h => h)⟩, by simp [intOf]; omega⟩
          · obtain rfl : j = k := by omega
            have h56 : Off (fun x => (w.heap.size + 1 ≤ x ∧ x < w2.heap.size) ∨ (w3.heap.size ≤ x ∧ x < w4.heap.size)) w5 wr := (HO5.out.mono (fun _ _ h => .inl h)).trans hO (fun _ _ h => .inr h)
            have hsz6 := h56.size
            have hA6 : Off (fun _ => False) w wr := HA5.out.trans h56 (fun x hx h => by omega)
            have ht6 : TapeAt wr w2.heap.size es0 _ := TapeG.off HT5.out h56 (fun x _ h1 h2 => by omega)
            have hb6 := HB5.out.off h56 (fun x _ h1 h2 => by omega)
            have hnote := note_any _ es0 _ wr ht6 (by omega) (i1, 0, 0)
            clear hM hO HO5 HA5 HT5 HB5 HR6 h56
            go_wp2_with fail
            refine hnote.mono ?_
            rintro r w7 ⟨rfl, hT7, hO7⟩
            have hsz7 := hO7.size
            have hb7 := hb6.off hO7 (fun x _ h1 h2 => by omega)
            have hA7 := hA6.trans hO7 (fun x hx h => by omega)
            have tt7 : TapeV w7 (.pointer (some ⟨w2.heap.size, 0, none⟩)) (es0 ++ [(i1, 0, 0)]) _ := .inr ⟨_, rfl, hT7⟩
            clear hnote hT7 hO7 hb6 hA6 ht6
            go_wp2_with fail
            refine (alive_any _).mono ?_
            rintro r w8 ⟨rfl, hO8⟩
            have hA8 := hA7.trans hO8 (fun _ _ c => c)
            have tt8 := tt7.off hO8 (fun _ _ _ c => c)
            have hb8 := hb7.off hO8 (fun _ _ _ c => c)
            have hsame8 := same_any _ _ _ _ _ _ _ hb8 (HX.out.off hA8 (fun _ _ _ c => c)) (by omega) (by omega)
            rw [decide_eq_true rfl] at hsame8
            clear hO8 hA7 tt7 hb7
            go_wp2_with fail
            refine hsame8.mono ?_
            rintro r w9 ⟨rfl, hO9⟩
            have hA9 := hA8.trans hO9 (fun _ _ c => c)
            have tt9 := tt8.off hO9 (fun _ _ _ c => c)
            have hl9 : (es0 ++ [(i1, 0, 0)]).length = j + 1 := by rw [List.length_append, ← HN.out]; rfl
            have hev9 := events_any _ _ _ w9 tt9 (by omega)
            clear hO9 hA8 tt8 hb8 hsame8
            go_wp2_with fail
            refine hev9.mono ?_
            rintro r w10 ⟨q10, rfl, hq10, hO10⟩
            have hA10 := hA9.trans hO10 (fun _ _ c => c)
            have tt10 := tt9.off hO10 (fun _ _ _ c => c)
            have hal10 : Off (fun _ => False) w10 ((w10.alloc (.cells #[.int .i64 i1, .int .i64 0, .int .i64 0] 28)).alloc (.cells #[.slice a0 j cap0, .slice (some ⟨w10.heap.size, 0, none⟩) 1 1] 22)) := ((Off.refl _ w10).alloc _).alloc _
            have hone := (evs_one w10 (i1, 0, 0) 28 0 (Nat.zero_le _)).off ((Off.refl (fun _ => False) _).alloc (.cells #[.slice a0 j cap0, .slice (some ⟨w10.heap.size, 0, none⟩) 1 1] 22)) (fun _ _ _ c => c)
            have hcat10 := concat_any (w10.heap.size + 1) (.slice a0 j cap0) (.slice (some ⟨w10.heap.size, 0, none⟩) 1 1) es0 [(i1, 0, 0)] _ _ ((w10.alloc (.cells #[.int .i64 i1, .int .i64 0, .int .i64 0] 28)).alloc (.cells #[.slice a0 j cap0, .slice (some ⟨w10.heap.size, 0, none⟩) 1 1] 22)) (by simp [go_sem]) (by simp [go_sem]) (HX.out.off (hA10.trans hal10 (fun _ _ c => c)) (fun _ _ _ c => c)) hone (by omega) (by simp)
            clear hO10 hA9 tt9 hev9 hone
            go_wp2_with fail
            refine hcat10.mono ?_
            rintro r w11 ⟨c11, rfl, hown11, hO11⟩
            have hO11' := hal10.trans hO11 (fun _ _ c => c)
            have hA11 := hA10.trans hO11' (fun _ _ c => c)
            have tt11 := tt10.off hO11' (fun _ _ _ c => c)
            have hsame11 := same_any _ _ _ _ _ _ _ (hq10.off hO11' (fun _ _ _ c => c)) (evs_of_own hown11) (by omega) (by omega)
            rw [decide_eq_true rfl] at hsame11
            clear hO11 hA10 tt10 hcat10 hal10 hO11' hown11 hq10
            go_wp2_with fail
            refine hsame11.mono ?_
            rintro r w12 ⟨rfl, hO12⟩
            have hA12 := hA11.trans hO12 (fun _ _ c => c)
            have tt12 := tt11.off hO12 (fun _ _ _ c => c)
            have hlen12 := len_any _ _ _ w12 tt12
            rw [hl9] at hlen12
            have hlen12' : Calls Try.prog 13 #[.pointer (some ⟨w2.heap.size, 0, none⟩)] w12 fun r w' => r = .returned (.int .i64 ((j : Int) + 1)) ∧ w12 = w' := by simpa using hlen12
            clear hO12 hA11 tt11 tt12 hsame11 hlen12
            go_wp2_with fail
            refine hlen12'.mono ?_
            rintro r w' ⟨rfl, rfl⟩
            go_wp2
            go_ret
            exact ⟨rfl, hA12⟩

set_option maxRecDepth 100000 in
theorem lifted (os : Os) (started : os.Started) (H : Type) (enc : TypeId × Value → H) :
    ReturnsInHanded {} Try.checked os 7 .any (Rows.tapeOwnsItsEventsSpec.pre6 enc Try.prog Try.f7 Rows.tapeOwnsItsEventsRow.domain false) (Rows.tapeOwnsItsEventsSpec.post enc Try.prog Try.f7 false true false false) := by
  refine returnsInHanded_of_change (C := Try.checked) own started (by kernel_rfl) Try.func7
    (ChangeSpec.witness6 (enc := enc) (C := Try.checked) false ⟨#[], #[.slice none 0 0, .int .i64 0], []⟩ 8 (by kernel_rfl) (by kernel_rfl) (by kernel_rfl) (by kernel_rfl)) ?_
  intro W base args ds gs before hval0 hW hcnd _
  have hval : ∀ (j : Nat) t v, Try.f7.params[j]? = some t → args[j]? = some v → Value.okWide Try.prog W .any base t v := hval0
  have hW' := hW
  obtain ⟨p, q, hA0, hV, rfl, hfz, hnd⟩ := hW
  have hA : DataW.TrodAll enc Try.prog W 0 (fun _ => true) true Try.f7.params.toList args.toList ds p := hA0
  rw [Try.params7] at hA hval
  obtain ⟨v0, vs0, d0, ds0, p0, q0, hargs, rfl, rfl, h0, r0⟩ := trodAll_cons hA
  obtain ⟨v1, vs1, d1, ds1, p1, q1, rfl, rfl, rfl, h1, r1⟩ := trodAll_cons r0
  obtain ⟨rfl, rfl, rfl⟩ := trodAll_nil r1
  obtain rfl : args = #[v0, v1] := by cases args; simp_all
  obtain ⟨rfl, rfl⟩ := trodVars_none hV
  obtain ⟨a0, n0, cap0, rfl⟩ := okWide_slice Try.underlying22 (hval 0 22 v0 rfl rfl)
  have k0 := h0
  have lt0 : ∀ x ∈ p0, x.block < W.heap.size := by obtain ⟨m, hm⟩ := k0; exact DataW.trod_lt m _ _ _ hm
  obtain ⟨es0, hn0, w0⟩ : ∃ es, n0 = es.length ∧ EvsAt W (.slice a0 n0 cap0) es (fun k => k < W.heap.size) := by
    obtain ⟨fuel, hf⟩ := h0
    exact evs_of_trod hf
  obtain ⟨i1, rfl, rfl, rfl, w1⟩ := open_int Try.underlying3 (hval 1 3 v1 rfl rfl) h1
  clear hA0 hval0
  refine (walk a0 n0 cap0 es0 i1 W hn0 w0 w1).mono fun e W' ⟨he, hoff⟩ => ?_
  have bel : Below W.heap.size W W' := hoff.below (Nat.le_refl _) (fun _ _ c => c)
  subst he
  exact ⟨_, rfl, _, _, _, [], _, [], hW', trodAll_mk1 (shut_bool Try.underlying4 _), (trodAll_cons_mk (Below.trod laidOut (by kernel_rfl) (of_decide_eq_true (by kernel_rfl)) k0 bel lt0) (trodAll_cons_mk (shut_int Try.underlying3 w1) trodAll_mk0)), rfl, bel.frame _, fun h => by cases h⟩

theorem over : Rows.tapeOwnsItsEventsRow.holds Try.pinned (OpenSpec.ofChange Rows.tapeOwnsItsEventsSpec) :=
  OpenClaim.holds_of_wide 7 Try.f7 rfl rfl rfl rfl rfl rfl rfl ⟨rfl, rfl, rfl, rfl, rfl⟩ rfl rfl rfl rfl rfl (by kernel_rfl) Try.func7 (by kernel_rfl)
    (of_decide_eq_true (by kernel_rfl)) (by unfold Func.isWrapper; first | (rw [if_pos (by decide +kernel)]; kernel_rfl) | (rw [if_neg (by decide +kernel)]; exact ⟨rfl, rfl⟩))
    (fun os started H enc _ => lifted os started H enc)

theorem proved : Rows.TapeOwnsItsEventsSaid := over
#print axioms proved
end Go.Proofs.Ytpaiigapffbinaa.tapeOwnsItsEvents
