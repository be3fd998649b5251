/-
  slices.Concat over any number of lists of events. Condition: all of them together are short.
-/
import Derived.Test.YtiemajbcmmbjbaaDoorTapeMore
import Derived.Lib.AppendZeros
import Derived.Laws.AppendOwnNone
namespace Go.Proofs.YtiemajbcmmbjbaaDoor
open Go.RowKit
theorem evs_nil {w : World} {n cap : Nat} {es : List Ev} {S : Nat → Prop} (h : EvsAt w (.slice none n cap) es S) : n = 0 ∧ cap = 0 ∧ es = [] := by
  obtain ⟨a, c, hv, h1, h2, h3, h4⟩ := h
  simp at hv
  obtain ⟨rfl, rfl, rfl⟩ := hv
  have h0 : es.length = 0 := by
    rcases Nat.eq_zero_or_pos es.length with h | h
    · exact h
    · obtain ⟨b, off, he, _⟩ := h4 h
      cases he
  exact ⟨h0, h3 rfl, List.eq_nil_of_length_eq_zero h0⟩
/-- The cells of a list, as an append of it asks for them. -/
theorem evs_news {w : World} {x : Addr} {n cap : Nat} {es : List Ev} {S : Nat → Prop} (h : EvsAt w (.slice (some x) n cap) es S) : ∀ j u, (flat es)[j]? = some u → w.cell? (x.add j) = some u := by
  obtain ⟨a, c, hv, h1, h2, h3, h4⟩ := h
  simp at hv
  obtain ⟨rfl, rfl, rfl⟩ := hv
  intro j u hj
  have hlt := (List.getElem?_eq_some_iff.1 hj).1
  rw [flat_length] at hlt
  obtain ⟨b, off, he, _, hc⟩ := h4 (by omega)
  cases he
  rw [Addr.add_lit]
  exact flat_cells hc j u hj
set_option maxHeartbeats 1000000 in
set_option maxRecDepth 100000 in
theorem grow_pos (n : Nat) (hn : 0 < n) (hl : n ≤ 200000) (w : World) :
    Calls Tryd.prog 53 #[.slice none 0 0, .int .i64 (n : Int)] w fun e w' => (∃ c, e = .returned (.slice (some ⟨w.heap.size, 0, none⟩) 0 c) ∧ w'.ownsRow w.heap.size 55 3 (.slice (some ⟨w.heap.size, 0, none⟩) 0 c) 0 []) ∧ Off (fun _ => False) w w' := by
  obtain ⟨i0, hi, hz0, hz1, hz2⟩ := info_parts ev_info
  have hr := fun ty => Lib.run_append_nil_zeros (P := Tryd.prog) w 49 3 ty 55 i0 _ .i64 .i64 Tryd.underlying49 Tryd.underlying3 hi hz0 n hn (by omega) (by omega) (by rw [hz2]; omega)
  obtain ⟨c, hc⟩ : ∃ c, c = grownCap w n 0 55 := ⟨_, rfl⟩
  have hcn : n ≤ c := by rw [hc]; exact grownCap_ge w n 0 _
  have hcm : c ≤ maxLen := by rw [hc]; exact grownCap_le_maxLen w n 0 _ (by unfold maxLen; omega)
  rw [← hc] at hr
  obtain ⟨Z, hZ⟩ : ∃ Z, Z = Builtin.zeroCells (Value.cells (.agg #[.int .i64 0, .int .i64 0, .int .i64 0])) n ++ Builtin.zeroCells (Value.cells (.agg #[.int .i64 0, .int .i64 0, .int .i64 0])) (c - n) := ⟨_, rfl⟩
  have hzs : Z.size = c * 3 := by
    rw [hZ, Array.size_append, size_zeroCells, size_zeroCells]
    show n * 3 + (c - n) * 3 = c * 3
    omega
  rw [← hZ] at hr
  have hrow : (w.alloc (.cells Z 55)).drew.ownsRow w.heap.size 55 3 (.slice (some ⟨w.heap.size, 0, none⟩) 0 c) 0 [] := World.ownsRow_made w Z c (Nat.le_refl _) hcm hzs
  have hO : Off (fun _ => False) w (w.alloc (.cells Z 55)).drew := ((Off.refl (fun _ => False) w).alloc _).drew
  have HR := Lib.hid hrow
  have HO := Lib.hid hO
  have HRUN := Lib.hid hr
  clear hc hcn hcm hZ hzs hrow hO hr hz0 hz1 hz2 hi
  go_enter Tryd.func53, Tryd.ntmps53
  go_wp2_with (at_builtin; refine Lib.wpList_append_run _ rfl _ _ _ _ rfl _ _ rfl rfl _ _ (HRUN.out _) ?_)
  go_ret
  exact ⟨⟨c, rfl, HR.out⟩, HO.out⟩

set_option maxHeartbeats 400000 in
theorem grow_zero (w : World) :
    Calls Tryd.prog 53 #[.slice none 0 0, .int .i64 0] w fun e w' => e = .returned (.slice none 0 0) ∧ w = w' := by
  go_enter Tryd.func53, Tryd.ntmps53
  go_wp2
  go_ret
  exact ⟨rfl, rfl⟩

theorem grow_any (n : Nat) (hl : n ≤ 200000) (w : World) :
    Calls Tryd.prog 53 #[.slice none 0 0, .int .i64 (n : Int)] w fun e w' => (∃ a c, e = .returned (.slice a 0 c) ∧ w'.ownsRow w.heap.size 55 3 (.slice a 0 c) 0 []) ∧ Off (fun _ => False) w w' := by
  rcases Nat.eq_zero_or_pos n with rfl | h
  · refine (grow_zero w).mono ?_
    rintro e w' ⟨rfl, rfl⟩
    exact ⟨⟨none, 0, rfl, World.ownsRow_nil _ _ _ _⟩, Off.refl _ _⟩
  · refine (grow_pos n h hl w).mono ?_
    rintro e w' ⟨⟨c, rfl, hr⟩, ho⟩
    exact ⟨⟨_, c, rfl, hr⟩, ho⟩

/-- An append to a row of the call's own leaves what lay before as it lay. -/
theorem off_append {w W w1 : World} {n k : Nat} {T : TypeId} {v : Value} {xs : List Value} (hO : Off (fun _ => False) w W) (hn : w.heap.size ≤ n) (h : W.ownsRow n T 3 v k xs) (hg : W.grownBy w1 v.ownBlock) : Off (fun _ => False) w w1 :=
  hO.grown hg (fun j ej => by
    have hx := (h.lt j ej).1
    refine ⟨fun h => by omega, fun o ho => ?_⟩
    rcases h.2 with ⟨rfl, _⟩ | ⟨g, cap, cur, rfl, _, hgb, _⟩
    · simp [Value.ownBlock] at ej
    · obtain rfl : g = j := by simpa [Value.ownBlock] using ej
      rw [hgb] at ho; cases ho; rfl)

/-- The first j lists, one behind the other. -/
def catE (ls : Nat → List Ev) : Nat → List Ev
  | 0 => []
  | j + 1 => catE ls j ++ ls j
def totE (ls : Nat → List Ev) : Nat → Nat
  | 0 => 0
  | j + 1 => totE ls j + (ls j).length
theorem totE_mono (ls : Nat → List Ev) {i : Nat} : ∀ k, i ≤ k → totE ls i ≤ totE ls k
  | 0, h => by have : i = 0 := by omega
               subst this; exact Nat.le_refl _
  | k + 1, h => by
    by_cases e : i = k + 1
    · subst e; exact Nat.le_refl _
    · exact Nat.le_trans (totE_mono ls k (by omega)) (Nat.le_add_right _ _)
set_option maxHeartbeats 4000000 in
set_option maxRecDepth 100000 in
theorem concat_list (b k : Nat) (sv : Nat → Value) (ls : Nat → List Ev) (S : Nat → Prop) (w : World) (hk : k ≤ 100) (hc : ∀ i, i < k → w.cell? ⟨b, i, none⟩ = some (sv i)) (hE : ∀ i, i < k → EvsAt w (sv i) (ls i) S) (hT : totE ls k ≤ 90000) :
    Calls Tryd.prog 31 #[.slice (some ⟨b, 0, none⟩) k k] w fun e w' => ∃ v, e = .returned v ∧ w'.ownsRow w.heap.size 55 3 v (totE ls k) (flat (catE ls k)) ∧ Off (fun _ => False) w w' := by
  obtain ⟨i0, hi, hz0, hz1, hz2⟩ := info_parts ev_info
  have HC := Lib.hid hc
  have HE := Lib.hid hE
  have HG := Lib.hid (fun X => grow_any (totE ls k) (by omega) X)
  clear hc hE
  go_enter Tryd.func31, Tryd.ntmps31
  go_wp2
  go_loop [3, 11] (fun t i => ∃ j : Nat, j ≤ k ∧ i = .int .i64 (j : Int) ∧ t = .int .i64 (totE ls j : Int)) (fun _ i => k - (intOf i).toNat)
  case atStart => exact ⟨0, Nat.zero_le _, rfl, rfl⟩
  case round =>
    obtain ⟨j, hj, rfl, rfl⟩ := hrel
    by_cases hlt : j < k
    · obtain ⟨a, cap, hv, _⟩ := HE.out j hlt
      have c0 := HC.out j hlt
      rw [hv] at c0
      have hmo := totE_mono ls (i := j + 1) k (by omega)
      obtain ⟨n, hn⟩ : ∃ n, n = (ls j).length := ⟨_, rfl⟩
      obtain ⟨t, ht⟩ : ∃ t, t = totE ls j := ⟨_, rfl⟩
      obtain ⟨t2, ht2⟩ : ∃ t2, t2 = totE ls (j + 1) := ⟨_, rfl⟩
      have h2 : t2 = t + n := by rw [ht2, ht, hn]; rfl
      rw [← hn] at c0
      rw [← ht]
      have hw : IntKind.i64.wrap ((t : Int) + (n : Int)) = (t2 : Int) := by rw [IntKind.wrap_i64]; omega
      have hneg : ¬ ((t2 : Int) < 0) := by omega
      have hneg2 : decide ((t2 : Int) < 0) = false := by simp
      have hjk : (j : Int) < (k : Int) := by omega
      have hwj : IntKind.i64.wrap ((j : Int) + 1) = (j : Int) + 1 := by rw [IntKind.wrap_i64]; omega
      have HT2 := Lib.hid ht2
      clear hv hmo hn ht ht2 h2
      go_wp2
      go_round
      case rel => exact ⟨j + 1, by omega, by simp, by rw [← HT2.out]⟩
      case measure => simp [intOf] <;> omega
    · obtain rfl : j = k := by omega
      obtain ⟨T, hTt⟩ : ∃ T, T = totE ls j := ⟨_, rfl⟩
      rw [← hTt] at HG ⊢
      rw [← hTt] at hT
      have HTt := Lib.hid hTt
      clear hTt
      go_wp2_with fail
      refine (HG.out _).mono ?_
      rintro e w0 ⟨⟨ga, gc, rfl, hr0⟩, hO0⟩
      have HR0 := Lib.hid hr0
      have HO0 := Lib.hid hO0
      clear hr0 hO0 HG
      go_wp2
      go_loopw [6, 27] (fun v i wr => Off (fun _ => False) w wr ∧ ∃ q : Nat, q ≤ j ∧ i = .int .i64 (q : Int) ∧ ∃ a c, v = .slice a (totE ls q) c ∧ wr.ownsRow w.heap.size 55 3 v (totE ls q) (flat (catE ls q))) (fun _ i _ => j - (intOf i).toNat)
      case atStart => exact ⟨HO0.out, 0, Nat.zero_le _, rfl, _, _, rfl, HR0.out⟩
      case round =>
        obtain ⟨hO, q, hq, rfl, va, vc, rfl, hr⟩ := hrel
        by_cases hlt : q < j
        · have hEq := HE.out q hlt
          obtain ⟨a, cap, hv, _⟩ := HE.out q hlt
          have c0 := HC.out q hlt
          rw [hv] at c0 hEq
          have d0 := hO.cell c0 (fun c => c)
          have hX := hEq.off hO (fun _ _ _ c => c)
          have hmo := totE_mono ls (i := q + 1) j (by omega)
          have HF := Lib.hid (show flat (catE ls q) ++ flat (ls q) = flat (catE ls (q + 1)) by rw [← flat_append]; rfl)
          obtain ⟨n, hn⟩ : ∃ n, n = (ls q).length := ⟨_, rfl⟩
          obtain ⟨t, ht⟩ : ∃ t, t = totE ls q := ⟨_, rfl⟩
          have HT2 := Lib.hid (show totE ls (q + 1) = t + n by rw [ht, hn]; rfl)
          rw [← hn] at d0 hX
          rw [← ht] at hr ⊢
          have htn : t + n ≤ 90000 := by have := HT2.out; have := HTt.out; omega
          have hlen := Lib.hid (show (flat (ls q)).length = n * 3 by rw [flat_length, hn])
          have HO := Lib.hid hO
          have HR := Lib.hid hr
          have hsz := hO.size
          have hqj : (q : Int) < (j : Int) := by omega
          have hwq : IntKind.i64.wrap ((q : Int) + 1) = (q : Int) + 1 := by rw [IntKind.wrap_i64]; omega
          clear HR0 HO0 hO hr hv hmo hn ht hEq c0
          cases a with
          | none =>
            obtain ⟨h1, h2, h3⟩ := evs_nil hX
            have h4 : flat (catE ls (q + 1)) = flat (catE ls q) := by rw [← HF.out, h3]; simp [flat]
            have H4 := Lib.hid h4
            have H1 := Lib.hid h1
            subst h2
            clear h3 h4 hX
            subst h1
            go_wp2_with (at_builtin; refine wpList_append_own_none rfl _ _ 49 rfl w.heap.size 55 i0 3 Tryd.underlying49 hi _ t (flat (catE ls q)) rfl HR.out rfl ?_)
            go_wp2
            go_roundw
            case rel => exact ⟨HO.out, q + 1, by omega, by simp, _, _, by rw [HT2.out, Nat.add_zero], by rw [HT2.out, H4.out, Nat.add_zero]; exact HR.out⟩
            case measure => simp [intOf] <;> omega
          | some x =>
            have hnews := Lib.hid (evs_news hX)
            clear hX
            go_wp2_with (at_builtin; refine wpList_append_own _ rfl _ _ 49 rfl w.heap.size 55 i0 _ 3 24 Tryd.underlying49 hi hz0 hz1 hz2 rfl (by decide) _ t (flat (catE ls q)) rfl HR.out x n cap (flat (ls q)) rfl hlen.out hnews.out (flat_one _) ?q4 ?q5 hsz ?_)
            case q4 => unfold maxLen; omega
            case q5 => omega
            intro v' w1 hown hgrow hnil
            have HO1 := Lib.hid (off_append HO.out (Nat.le_refl _) HR.out hgrow)
            rw [HF.out] at hown
            have HW1 := Lib.hid hown
            clear hown hgrow hnil HR HO hnews
            go_wp2
            go_roundw
            case rel =>
              refine ⟨HO1.out, q + 1, by omega, by simp, ?_⟩
              rw [HT2.out]
              rcases HW1.out.2 with ⟨rfl, h0⟩ | ⟨g, cap, cur, rfl, _⟩
              · exact ⟨_, _, by rw [h0], HW1.out⟩
              · exact ⟨_, _, rfl, HW1.out⟩
            case measure => simp [intOf] <;> omega
        · obtain rfl : q = j := by omega
          have HO := Lib.hid hO
          have HR := Lib.hid hr
          clear HR0 HO0 hO hr
          go_wp2
          go_ret
          exact ⟨_, rfl, by rw [HTt.out]; exact HR.out, HO.out⟩
end Go.Proofs.YtiemajbcmmbjbaaDoor
