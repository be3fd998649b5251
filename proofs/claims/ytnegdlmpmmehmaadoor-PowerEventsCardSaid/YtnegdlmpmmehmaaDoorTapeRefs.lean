/-
  Contracts of the reference's First, Same, Of and After over this seat's translation: the number of events in the longest common beginning, or -1; whether two lists are the same; the events with a kind; the events after the first n ones. Conditions: the lists lie in memory as their slices say and have at most 100000 events.
-/
import Derived.Test.YtnegdlmpmmehmaaDoorTapeFirst
import Derived.Deep.LoopGhost
import Derived.Lib.Walk
import Derived.Lib.SliceRun
namespace Go.Proofs.YtnegdlmpmmehmaaDoor
open Go.RowKit

theorem evs_len {w : World} {a : Option Addr} {n cap : Nat} {es : List Ev} {S : Nat → Prop} (h : EvsAt w (.slice a n cap) es S) : n = es.length := by
  obtain ⟨a', cap', e, _⟩ := h
  simp at e; omega

theorem firstV_at {ls ms : List Ev} {k : Nat} (hA : ∀ j, j < k → ls[j]? = ms[j]?) (h1 : k ≤ ls.length) (h2 : k ≤ ms.length) (hne : ls[k]? ≠ ms[k]?) : firstV ls ms = k := by
  have h : ls ≠ ms := by rintro rfl; exact hne rfl
  simp [firstV, h, lcp_at ls ms k hA h1 h2 (.inr (.inr hne))]
theorem firstV_same {ls ms : List Ev} (hA : ∀ j, j < ls.length → ls[j]? = ms[j]?) (hl : ls.length = ms.length) : firstV ls ms = -1 := by
  have : ls = ms := List.ext_getElem? fun j => by
    by_cases h : j < ls.length
    · exact hA j h
    · rw [List.getElem?_eq_none (by omega), List.getElem?_eq_none (by omega)]
  simp [firstV, this]

set_option maxHeartbeats 4000000 in
set_option maxRecDepth 100000 in
theorem reffirst_any (sx sy : Value) (ls ms : List Ev) (Sx Sy : Nat → Prop) (w : World) (hx : EvsAt w sx ls Sx) (hy : EvsAt w sy ms Sy) (hl : ls.length ≤ 100000) (hm : ms.length ≤ 100000) :
    Calls Tryd.prog 44 #[sx, sy] w fun e w' => e = .returned (.int .i64 (firstV ls ms)) ∧ ∃ q, w' = w.drewN q := by
  obtain ⟨a, cap, rfl, _, _, _, hc⟩ := hx
  obtain ⟨b, cap2, rfl, _, _, _, hc2⟩ := hy
  obtain ⟨m, hm'⟩ : ∃ m, m = ls.length := ⟨_, rfl⟩
  obtain ⟨n, hn'⟩ : ∃ n, n = ms.length := ⟨_, rfl⟩
  rw [← hm'] at hc hl ⊢
  rw [← hn'] at hc2 hm ⊢
  have HM := Lib.hid hm'
  have HN := Lib.hid hn'
  clear hm' hn'
  go_enter Tryd.func44, Tryd.ntmps44
  go_wp2
  go_loopg [5] m (fun g s5 wr => ∃ k q : Nat, k ≤ m ∧ k ≤ n ∧ m - k ≤ g ∧ s5 = .int .i64 k ∧ wr = w.drewN q ∧ Aside (∀ j, j < k → ls[j]? = ms[j]?))
  case atStart => exact ⟨0, 0, Nat.zero_le _, Nat.zero_le _, by omega, rfl, rfl, fun j hj => absurd hj (Nat.not_lt_zero _)⟩
  case round =>
    obtain ⟨k, q, hk, hk2, hg, rfl, rfl, A⟩ := hrel
    by_cases h1 : k < m
    · by_cases h2 : k < n
      · obtain ⟨b1, o1, rfl, _, hd1⟩ := hc (by omega)
        obtain ⟨b2, o2, rfl, _, hd2⟩ := hc2 (by omega)
        obtain ⟨x, hx⟩ : ∃ x, ls[k]? = some x := ⟨ls[k]'(by have := HM.out; omega), List.getElem?_eq_getElem _⟩
        obtain ⟨y, hy⟩ : ∃ y, ms[k]? = some y := ⟨ms[k]'(by have := HN.out; omega), List.getElem?_eq_getElem _⟩
        obtain ⟨c0, c1, c2⟩ := hd1 k x hx
        obtain ⟨d0, d1, d2⟩ := hd2 k y hy
        have HX := Lib.hid hx
        have HY := Lib.hid hy
        clear hc hc2 hd1 hd2 hx hy
        by_cases hxy : x = y
        · have hne : ∀ X : World, (binOp .neq 76 (.agg #[.int .i64 x.1, .int .i64 x.2.1, .int .i64 x.2.2]) (.agg #[.int .i64 y.1, .int .i64 y.2.1, .int .i64 y.2.2])).run Tryd.prog X = .ok (.bool false) X := fun X => by
            have := neq_ev x y X
            rw [decide_eq_true hxy] at this; exact this
          have HXY := Lib.hid hxy
          clear hxy
          go_wp2_with fail
          go_region
          go_wp2
          go_roundg (m - (k + 1))
          case measure => omega
          case rel =>
            refine ⟨k + 1, q + 1, by omega, by omega, by omega, by go_num, rfl, (show Aside _ from fun j hj => ?_)⟩
            by_cases e : j = k
            · subst e
              rw [HX.out, HY.out, HXY.out]
            · exact A.out j (by omega)
        · have hne : ∀ X : World, (binOp .neq 76 (.agg #[.int .i64 x.1, .int .i64 x.2.1, .int .i64 x.2.2]) (.agg #[.int .i64 y.1, .int .i64 y.2.1, .int .i64 y.2.2])).run Tryd.prog X = .ok (.bool true) X := fun X => by
            have := neq_ev x y X
            rw [decide_eq_false hxy] at this; exact this
          have HXY := Lib.hid hxy
          clear hxy
          go_wp2_with fail
          go_region
          go_wp2
          go_ret
          refine ⟨?_, q + 1, rfl⟩
          rw [firstV_at A.out (by have := HM.out; omega) (by have := HN.out; omega) (by rw [HX.out, HY.out]; intro e; exact HXY.out (Option.some.inj e))]
          rfl
      · obtain rfl : k = n := by omega
        have hmn : ((k : Int) == m) = false := by simp; omega
        have hv : firstV ls ms = k := firstV_at A.out (by have := HM.out; omega) (by have := HN.out; omega) (by
          rw [List.getElem?_eq_none (l := ms) (by have := HN.out; omega), List.getElem?_eq_getElem (by have := HM.out; omega)]; simp)
        have HV := Lib.hid hv
        clear hc hc2 hv
        go_wp2
        go_ret
        refine ⟨?_, q, rfl⟩
        rw [HV.out]
        rfl
    · obtain rfl : k = m := by omega
      by_cases hkn : k = n
      · have hmn : ((k : Int) == n) = true := by simp [hkn]
        have hv : firstV ls ms = -1 := firstV_same (fun j hj => A.out j (by have := HM.out; omega)) (by have := HM.out; have := HN.out; omega)
        have HV := Lib.hid hv
        clear hc hc2 hv hkn
        go_wp2
        go_ret
        refine ⟨?_, q, rfl⟩
        rw [HV.out]
        rfl
      · have hmn : ((k : Int) == n) = false := by simp; omega
        have hv : firstV ls ms = k := firstV_at A.out (by have := HM.out; omega) (by have := HN.out; omega) (by
          rw [List.getElem?_eq_none (l := ls) (by have := HM.out; omega), List.getElem?_eq_getElem (by have := HN.out; omega)]; simp)
        have HV := Lib.hid hv
        clear hc hc2 hv hkn
        go_wp2
        go_ret
        refine ⟨?_, q, rfl⟩
        rw [HV.out]
        rfl

theorem off_drewN (S : Nat → Prop) (w : World) (q : Nat) : Off S w (w.drewN q) := ⟨rfl, rfl, rfl, Nat.le_refl _, fun _ _ _ => rfl, fun _ _ h _ => h⟩

set_option maxHeartbeats 400000 in
theorem same_any (sx sy : Value) (ls ms : List Ev) (Sx Sy : Nat → Prop) (w : World) (hx : EvsAt w sx ls Sx) (hy : EvsAt w sy ms Sy) (hl : ls.length ≤ 100000) (hm : ms.length ≤ 100000) :
    Calls Tryd.prog 21 #[sx, sy] w fun e w' => e = .returned (.bool (decide (ls = ms))) ∧ Off (fun _ => False) w w' := by
  have HF := reffirst_any sx sy ls ms Sx Sy w hx hy hl hm
  obtain ⟨a, cap, rfl, _⟩ := hx
  obtain ⟨b, cap2, rfl, _⟩ := hy
  by_cases h : ls = ms
  · have hv : firstV ls ms = -1 := by simp [firstV, h]
    rw [hv] at HF
    rw [decide_eq_true h]
    clear h hv
    go_enter Tryd.func21, Tryd.ntmps21
    go_wp2_with fail
    refine HF.mono ?_
    rintro e w1 ⟨rfl, q, rfl⟩
    go_wp2
    go_ret
    exact ⟨rfl, off_drewN _ _ _⟩
  · obtain ⟨n, hv⟩ : ∃ n : Nat, firstV ls ms = n := ⟨lcp ls ms, by simp [firstV, h]⟩
    rw [hv] at HF
    rw [decide_eq_false h]
    have hn : ((n : Int) == -1) = false := by simp
    clear h hv
    go_enter Tryd.func21, Tryd.ntmps21
    go_wp2_with fail
    refine HF.mono ?_
    rintro e w1 ⟨rfl, q, rfl⟩
    go_wp2
    go_ret
    exact ⟨rfl, off_drewN _ _ _⟩

/-- The events after the first n ones. -/
def afterV (es : List Ev) (n : Int) : List Ev := es.drop n.toNat

end Go.Proofs.YtnegdlmpmmehmaaDoor
