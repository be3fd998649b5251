/-
  split: the elements with even indices and those with odd ones, in rows of the call's own. Condition: the list has an even number of elements, at most 256.
-/
import Derived.Test.YtghacjhempmejaaDoorDftOwn
import Derived.Maps.AppendAt
import Derived.Lib.AppendZeros
import Derived.Laws.OwnMore
namespace Go.Proofs.YtghacjhempmejaaDoor
open Go.RowKit Ieee
set_option maxRecDepth 100000
set_option maxHeartbeats 4000000
def cv (z : Nat × Nat) : Value := .complex .f64 z.1 z.2
/-- A row of complex numbers of the call's own. -/
def RowC (B : Nat) (W : World) (v : Value) (xs : List (Nat × Nat)) : Prop := W.ownsRow B 34 1 v xs.length (xs.map cv)
theorem RowC.cs {B : Nat} {W : World} {v : Value} {xs : List (Nat × Nat)} (h : RowC B W v xs) (hl : xs.length ≤ 1000) : Cs W v xs := by
  rcases h.2 with ⟨rfl, hn⟩ | ⟨g, cap, cur, rfl, _, hgc, hnc, hcm, hcs, htake⟩
  · exact ⟨none, 0, by rw [hn], hl, fun hp => by omega⟩
  · refine ⟨some ⟨g, 0, none⟩, cap, rfl, hl, fun _ => ⟨g, 0, rfl, trivial, fun j x hj => ?_⟩⟩
    have hlt := (List.getElem?_eq_some_iff.1 hj).1
    have hc := World.ownsRow.cellAt h j (by omega)
    rw [Nat.zero_add, hc, List.getElem?_map, hj]; rfl
theorem app_com {w W : World} {v u : Value} {xs ys : List (Nat × Nat)} (hO : Off (fun _ => False) w W) (h1 : RowC w.heap.size W v xs) (h2 : RowC w.heap.size W u ys) (hap : ∀ b, v.ownBlock = some b → u.ownBlock ≠ some b) (hk : xs.length ≤ 1000) (a : Addr) (z : Nat × Nat) (hz : W.cell? a = some (.complex .f64 z.1 z.2)) :
    ∃ v' w', (Builtin.append_ #[30, 30] 30 #[v, .slice (some a) 1 1]).run Tryd.prog W = .ok v' w' ∧ RowC w.heap.size w' v' (xs ++ [z]) ∧ RowC w.heap.size w' u ys ∧ (∀ b, v'.ownBlock = some b → u.ownBlock ≠ some b) ∧ Off (fun _ => False) w w' := by
  obtain ⟨i0, hi, hz0, hz1, hz2⟩ := info_parts com_info
  obtain ⟨v', w', hr, ho, hg, _, hb⟩ := run_append_own_at (P := Tryd.prog) W w.heap.size 30 30 34 i0 _ 1 16 Tryd.underlying30 hi hz0 hz1 hz2 rfl (by decide) v xs.length _ h1 a 1 1 [.complex .f64 z.1 z.2] rfl (fun j y hj => by
    cases j with
    | zero => simp at hj; subst hj; simpa [Addr.add] using hz
    | succ j => simp at hj) (by simp [Value.oneCell']) (by unfold maxLen; omega) (by omega) hO.size
  have hub : u.ownBlock = none ∨ u.ownBlock ≠ v.ownBlock := by
    cases hv : v.ownBlock with
    | none =>
      cases hu : u.ownBlock with
      | none => exact .inl rfl
      | some c => exact .inr (fun e => by cases e)
    | some b => exact .inr (hap b hv)
  refine ⟨v', w', hr, ?_, World.ownsRow.kept h2 hg hub, ?_, ?_⟩
  · unfold RowC
    rw [List.map_append, List.length_append]
    exact ho
  · intro b hb1 hb2
    rcases hb with e | e
    · exact hap b (e ▸ hb1) hb2
    · have e3 := e.symm.trans hb1
      have := (World.ownsRow.lt h2 b hb2).2
      simp at e3
      omega
  · refine hO.grown hg (fun j ej => ?_)
    have hx := (World.ownsRow.lt h1 j ej).1
    refine ⟨fun h => by omega, fun o ho => ?_⟩
    rcases h1.2 with ⟨rfl, _⟩ | ⟨g, cap, cur, rfl, _, hgb, _⟩
    · simp [Value.ownBlock] at ej
    · obtain rfl : g = j := by simpa [Value.ownBlock] using ej
      rw [hgb] at ho; cases ho; rfl
def evF (L : List (Nat × Nat)) (j : Nat) : Nat × Nat := L.getD (2 * j) (0, 0)
def odF (L : List (Nat × Nat)) (j : Nat) : Nat × Nat := L.getD (2 * j + 1) (0, 0)
def evL (L : List (Nat × Nat)) (h : Nat) : List (Nat × Nat) := (List.range h).map (evF L)
def odL (L : List (Nat × Nat)) (h : Nat) : List (Nat × Nat) := (List.range h).map (odF L)
theorem evL_len (L : List (Nat × Nat)) (h : Nat) : (evL L h).length = h := by unfold evL; simp
theorem odL_len (L : List (Nat × Nat)) (h : Nat) : (odL L h).length = h := by unfold odL; simp
theorem evL_next (L : List (Nat × Nat)) (h : Nat) : evL L h ++ [evF L h] = evL L (h + 1) := by unfold evL; rw [List.range_succ, List.map_append]; rfl
theorem odL_next (L : List (Nat × Nat)) (h : Nat) : odL L h ++ [odF L h] = odL L (h + 1) := by unfold odL; rw [List.range_succ, List.map_append]; rfl
theorem split_any (L : List (Nat × Nat)) (h : Nat) (hL : L.length = 2 * h) (hh : h ≤ 256) (v : Value) (w : World) (hV : Cs w v L) :
    Calls Tryd.prog 33 #[v] w fun e w' => ∃ v1 v2, e = .returned (.tuple #[v1, v2]) ∧ Cs w' v1 (evL L h) ∧ Cs w' v2 (odL L h) ∧ Off (fun _ => False) w w' := by
  obtain ⟨a, cap, rfl, _⟩ := hV.open
  obtain ⟨n, hn⟩ : ∃ n, n = L.length := ⟨_, rfl⟩
  rw [← hn] at hV ⊢
  have hn2 : n = 2 * h := by omega
  have HV := Lib.hid hV
  have HN := Lib.hid hn
  have HN2 := Lib.hid hn2
  clear hV hn hL hn2
  go_enter Tryd.func33, Tryd.ntmps33
  go_wp2
  go_loopw [2, 3, 4] (fun v1 v2 i wr => ∃ k : Nat, k ≤ h ∧ i = .int .i64 ((2 * k : Nat) : Int) ∧ RowC w.heap.size wr v1 (evL L k) ∧ RowC w.heap.size wr v2 (odL L k) ∧ (∀ b, v1.ownBlock = some b → v2.ownBlock ≠ some b) ∧ Off (fun _ => False) w wr) (fun _ _ i _ => n - (intOf i).toNat)
  case atStart => exact ⟨0, Nat.zero_le _, rfl, World.ownsRow_nil _ _ _ _, World.ownsRow_nil _ _ _ _, fun b hb => by simp [Value.ownBlock] at hb, Off.refl _ w⟩
  case round =>
    obtain ⟨k, hk, rfl, h1, h2, hap, hO⟩ := hrel
    by_cases hkn : k < h
    · obtain ⟨x, hx⟩ : ∃ x, L[2 * k]? = some x := ⟨_, List.getElem?_eq_getElem (by have := HN.out; have := HN2.out; omega)⟩
      obtain ⟨y, hy⟩ : ∃ y, L[2 * k + 1]? = some y := ⟨_, List.getElem?_eq_getElem (by have := HN.out; have := HN2.out; omega)⟩
      have ex : evF L k = x := by unfold evF; rw [List.getD_eq_getElem?_getD, hx]; rfl
      have ey : odF L k = y := by unfold odF; rw [List.getD_eq_getElem?_getD, hy]; rfl
      obtain ⟨b, off, rfl, _, d1⟩ := CsAt.get (HV.out.off hO) hx
      have hw1 : wr.alloc (.cells #[cv x] 34) = wr.alloc (.cells #[cv x] 34) := rfl
      obtain ⟨v1', w1, hr1, r1, r2, ap1, o1⟩ := app_com (hO.alloc (.cells #[cv x] 34)) (World.ownsRow.alloc h1 _) (World.ownsRow.alloc h2 _) hap (by rw [evL_len]; omega) ⟨wr.heap.size, 0, none⟩ x (by rw [cell_of_heap (heap_new' rfl _)]; rfl)
      obtain ⟨b', off', eb, _, d2⟩ := CsAt.get (HV.out.off o1) hy
      cases eb
      obtain ⟨v2', w2, hr2, r3, r4, ap2, o2⟩ := app_com (o1.alloc (.cells #[cv y] 34)) (World.ownsRow.alloc r2 _) (World.ownsRow.alloc r1 _) (fun b hb hb2 => ap1 b hb2 hb) (by rw [odL_len]; omega) ⟨w1.heap.size, 0, none⟩ y (by rw [cell_of_heap (heap_new' rfl _)]; rfl)
      rw [← ex, evL_next] at r1 r4
      rw [← ey, odL_next] at r3
      have R1 := Lib.hid r4
      have R2 := Lib.hid r3
      have AP := Lib.hid ap2
      have O2 := Lib.hid o2
      have HR1 := Lib.hid hr1
      have HR2 := Lib.hid hr2
      have hki : (2 : Int) * (k : Int) < (n : Int) := by have := HN2.out; omega
      have hki2 : (2 : Int) * (k : Int) + 1 < (n : Int) := by have := HN2.out; omega
      have hki3 : 2 * k + 1 < n := by have := HN2.out; omega
      have hw2 : IntKind.i64.wrap (2 * (k : Int) + 2) = 2 * (k : Int) + 2 := by rw [IntKind.wrap_i64]; omega
      have hw3 : IntKind.i64.wrap (2 * (k : Int) + 1) = 2 * (k : Int) + 1 := by rw [IntKind.wrap_i64]; omega
      clear r1 r2 r3 r4 ap1 ap2 o1 o2 hr1 hr2 h1 h2 hap hO hx hy ex ey hw1
      go_wp2_with first | (at_builtin; refine Go.Lib.wpList_append_run _ rfl _ _ _ _ rfl _ _ rfl rfl _ _ HR1.out ?_) | (at_builtin; refine Go.Lib.wpList_append_run _ rfl _ _ _ _ rfl _ _ rfl rfl _ _ HR2.out ?_) | fail
      go_roundw
      case rel => exact ⟨k + 1, by omega, by simp; omega, R1.out, R2.out, fun b hb hb2 => AP.out b hb2 hb, O2.out⟩
      case measure => have := HN2.out; simp [intOf] <;> omega
    · obtain rfl : h = k := by omega
      have hki : ¬ (2 : Int) * (h : Int) < (n : Int) := by have := HN2.out; omega
      have R1 := Lib.hid (RowC.cs h1 (by rw [evL_len]; omega))
      have R2 := Lib.hid (RowC.cs h2 (by rw [odL_len]; omega))
      have O2 := Lib.hid hO
      clear h1 h2 hap hO
      go_wp2
      go_ret2
      exact ⟨_, _, rfl, R1.out, R2.out, O2.out⟩
end Go.Proofs.YtghacjhempmejaaDoor
