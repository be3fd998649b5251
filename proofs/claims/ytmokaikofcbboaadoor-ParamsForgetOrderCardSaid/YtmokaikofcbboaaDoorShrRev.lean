/-
  slices.Reverse of a row of shares of the call's own. Condition: the row is short.
-/
import Derived.Test.YtmokaikofcbboaaDoorShrRow
import Derived.Deep.QuietTactic
import Derived.BigQuiet
namespace Go.Proofs.YtmokaikofcbboaaDoor
open Go.RowKit
attribute [local go_sem ↓] Go.wp_at_zero Go.wp_at_succ
set_option maxRecDepth 100000
set_option maxHeartbeats 4000000
def dfl : ShV := ⟨⟨0, 0, 0, 0, []⟩, none, 0⟩
/-- The first k and the last k have changed places. -/
def rv (L : List ShV) (k : Nat) : List ShV := (List.range L.length).map fun p => if p < k ∨ L.length - k ≤ p then L.getD (L.length - 1 - p) dfl else L.getD p dfl
theorem rv_length (L : List ShV) (k : Nat) : (rv L k).length = L.length := by simp [rv]
theorem rv_get {L : List ShV} {k p : Nat} (hp : p < L.length) : (rv L k)[p]? = some (if p < k ∨ L.length - k ≤ p then L.getD (L.length - 1 - p) dfl else L.getD p dfl) := by
  unfold rv
  rw [List.getElem?_map, List.getElem?_range hp]; rfl
theorem getD_eq {L : List ShV} {p : Nat} (hp : p < L.length) : L[p]? = some (L.getD p dfl) := by
  rw [List.getD_eq_getElem?_getD, List.getElem?_eq_getElem hp]; rfl
theorem rv_zero (L : List ShV) : rv L 0 = L := by
  apply List.ext_getElem?
  intro p
  by_cases hp : p < L.length
  · rw [rv_get hp, if_neg (by omega), getD_eq hp]
  · rw [List.getElem?_eq_none (by rw [rv_length]; omega), List.getElem?_eq_none (by omega)]
theorem rv_step {L : List ShV} {k j : Nat} (hj : j + k + 1 = L.length) (hk : k < j) : rv L (k + 1) = ((rv L k).set k (L.getD j dfl)).set j (L.getD k dfl) := by
  apply List.ext_getElem?
  intro p
  by_cases hp : p < L.length
  · rw [rv_get hp, List.getElem?_set, List.getElem?_set, rv_length, List.length_set, rv_length]
    by_cases h1 : j = p
    · subst h1
      rw [if_pos rfl, if_pos hp, if_pos (by omega), show L.length - 1 - j = k by omega]
    · rw [if_neg h1]
      by_cases h2 : k = p
      · subst h2
        rw [if_pos rfl, if_pos hp, if_pos (by omega), show L.length - 1 - k = j by omega]
      · rw [if_neg h2, rv_get hp]
        congr 1
        by_cases h3 : p < k ∨ L.length - k ≤ p
        · rw [if_pos h3, if_pos (by omega)]
        · rw [if_neg h3, if_neg (by omega)]
  · rw [List.getElem?_eq_none (by rw [rv_length]; omega), List.getElem?_eq_none (by rw [List.length_set, List.length_set, rv_length]; omega)]
theorem rv_end {L : List ShV} {k : Nat} (h : L.length ≤ 2 * k + 1) : rv L k = L.reverse := by
  apply List.ext_getElem?
  intro p
  by_cases hp : p < L.length
  · rw [rv_get hp, List.getElem?_reverse hp, getD_eq (by omega)]
    congr 1
    by_cases h3 : p < k ∨ L.length - k ≤ p
    · rw [if_pos h3]
    · rw [if_neg h3, show L.length - 1 - p = p by omega]
  · rw [List.getElem?_eq_none (by rw [rv_length]; omega), List.getElem?_eq_none (by simp; omega)]
theorem rv_mid {L : List ShV} {k p : Nat} (h1 : k ≤ p) (h2 : p + k < L.length) : (rv L k)[p]? = some (L.getD p dfl) := by
  rw [rv_get (by omega), if_neg (by omega)]
theorem stored5 {W : World} {B g n cap : Nat} {T : TypeId} {xs : List Value} (h : W.ownsRow B T 5 (.slice (some ⟨g, 0, none⟩) n cap) n xs) (o : Nat) (x : ShV) :
    (((((W.setCell ⟨g, o, none⟩ (.int .i64 x.sh.fd)).setCell ⟨g, o + 1, none⟩ (.int .i64 x.sh.th)).setCell ⟨g, o + 2, none⟩ (.int .i64 x.sh.ix)).setCell ⟨g, o + 3, none⟩ (.int .i64 x.sh.ln)).setCell ⟨g, o + 4, none⟩ (.slice x.pa x.sh.pl.length x.pc)).ownsRow B T 5 (.slice (some ⟨g, 0, none⟩) n cap) n (set5 xs o x) :=
  ((((((h.stored o _).1.stored (o + 1) _).1.stored (o + 2) _).1.stored (o + 3) _).1.stored (o + 4) _).1)
theorem off5 {S : Nat → Prop} {W U : World} {g o : Nat} (h : Off S W U) (hg : g < W.heap.size → S g) (v0 v1 v2 v3 v4 : Value) : Off S W (((((U.setCell ⟨g, o, none⟩ v0).setCell ⟨g, o + 1, none⟩ v1).setCell ⟨g, o + 2, none⟩ v2).setCell ⟨g, o + 3, none⟩ v3).setCell ⟨g, o + 4, none⟩ v4) :=
  ((((h.setCell (p := ⟨g, o, none⟩) hg _).setCell (p := ⟨g, o + 1, none⟩) hg _).setCell (p := ⟨g, o + 2, none⟩) hg _).setCell (p := ⟨g, o + 3, none⟩) hg _).setCell (p := ⟨g, o + 4, none⟩) hg _
theorem row_cells {W : World} {B g n cap : Nat} {L : List ShV} (h : RowS B W (.slice (some ⟨g, 0, none⟩) n cap) L) (hn : n = L.length) {j : Nat} {x : ShV} (hj : L[j]? = some x) :
    W.cell? ⟨g, j * 5, none⟩ = some (.int .i64 x.sh.fd) ∧ W.cell? ⟨g, j * 5 + 1, none⟩ = some (.int .i64 x.sh.th) ∧ W.cell? ⟨g, j * 5 + 2, none⟩ = some (.int .i64 x.sh.ix) ∧ W.cell? ⟨g, j * 5 + 3, none⟩ = some (.int .i64 x.sh.ln) ∧ W.cell? ⟨g, j * 5 + 4, none⟩ = some (.slice x.pa x.sh.pl.length x.pc) := by
  have hlt := (List.getElem?_eq_some_iff.1 hj).1
  unfold RowS at h
  rw [← hn] at h
  have c := fun k (hk : k < 5) => (World.ownsRow.cellAt h (j * 5 + k) (by omega)).trans (flat5_get L j k x hj hk)
  exact ⟨c 0 (by decide), c 1 (by decide), c 2 (by decide), c 3 (by decide), c 4 (by decide)⟩
theorem own_drew {W : World} {B size n : Nat} {T : TypeId} {v : Value} {xs : List Value} (h : W.ownsRow B T size v n xs) : W.drew.ownsRow B T size v n xs := h
theorem reverse_sh (L : List ShV) (B g n cap : Nat) (hn : n = L.length) (hl : n ≤ 100000) (w : World) (h : RowS B w (.slice (some ⟨g, 0, none⟩) n cap) L) (hg : g < w.heap.size) :
    Calls Tryd.prog 23 #[.slice (some ⟨g, 0, none⟩) n cap] w fun e w' => e = .returned (.tuple #[]) ∧ RowS B w' (.slice (some ⟨g, 0, none⟩) n cap) L.reverse ∧ Off (fun k => k = g) w w' := by
  have HN := Lib.hid hn
  have HR := Lib.hid (show RowS B w (.slice (some ⟨g, 0, none⟩) n cap) (rv L 0) by rw [rv_zero]; exact h)
  have HG := Lib.hid hg
  have w0 : IntKind.i64.wrap ((n : Int) - 1) = (n : Int) - 1 := by rw [IntKind.wrap_i64]; omega
  clear hn h hg
  go_enter Tryd.func23, Tryd.ntmps23
  go_wp2
  go_loopw [2, 3] (fun i j wr => ∃ k : Nat, k ≤ n ∧ i = .int .i64 (k : Int) ∧ j = .int .i64 ((n : Int) - 1 - (k : Int)) ∧ RowS B wr (.slice (some ⟨g, 0, none⟩) n cap) (rv L k) ∧ Off (fun b => b = g) w wr) (fun i _ _ => n - (intOf i).toNat)
  case atStart => exact ⟨0, Nat.zero_le _, rfl, by simp, HR.out, Off.refl _ _⟩
  case round =>
    obtain ⟨k, hk, rfl, rfl, hr, hO⟩ := hrel
    by_cases hlt : k + k + 1 < n
    · obtain ⟨j, hj⟩ : ∃ j : Nat, (n : Int) - 1 - (k : Int) = (j : Int) := ⟨n - 1 - k, by omega⟩
      rw [hj]
      have hjn : j + k + 1 = n := by omega
      have i1 : (k : Int) < (j : Int) := by omega
      have i2 : (j : Int) < (n : Int) := by omega
      have i3 : (k : Int) < (n : Int) := by omega
      have w2 : IntKind.i64.wrap ((k : Int) + 1) = (k : Int) + 1 := by rw [IntKind.wrap_i64]; omega
      have w3 : IntKind.i64.wrap ((j : Int) - 1) = (j : Int) - 1 := by rw [IntKind.wrap_i64]; omega
      have xk := rv_mid (L := L) (k := k) (p := k) (Nat.le_refl _) (by rw [← HN.out]; omega)
      have xj := rv_mid (L := L) (k := k) (p := j) (by omega) (by rw [← HN.out]; omega)
      have hst := rv_step (L := L) (k := k) (j := j) (by rw [← HN.out]; exact hjn) (by omega)
      obtain ⟨X, hX⟩ : ∃ X, X = L.getD k dfl := ⟨_, rfl⟩
      obtain ⟨Y, hY⟩ : ∃ Y, Y = L.getD j dfl := ⟨_, rfl⟩
      rw [← hX] at xk
      rw [← hY] at xj
      rw [← hX, ← hY] at hst
      obtain ⟨m0, m1, m2, m3, m4⟩ := row_cells hr (by rw [rv_length, HN.out]) xk
      obtain ⟨q0, q1, q2, q3, q4⟩ := row_cells hr (by rw [rv_length, HN.out]) xj
      have fz := fun j => World.ownsRow.frozenAt (show wr.ownsRow B 31 5 (.slice (some ⟨g, 0, none⟩) n cap) n (flat5 (rv L k)) by have h := hr; unfold RowS at h; rw [rv_length, ← HN.out] at h; exact h) j
      have lt : g < wr.heap.size := Nat.lt_of_lt_of_le HG.out hO.size
      have HS := Lib.hid hst
      have HRr := Lib.hid hr
      have HO := Lib.hid hO
      have HJ := Lib.hid hj
      have HJN := Lib.hid hjn
      clear hst hr hO hj hjn hX hY xk xj HR w0
      go_wp2
      go_region
      obtain ⟨W1, hW1⟩ : ∃ W1, W1 = (((((((((((wr.setCell ⟨g, k * 5, none⟩ (.int .i64 Y.sh.fd)).setCell ⟨g, k * 5 + 1, none⟩ (.int .i64 Y.sh.th)).setCell ⟨g, k * 5 + 2, none⟩ (.int .i64 Y.sh.ix)).setCell ⟨g, k * 5 + 3, none⟩ (.int .i64 Y.sh.ln)).setCell ⟨g, k * 5 + 4, none⟩ (.slice Y.pa Y.sh.pl.length Y.pc)).setCell ⟨g, j * 5, none⟩ (.int .i64 X.sh.fd)).setCell ⟨g, j * 5 + 1, none⟩ (.int .i64 X.sh.th)).setCell ⟨g, j * 5 + 2, none⟩ (.int .i64 X.sh.ix)).setCell ⟨g, j * 5 + 3, none⟩ (.int .i64 X.sh.ln)).setCell ⟨g, j * 5 + 4, none⟩ (.slice X.pa X.sh.pl.length X.pc))).drew := ⟨_, rfl⟩
      rw [← hW1]
      have hR1 : RowS B W1 (.slice (some ⟨g, 0, none⟩) n cap) (rv L (k + 1)) := by
        have h := HRr.out
        unfold RowS at h ⊢
        rw [rv_length, ← HN.out] at h ⊢
        have h2 := stored5 (stored5 h (k * 5) Y) (j * 5) X
        rw [HS.out, flat5_set _ _ _ (by rw [List.length_set, rv_length, ← HN.out]; have := HJN.out; omega), flat5_set _ _ _ (by rw [rv_length, ← HN.out]; have := HJN.out; omega), hW1]
        exact own_drew h2
      have hO1 : Off (fun b => b = g) w W1 := by rw [hW1]; exact (off5 (off5 HO.out (fun _ => rfl) _ _ _ _ _) (fun _ => rfl) _ _ _ _ _).drew
      have HR1 := Lib.hid hR1
      have HO1 := Lib.hid hO1
      clear hW1 hR1 hO1 m0 m1 m2 m3 m4 q0 q1 q2 q3 q4 fz lt
      go_wp2
      go_roundw
      case rel => exact ⟨k + 1, by omega, by simp, by have := HJ.out; congr 1; omega, HR1.out, HO1.out⟩
      case measure => simp [intOf]; omega
    · have i1 : ¬ (k : Int) < (n : Int) - 1 - (k : Int) := by omega
      have HR1 := Lib.hid (show RowS B wr (.slice (some ⟨g, 0, none⟩) n cap) L.reverse by rw [← rv_end (k := k) (by rw [← HN.out]; omega)]; exact hr)
      have HO1 := Lib.hid hO
      clear hr hO HR
      go_wp2
      go_end0
      exact ⟨rfl, HR1.out, HO1.out⟩
end Go.Proofs.YtmokaikofcbboaaDoor
