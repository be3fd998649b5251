/-
  Lists of cells anywhere in memory; the eight bytes of a length, filled from behind; appends of bytes, also of none. Plain facts on worlds; no condition but shortness.
-/
import Derived.Test.YthjfhgnmaepafaaDoorShaCons
namespace Go.Proofs.YthjfhgnmaepafaaDoor
open Go.RowKit
set_option maxRecDepth 100000
set_option maxHeartbeats 4000000
/-- The slice v holds the cells f x of the list xs, somewhere. -/
def LvAt (f : Nat → Value) (W : World) (v : Value) (xs : List Nat) : Prop := ∃ g off cap, v = .slice (some ⟨g, off, none⟩) xs.length cap ∧ xs.length ≤ cap ∧ ∀ j x, xs[j]? = some x → W.cell? ⟨g, off + j, none⟩ = some (f x)
theorem LvAt.off {f : Nat → Value} {W W' : World} {v : Value} {xs : List Nat} (h : LvAt f W v xs) (ho : Off (fun _ => False) W W') : LvAt f W' v xs := by
  obtain ⟨g, off, cap, h1, h2, h3⟩ := h
  exact ⟨g, off, cap, h1, h2, fun j x hj => ho.cell (h3 j x hj) (fun c => c)⟩
theorem RowT.lv {T : TypeId} {f : Nat → Value} {B : Nat} {W : World} {v : Value} {xs : List Nat} (h : RowT T f B W v xs) (hp : 0 < xs.length) : LvAt f W v xs := by
  obtain ⟨g, cap, hv, hc, _, _, hx⟩ := h.form hp
  exact ⟨g, 0, cap, hv, hc, fun j x hj => by rw [Nat.zero_add]; exact hx j x hj⟩
theorem LvAt.part {f : Nat → Value} {W : World} {g off cap n : Nat} {xs : List Nat} (h : LvAt f W (.slice (some ⟨g, off, none⟩) n cap) xs) (i k : Nat) (hk : i + k ≤ n) : LvAt f W (.slice (some ⟨g, off + i, none⟩) k (cap - i)) ((xs.drop i).take k) := by
  obtain ⟨g', off', cap', h1, h2, h3⟩ := h
  simp at h1
  obtain ⟨⟨rfl, rfl⟩, rfl, rfl⟩ := h1
  have hl : ((xs.drop i).take k).length = k := by rw [List.length_take, List.length_drop]; omega
  refine ⟨g, off + i, cap - i, by rw [hl], by omega, fun j x hj => ?_⟩
  have hjk : j < k := by have := (List.getElem?_eq_some_iff.1 hj).1; omega
  rw [List.getElem?_take, if_pos hjk, List.getElem?_drop] at hj
  rw [Nat.add_assoc]; exact h3 _ _ hj
/-- Bytes, or none, put behind a row. -/
theorem app_any {w W : World} {v : Value} {xs ys : List Nat} (hO : Off (fun _ => False) w W) (h1 : RowB w.heap.size W v xs) {a : Option Addr} {n cap : Nat} {S : Nat → Prop} (h2 : BsAt W a ys S) (hn : n = ys.length) (hk : xs.length + n ≤ 100000) :
    ∃ v' w', (Builtin.append_ #[22, 22] 22 #[v, .slice a n cap]).run Tryd.prog W = .ok v' w' ∧ RowB w.heap.size w' v' (xs ++ ys) ∧ Off (fun _ => False) w w' := by
  rcases Nat.eq_zero_or_pos n with h0 | hp
  · subst h0
    obtain rfl : ys = [] := List.eq_nil_of_length_eq_zero hn.symm
    exact ⟨v, W, app_none h1 a cap, by rw [List.append_nil]; exact h1, hO⟩
  · exact app_bytes hO h1 h2 hn hp hk
/-- The length's bytes, the last j of them. -/
def lenB (n j : Nat) : List Nat := List.replicate (8 - j) 0 ++ (be8 n).drop (8 - j)
theorem lenB_zero (n : Nat) : lenB n 0 = List.replicate 8 0 := by simp [lenB, be8]
theorem lenB_full (n : Nat) : lenB n 8 = be8 n := by simp [lenB]
theorem lenB_set (n j : Nat) (hj : j < 8) : (lenB n j).set (7 - j) (n / 256 ^ j % 256) = lenB n (j + 1) := by
  match j, hj with
  | 0, _ | 1, _ | 2, _ | 3, _ | 4, _ | 5, _ | 6, _ | 7, _ => simp [lenB, be8]
theorem lenB_length (n j : Nat) (_ : j ≤ 8) : (lenB n j).length = 8 := by unfold lenB; simp [be8]
/-- The first t bytes of a sum. -/
def outP (s : W8) (t : Nat) : List Nat := (outB s).take t ++ List.replicate (32 - t) 0
theorem outP_zero (s : W8) : outP s 0 = List.replicate 32 0 := by simp [outP]
theorem outP_full (s : W8) : outP s 32 = outB s := by simp [outP, List.take_of_length_le (Nat.le_of_eq (outB_length s))]
theorem outP_length (s : W8) (t : Nat) (ht : t ≤ 32) : (outP s t).length = 32 := by
  have := outB_length s
  unfold outP
  rw [List.length_append, List.length_take, List.length_replicate]
  omega
theorem outP_set (s : W8) (t : Nat) (ht : t < 32) : (outP s t).set t (s.list.getD (t / 4) 0 / 256 ^ (3 - t % 4) % 256) = outP s (t + 1) := by
  have hg := outB_get s t ht
  have hl := outB_length s
  apply List.ext_getElem?
  intro i
  have e1 : ((outB s).take t).length = t := by rw [List.length_take]; omega
  have e2 : ((outB s).take (t + 1)).length = t + 1 := by rw [List.length_take]; omega
  have e3 : (outP s t).length = 32 := outP_length s t (by omega)
  rcases Nat.lt_trichotomy i t with h | h | h
  · rw [List.getElem?_set_ne (by omega)]
    unfold outP
    rw [List.getElem?_append_left (by omega), List.getElem?_append_left (by omega), List.getElem?_take, List.getElem?_take, if_pos h, if_pos (by omega)]
  · subst h
    rw [List.getElem?_set_self (by omega)]
    unfold outP
    rw [List.getElem?_append_left (by omega), List.getElem?_take, if_pos (by omega), hg]
  · rw [List.getElem?_set_ne (by omega)]
    unfold outP
    rw [List.getElem?_append_right (by omega), List.getElem?_append_right (by omega), e1, e2, List.getElem?_replicate, List.getElem?_replicate]
    by_cases h2 : i < 32
    · rw [if_pos (by omega), if_pos (by omega)]
    · rw [if_neg (by omega), if_neg (by omega)]
theorem W8.list_ws {s : W8} (h : s.ok) : Ws s.list := by
  obtain ⟨h1, h2, h3, h4, h5, h6, h7, h8⟩ := h
  intro x hx
  simp [W8.list] at hx
  rcases hx with rfl | rfl | rfl | rfl | rfl | rfl | rfl | rfl <;> assumption
end Go.Proofs.YthjfhgnmaepafaaDoor
