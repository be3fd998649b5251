/-
  What the statement on Evaluate wants: the field's number of its lists, the error wanted, rows of lists of elements that are appended to. Plain facts and facts on rows; no condition.
-/
import Derived.Test.YtclehgconbdkpaaDoorDealB
import Derived.Test.YtclehgconbdkpaaDoorDealPlain
import Derived.Test.YtclehgconbdkpaaDoorShrRow
import Derived.Deep.CutRange
namespace Go.Proofs.YtclehgconbdkpaaDoor
open Go.RowKit
set_option maxRecDepth 100000
set_option maxHeartbeats 4000000
/-- 'z & 1' of an int is 'z % 2'. -/
theorem and1_i64 (z : Int) : bits .and .i64 z 1 = z % 2 := by
  have e : (BitVec.ofInt 64 z &&& BitVec.ofInt 64 1).toNat = (z % 2).toNat := by
    rw [BitVec.toNat_and, BitVec.toNat_ofInt, BitVec.toNat_ofInt]
    rw [show (1 % ((2 ^ 64 : Nat) : Int)).toNat = 1 by decide, Nat.and_one_is_mod]
    omega
  show IntKind.i64.wrap (((BitVec.ofInt 64 z &&& BitVec.ofInt 64 1).toNat : Nat) : Int) = z % 2
  rw [e, IntKind.wrap_i64]
  omega
/-- The number of the field that the statement takes for its lists. -/
def idE (fd : Int) : Int := 1 + IntKind.i64.wrap (fd + 1) % 2
theorem idE_known (fd : Int) : Kn (idE fd) := by unfold idE Kn; omega
theorem idE_same {fd : Int} (h : Kn fd) : idE fd = fd := by rcases h with rfl | rfl <;> decide
/-- The error wanted, for n lists of which these were seen. -/
def wantN (q : Pms) (n : Nat) (cs : List (List Nat)) : Nat := if prN q ≠ 0 then prN q else if n ≠ q.cn ∨ ∃ c ∈ cs, c.length ≠ q.T then 8 else 0
theorem wantN_ok {q : Pms} {n : Nat} {cs : List (List Nat)} (h : prN q = 0) : wantN q n cs = if n ≠ q.cn ∨ ∃ c ∈ cs, c.length ≠ q.T then 8 else 0 := by
  unfold wantN; exact if_neg (by simpa using h)
theorem wantN_err {q : Pms} {n : Nat} {cs : List (List Nat)} (h : prN q ≠ 0) : wantN q n cs = prN q := by
  unfold wantN; exact if_pos h
theorem wantN_zero {q : Pms} {n : Nat} {cs : List (List Nat)} (h : wantN q n cs = 0) : prN q = 0 ∧ n = q.cn := by
  by_cases h1 : prN q = 0
  · rw [wantN_ok h1] at h
    by_cases h2 : n = q.cn
    · exact ⟨h1, h2⟩
    · rw [if_pos (.inl h2)] at h; cases h
  · rw [wantN_err h1] at h; exact absurd h h1
theorem wantN_nil (q : Pms) (n : Nat) : wantN q n [] = if prN q ≠ 0 then prN q else if n ≠ q.cn then 8 else 0 := by simp [wantN]
theorem wantN_step {q : Pms} {n d k : Nat} {l : List (List Nat)} {c : List Nat} (hc : l[k]? = some c) (hd : d = wantN q n (l.take k)) : wantN q n (l.take (k + 1)) = if d = 0 ∧ c.length ≠ q.T then 8 else d := by
  rw [List.take_add_one, hc]
  by_cases h1 : prN q = 0
  · rw [wantN_ok h1] at hd ⊢
    by_cases h2 : n ≠ q.cn ∨ ∃ x ∈ l.take k, x.length ≠ q.T
    · rw [if_pos h2] at hd
      rw [if_pos (Or.imp_right (fun ⟨x, hx, e⟩ => ⟨x, List.mem_append_left _ hx, e⟩) h2), hd]
      simp
    · rw [if_neg h2] at hd
      by_cases h3 : c.length = q.T
      · have h4 : ¬ (n ≠ q.cn ∨ ∃ x ∈ l.take k ++ (some c).toList, x.length ≠ q.T) := by
          intro h
          rcases h with h | ⟨x, hx, e⟩
          · exact h2 (Or.inl h)
          · rcases List.mem_append.1 hx with hx | hx
            · exact h2 (Or.inr ⟨x, hx, e⟩)
            · simp at hx; subst hx; exact e h3
        rw [if_neg h4, hd]
        simp [h3]
      · rw [if_pos (Or.inr ⟨c, by simp, h3⟩), hd]
        simp [h3]
  · rw [wantN_err h1] at hd ⊢
    rw [hd, if_neg (fun h => h1 h.1)]
theorem wantN_full (q : Pms) (l : List (List Nat)) (f : Nat → Nat) : wantN q l.length l = evaE q (l.map (·.map f)) := by
  unfold wantN evaE
  rw [List.length_map]
  have e : (∃ c ∈ l, c.length ≠ q.T) ↔ (∃ c ∈ l.map (·.map f), c.length ≠ q.T) := by
    constructor
    · rintro ⟨c, hc, h⟩
      exact ⟨c.map f, List.mem_map.2 ⟨c, hc, rfl⟩, by rw [List.length_map]; exact h⟩
    · rintro ⟨c, hc, h⟩
      obtain ⟨y, hy, rfl⟩ := List.mem_map.1 hc
      exact ⟨y, hy, by rw [List.length_map] at h; exact h⟩
  simp only [e]
/-- Rows of lists are as they were where another row is appended to, whose elements are of another type. -/
theorem RowLL.kept {Ti To Ts : TypeId} {B B' n size : Nat} {W W' : World} {v s : Value} {zss : List (List Nat)} {xs : List Value} (h : RowLL Ti To B W v zss) (hg : W.grownBy W' s.ownBlock) (hs : W.ownsRow B' Ts size s n xs) (h1 : Ti ≠ Ts) (h2 : To ≠ Ts) : RowLL Ti To B W' v zss := by
  obtain ⟨us, k1, k2, k3⟩ := h
  refine ⟨us, k1.kept hg (rows_apart k1 hs h2), k2, fun t u zs hu hz => ?_⟩
  obtain ⟨a, c, e, h4⟩ := k3 t u zs hu hz
  exact ⟨a, c, e, h4.kept hg (rows_apart h4 hs h1)⟩
theorem RowLL.row {Ti To : TypeId} {B : Nat} {W : World} {v : Value} {zss : List (List Nat)} (h : RowLL Ti To B W v zss) : ∃ us, W.ownsRow B To 1 v us.length us := by
  obtain ⟨us, k1, _, _⟩ := h
  exact ⟨us, k1⟩
theorem els_info : (Tryd.prog.info? 47).map (fun i => (i.zero, i.size, i.bytes)) = some (some (.slice none 0 0), 1, 24) := by kernel_rfl
theorem el_ne_els : 66 ≠ 47 := by decide
theorem vec_ne_els : 51 ≠ 47 := by decide
theorem vecs_ne_els : 46 ≠ 47 := by decide
theorem el_ne_vecs : 66 ≠ 46 := by decide
theorem els_ne_vecs : 47 ≠ 46 := by decide
/-- One list of elements put behind a row of lists. -/
theorem app_lel {B bz : Nat} {W : World} {v : Value} {zss : List (List Nat)} {zs : List Nat} {a : Option Addr} {c : Nat} {T : TypeId} (h1 : RowLL 66 47 B W v zss) (hB : B ≤ W.heap.size) (h2 : W.ownsRow B 66 4 (.slice a zs.length c) zs.length (flat4 zs))
    (hb : W.heap[bz]? = some (.cells #[.slice a zs.length c] T (0, 0))) (hk : zss.length + 1 ≤ 100000) :
    ∃ v' w', (Builtin.append_ #[29, 29] 29 #[v, .slice (some ⟨bz, 0, none⟩) 1 1]).run Tryd.prog W = .ok v' w' ∧ RowLL 66 47 B w' v' (zss ++ [zs]) ∧ W.grownBy w' v.ownBlock ∧ (v'.ownBlock = v.ownBlock ∨ v'.ownBlock = some W.heap.size) := by
  obtain ⟨i0, hi, hz0, hz1, hz2⟩ := info_parts els_info
  obtain ⟨us, h3, h4, h5⟩ := h1
  obtain ⟨v', w', hr, ho, hg, _, hbk⟩ := run_append_own_at (P := Tryd.prog) W B 29 29 47 i0 _ 1 24 Tryd.underlying29 hi hz0 hz1 hz2 rfl (by decide) v us.length _ h3 ⟨bz, 0, none⟩ 1 1 [.slice a zs.length c] rfl (fun j u hj => by
    rw [Addr.add_lit, Nat.zero_add, cell_of_heap hb]
    match j, hj with
    | 0, hj => simpa using hj
    | n + 1, hj => simp at hj) (fun u hu => by simp at hu; subst hu; rfl) (by unfold maxLen; omega) (by omega) hB
  refine ⟨v', w', hr, ⟨us ++ [.slice a zs.length c], by rw [List.length_append]; exact ho, by simp [h4], fun t u ys hu hy => ?_⟩, hg, hbk⟩
  by_cases ht : t < us.length
  · rw [List.getElem?_append_left ht] at hu
    rw [List.getElem?_append_left (by omega)] at hy
    obtain ⟨a1, c1, e, h6⟩ := h5 t u ys hu hy
    exact ⟨a1, c1, e, h6.kept hg (rows_apart h6 h3 el_ne_els)⟩
  · have ht2 : t = us.length := by have := (List.getElem?_eq_some_iff.1 hu).1; simp at this; omega
    subst ht2
    rw [List.getElem?_append_right (Nat.le_refl _)] at hu
    rw [h4, List.getElem?_append_right (Nat.le_refl _)] at hy
    simp at hu hy
    subst hu hy
    exact ⟨a, c, rfl, h2.kept hg (rows_apart h2 h3 el_ne_els)⟩
/-- What was appended to is a row of the call's own. -/
theorem RowLL.off_grown {Ti To : TypeId} {B : Nat} {w W W' : World} {v : Value} {zss : List (List Nat)} (h : RowLL Ti To B W v zss) (hO : Off (fun _ => False) w W) (hB : w.heap.size ≤ B) (hg : W.grownBy W' v.ownBlock) : Off (fun _ => False) w W' := by
  obtain ⟨us, h1⟩ := h.row
  exact grown_off hO hB h1 hg
theorem shs_wide {W : World} {v : Value} {l : List Sh} {S : Nat → Prop} (h : ShsAt W v l S) : ShsAt W v l (fun _ => True) := by
  obtain ⟨a, cap, hv, hc, h1, h2, h4⟩ := h
  refine ⟨a, cap, hv, hc, h1, h2, fun hp => ?_⟩
  obtain ⟨b, off, ha, _, hx⟩ := h4 hp
  refine ⟨b, off, ha, trivial, fun j s hj => ?_⟩
  obtain ⟨c0, c1, c2, c3, pa, pc, c4, c5, c6⟩ := hx j s hj
  exact ⟨c0, c1, c2, c3, pa, pc, c4, c5, c6.wide (fun _ _ _ => trivial)⟩
end Go.Proofs.YtclehgconbdkpaaDoor
