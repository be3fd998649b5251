/-
  Lists of lists of numbers in memory. Plain facts; no condition.
  Rows of the call's own that hold lists of numbers which are rows of the call's own. Condition: the lists are short.
  The statements' own Large of layer 16 over this seat's translation. No condition.
-/
import Derived.Test.YtclehgconbdkpaaDoorPolRefer
import Derived.Test.YtclehgconbdkpaaDoorPolVals
import Derived.Test.YtclehgconbdkpaaDoorFieldGrp
import Derived.Maps.AppendAt
import Derived.Laws.OwnMore
import Derived.Test.YtclehgconbdkpaaDoorDealPlain
namespace Go.Proofs.YtclehgconbdkpaaDoor
section
/-- The slice value v holds lists of numbers; what is read lies within S. -/
def LLsAt (w : World) (v : Value) (yss : List (List Nat)) (S : Nat → Prop) : Prop :=
  ∃ a cap, v = .slice a yss.length cap ∧ yss.length ≤ 1000 ∧ (0 < yss.length → ∃ b off, a = some ⟨b, off, none⟩ ∧ S b ∧ ∀ j ys, yss[j]? = some ys → ∃ u, w.cell? ⟨b, off + j, none⟩ = some u ∧ LsAt w u ys S)
theorem LLsAt.off {w w' : World} {v : Value} {yss : List (List Nat)} {S S' : Nat → Prop} (h : LLsAt w v yss S) (ho : Off S' w w') (hd : ∀ k, k < w.heap.size → S k → ¬ S' k) : LLsAt w' v yss S := by
  obtain ⟨a, cap, hv, h1, h4⟩ := h
  refine ⟨a, cap, hv, h1, fun hp => ?_⟩
  obtain ⟨b, off, ha, hS, hc⟩ := h4 hp
  refine ⟨b, off, ha, hS, fun j ys hj => ?_⟩
  obtain ⟨u, h2, h3⟩ := hc j ys hj
  exact ⟨u, ho.cell h2 (hd b (World.block_lt_of_cell? w _ h2) hS), h3.off ho hd⟩
theorem LLsAt.mono {w : World} {v : Value} {yss : List (List Nat)} {S S' : Nat → Prop} (h : LLsAt w v yss S) (hs : ∀ k, k < w.heap.size → S k → S' k) : LLsAt w v yss S' := by
  obtain ⟨a, cap, hv, h1, h4⟩ := h
  refine ⟨a, cap, hv, h1, fun hp => ?_⟩
  obtain ⟨b, off, ha, hS, hc⟩ := h4 hp
  have hb : b < w.heap.size := by
    obtain ⟨u, h2, _⟩ := hc 0 yss[0] (List.getElem?_eq_getElem hp)
    exact World.block_lt_of_cell? w _ h2
  refine ⟨b, off, ha, hs b hb hS, fun j ys hj => ?_⟩
  obtain ⟨u, h2, h3⟩ := hc j ys hj
  exact ⟨u, h2, h3.mono hs⟩
theorem LLsAt.get {w : World} {a : Option Addr} {m cap : Nat} {yss : List (List Nat)} {S : Nat → Prop} (h : LLsAt w (.slice a m cap) yss S) {j : Nat} {ys : List Nat} (hj : yss[j]? = some ys) :
    ∃ b off a1 c1, a = some ⟨b, off, none⟩ ∧ S b ∧ w.cell? ⟨b, off + j, none⟩ = some (.slice a1 ys.length c1) ∧ LsAt w (.slice a1 ys.length c1) ys S := by
  obtain ⟨a', cap', e, _, h4⟩ := h
  simp at e
  obtain ⟨rfl, rfl, rfl⟩ := e
  obtain ⟨b, off, ha, hS, hc⟩ := h4 (by have := (List.getElem?_eq_some_iff.1 hj).1; omega)
  obtain ⟨u, h2, h3⟩ := hc j ys hj
  obtain ⟨a1, c1, rfl, _⟩ := id h3
  exact ⟨b, off, a1, c1, ha, hS, h2, h3⟩
theorem LLsAt.len {w : World} {a : Option Addr} {m cap : Nat} {yss : List (List Nat)} {S : Nat → Prop} (h : LLsAt w (.slice a m cap) yss S) : m = yss.length ∧ m ≤ 1000 := by
  obtain ⟨a', cap', e, h1, _⟩ := h
  simp at e
  omega
/-- The slice value v holds lists of numbers, somewhere. -/
def LLs (w : World) (v : Value) (yss : List (List Nat)) : Prop := LLsAt w v yss (fun _ => True)
theorem LLs.off {w w' : World} {v : Value} {yss : List (List Nat)} (h : LLs w v yss) (ho : Off (fun _ => False) w w') : LLs w' v yss := LLsAt.off h ho (fun _ _ _ c => c)
theorem LLs.nil (w : World) : LLs w (.slice none 0 0) [] := ⟨none, 0, rfl, Nat.zero_le _, fun h => by simp at h⟩
theorem LLs.of {w : World} {v : Value} {yss : List (List Nat)} {S : Nat → Prop} (h : LLsAt w v yss S) : LLs w v yss := h.mono (fun _ _ _ => trivial)
theorem LLs.lt {w : World} {v : Value} {yss : List (List Nat)} (h : LLs w v yss) : LLsAt w v yss (fun k => k < w.heap.size) := LLsAt.mono h (fun _ hk _ => hk)
end
section
open Go.RowKit
set_option maxRecDepth 100000
set_option maxHeartbeats 4000000
def RowLL (Ti To : TypeId) (B : Nat) (W : World) (v : Value) (zss : List (List Nat)) : Prop :=
  ∃ us : List Value, W.ownsRow B To 1 v us.length us ∧ us.length = zss.length ∧ ∀ (t : Nat) (u : Value) (zs : List Nat), us[t]? = some u → zss[t]? = some zs → ∃ a c, u = .slice a zs.length c ∧ W.ownsRow B Ti 4 u zs.length (flat4 zs)
theorem RowLL.nil (Ti To : TypeId) (B : Nat) (W : World) : RowLL Ti To B W (.slice none 0 0) [] := ⟨[], World.ownsRow_nil _ _ _ _, rfl, fun t u zs h => by simp at h⟩
theorem own_offT {S : Nat → Prop} {w w' : World} {B size n : Nat} {T : TypeId} {v : Value} {xs : List Value} (h : w.ownsRow B T size v n xs) (ho : Off S w w') (hd : ∀ k, B ≤ k → ¬ S k) : w'.ownsRow B T size v n xs := by
  obtain ⟨hl, h⟩ := h
  refine ⟨hl, ?_⟩
  rcases h with hn | ⟨g, cap, cur, rfl, hb, hg, r⟩
  · exact .inl hn
  · exact .inr ⟨g, cap, cur, rfl, hb, ho.heap hg (hd g hb), r⟩
theorem RowLL.off {Ti To : TypeId} {B : Nat} {S : Nat → Prop} {W W' : World} {v : Value} {zss : List (List Nat)} (h : RowLL Ti To B W v zss) (ho : Off S W W') (hd : ∀ k, B ≤ k → ¬ S k) : RowLL Ti To B W' v zss := by
  obtain ⟨us, h1, h2, h3⟩ := h
  refine ⟨us, own_offT h1 ho hd, h2, fun t u zs hu hz => ?_⟩
  obtain ⟨a, c, e, h4⟩ := h3 t u zs hu hz
  exact ⟨a, c, e, own_offT h4 ho hd⟩
theorem RowLL.shape {Ti To : TypeId} {B : Nat} {W : World} {v : Value} {zss : List (List Nat)} (h : RowLL Ti To B W v zss) : ∃ a c, v = .slice a zss.length c := by
  obtain ⟨us, h1, h2, _⟩ := h
  rcases h1.2 with ⟨rfl, hn⟩ | ⟨g, cap, cur, rfl, _⟩
  · exact ⟨none, 0, by rw [← h2, hn]⟩
  · exact ⟨_, cap, by rw [h2]⟩
theorem RowLL.lls {Ti To : TypeId} {B : Nat} {W : World} {v : Value} {zss : List (List Nat)} (h : RowLL Ti To B W v zss) (hl : zss.length ≤ 1000) (hz : ∀ zs ∈ zss, zs.length ≤ 100000) : LLs W v zss := by
  obtain ⟨us, h1, h2, h3⟩ := h
  have h1' := h1
  rcases h1.2 with ⟨rfl, hn⟩ | ⟨g, cap, cur, rfl, hBg, hgc, hnc, hcm, hcs, htake⟩
  · exact ⟨none, 0, by rw [← h2, hn], hl, fun hp => by omega⟩
  · refine ⟨_, cap, by rw [h2], hl, fun hp => ⟨g, 0, rfl, trivial, fun j zs hj => ?_⟩⟩
    have hjl : j < us.length := by have := (List.getElem?_eq_some_iff.1 hj).1; omega
    have hu : us[j]? = some us[j] := List.getElem?_eq_getElem hjl
    obtain ⟨a, c, e, h4⟩ := h3 j _ zs hu hj
    refine ⟨us[j], ?_, ?_⟩
    · have := World.ownsRow.cellAt h1' j (by omega)
      rw [Nat.zero_add, this]; exact hu
    · rw [e] at h4 ⊢
      exact Ls.of (ls_of_own h4 rfl (hz zs (List.mem_of_getElem? hj)))
/-- Numbers put behind a row of numbers of the call's own. -/
theorem app_vec {B : Nat} {W : World} {v sv : Value} {xs ys : List Nat} {S : Nat → Prop} (h1 : W.ownsRow B 51 4 v xs.length (flat4 xs)) (hB : B ≤ W.heap.size) (h2 : LsAt W sv ys S) (hk : xs.length + ys.length ≤ 100000) :
    ∃ v' w', (Builtin.append_ #[46, 46] 46 #[v, sv]).run Tryd.prog W = .ok v' w' ∧ w'.ownsRow B 51 4 v' (xs ++ ys).length (flat4 (xs ++ ys)) ∧ W.grownBy w' v.ownBlock := by
  obtain ⟨i0, hi, hz0, hz1, hz2⟩ := info_parts vec_info
  obtain ⟨a, cap, rfl, hl, hat⟩ := h2
  rcases Nat.eq_zero_or_pos ys.length with h0 | hp
  · obtain rfl : ys = [] := List.eq_nil_of_length_eq_zero h0
    refine ⟨v, W, ?_, by rw [List.append_nil]; exact h1, ⟨rfl, rfl, rfl, Nat.le_refl _, fun _ _ _ => rfl⟩⟩
    have ht := Tryd.underlying46
    rcases h1.2 with ⟨rfl, hn⟩ | ⟨g, cp, cur, rfl, _, _, hnc, _⟩
    · cases a <;> simp [Builtin.append_, run_underlying ht, sizeOf, typeInfo, hi, Builtin.lenOf, Builtin.firstCells, loadCells, loadCellsFrom]
    · cases a <;> simp [Builtin.append_, run_underlying ht, sizeOf, typeInfo, hi, Builtin.lenOf, Builtin.firstCells, hnc, storeCells, loadCells, loadCellsFrom]
  · obtain ⟨b, off, rfl, _, hc⟩ := hat hp
    obtain ⟨v', w', hr, ho, hg, _, hb⟩ := run_append_own_at (P := Tryd.prog) W B 46 46 51 i0 _ 4 32 Tryd.underlying46 hi hz0 hz1 hz2 rfl (by decide) v xs.length _ h1 ⟨b, off, none⟩ ys.length cap (flat4 ys) (by rw [flat4_length]) (fun j u hj => by
      have hjl : j < (flat4 ys).length := (List.getElem?_eq_some_iff.1 hj).1
      rw [flat4_length] at hjl
      obtain ⟨x, hx⟩ : ∃ x, ys[j / 4]? = some x := ⟨_, List.getElem?_eq_getElem (by omega)⟩
      obtain ⟨c0, c1, c2, c3⟩ := hc _ x hx
      obtain ⟨f0, f1, f2, f3⟩ := flat4_get ys _ x hx
      rw [Addr.add_lit]
      have h4 : j = j / 4 * 4 ∨ j = j / 4 * 4 + 1 ∨ j = j / 4 * 4 + 2 ∨ j = j / 4 * 4 + 3 := by omega
      rcases h4 with h | h | h | h
      · rw [h] at hj ⊢; rw [f0] at hj; cases hj; exact c0
      · rw [h] at hj ⊢; rw [f1] at hj; cases hj; rw [← Nat.add_assoc]; exact c1
      · rw [h] at hj ⊢; rw [f2] at hj; cases hj; rw [← Nat.add_assoc]; exact c2
      · rw [h] at hj ⊢; rw [f3] at hj; cases hj; rw [← Nat.add_assoc]; exact c3) (fun u hu => by
        have : ∀ l : List Nat, ∀ u ∈ flat4 l, u.oneCell' = true := fun l => by
          induction l with
          | nil => intro u h; cases h
          | cons x r ih =>
            intro u h
            simp only [flat4, List.mem_cons] at h
            rcases h with rfl | rfl | rfl | rfl | h <;> first | rfl | exact ih u h
        exact this ys u hu) (by unfold maxLen; omega) (by omega) hB
    refine ⟨v', w', hr, ?_, hg⟩
    rw [flat4_append, List.length_append]
    exact ho
theorem vecs_info : (Tryd.prog.info? 46).map (fun i => (i.zero, i.size, i.bytes)) = some (some (.slice none 0 0), 1, 24) := by kernel_rfl
theorem vec_ne_vecs : 51 ≠ 46 := by decide
/-- One list put behind a row of lists. -/
theorem app_ll {B bz : Nat} {W : World} {v : Value} {zss : List (List Nat)} {zs : List Nat} {a : Option Addr} {c : Nat} {T : TypeId} (h1 : RowLL 51 46 B W v zss) (hB : B ≤ W.heap.size) (h2 : W.ownsRow B 51 4 (.slice a zs.length c) zs.length (flat4 zs))
    (hb : W.heap[bz]? = some (.cells #[.slice a zs.length c] T (0, 0))) (hk : zss.length + 1 ≤ 100000) :
    ∃ v' w', (Builtin.append_ #[33, 33] 33 #[v, .slice (some ⟨bz, 0, none⟩) 1 1]).run Tryd.prog W = .ok v' w' ∧ RowLL 51 46 B w' v' (zss ++ [zs]) ∧ W.grownBy w' v.ownBlock := by
  obtain ⟨i0, hi, hz0, hz1, hz2⟩ := info_parts vecs_info
  obtain ⟨us, h3, h4, h5⟩ := h1
  obtain ⟨v', w', hr, ho, hg, _, _⟩ := run_append_own_at (P := Tryd.prog) W B 33 33 46 i0 _ 1 24 Tryd.underlying33 hi hz0 hz1 hz2 rfl (by decide) v us.length _ h3 ⟨bz, 0, none⟩ 1 1 [.slice a zs.length c] rfl (fun j u hj => by
    rw [Addr.add_lit, Nat.zero_add, cell_of_heap hb]
    match j, hj with
    | 0, hj => simpa using hj
    | n + 1, hj => simp at hj) (fun u hu => by simp at hu; subst hu; rfl) (by unfold maxLen; omega) (by omega) hB
  refine ⟨v', w', hr, ⟨us ++ [.slice a zs.length c], by rw [List.length_append]; exact ho, by simp [h4], fun t u ys hu hy => ?_⟩, hg⟩
  by_cases ht : t < us.length
  · rw [List.getElem?_append_left ht] at hu
    rw [List.getElem?_append_left (by omega)] at hy
    obtain ⟨a1, c1, e, h6⟩ := h5 t u ys hu hy
    exact ⟨a1, c1, e, h6.kept hg (rows_apart h6 h3 vec_ne_vecs)⟩
  · have ht2 : t = us.length := by have := (List.getElem?_eq_some_iff.1 hu).1; simp at this; omega
    subst ht2
    rw [List.getElem?_append_right (Nat.le_refl _)] at hu
    rw [h4, List.getElem?_append_right (Nat.le_refl _)] at hy
    simp at hu hy
    subst hu hy
    exact ⟨a, c, rfl, h2.kept hg (rows_apart h2 h3 vec_ne_vecs)⟩
end
section
open Go.RowKit
attribute [local go_sem ↓] Go.wp_at_zero Go.wp_at_succ
set_option maxRecDepth 100000
set_option maxHeartbeats 4000000
/-- Large, for lists of these lengths. -/
def lrg16 (q : Pms) (m1 m2 : Nat) : Nat := if (200 : Int) < (m1 : Int) ∨ (10000 : Int) < (m2 : Int) ∨ (12 < q.sh ∧ 70 < q.ln) ∨ (12 < q.th ∧ 300 < IntKind.i64.wrap (q.sh * q.ln)) then 1 else 0
theorem lrg16_cases (q : Pms) (m1 m2 : Nat) : lrg16 q m1 m2 = 0 ∨ lrg16 q m1 m2 = 1 := by unfold lrg16; split <;> simp
theorem lrg16_zero {q : Pms} {m1 m2 : Nat} (h : lrg16 q m1 m2 = 0) : m1 ≤ 200 ∧ m2 ≤ 10000 ∧ (12 < q.sh → q.ln ≤ 70) ∧ (12 < q.th → IntKind.i64.wrap (q.sh * q.ln) ≤ 300) := by
  unfold lrg16 at h
  have hn : ¬ ((200 : Int) < (m1 : Int) ∨ (10000 : Int) < (m2 : Int) ∨ (12 < q.sh ∧ 70 < q.ln) ∨ (12 < q.th ∧ 300 < IntKind.i64.wrap (q.sh * q.ln))) := fun c => by rw [if_pos c] at h; exact absurd h (by decide)
  omega
theorem ev_bound {q : Pms} {m1 m2 : Nat} (h : lrg16 q m1 m2 = 0) (h0 : prN q = 0) (hl : q.ln ≤ 200) : (dealEv q.cn q.T q.sh.toNat).length ≤ 66000 := by
  obtain ⟨_, _, h3, h4⟩ := lrg16_zero h
  obtain ⟨_, s1, s2, t1, t2, l1, l2⟩ := prN_ok h0
  rw [dealEv_len]
  have hcn : q.cn = (q.ln.toNat + 30) / 31 := by unfold Pms.cn cntI cntN; rw [if_pos ⟨l1, l2⟩]
  obtain ⟨n, hn⟩ : ∃ n : Nat, n = q.sh.toNat := ⟨_, rfl⟩
  obtain ⟨T, hT⟩ : ∃ T : Nat, T = q.T := ⟨_, rfl⟩
  obtain ⟨l, hll⟩ : ∃ l : Nat, l = q.ln.toNat := ⟨_, rfl⟩
  have hT' : T = q.th.toNat := hT
  rw [hcn, ← hn, ← hT, ← hll]
  obtain ⟨c, hc⟩ : ∃ c, c = (l + 30) / 31 := ⟨_, rfl⟩
  rw [← hc]
  have big : ∀ a b : Nat, n ≤ a → c * (1 + T) ≤ b → n * (1 + c * (1 + T)) ≤ a * (1 + b) := fun a b h1 h2 => Nat.mul_le_mul h1 (by omega)
  by_cases hT12 : T ≤ 12
  · by_cases hn12 : n ≤ 12
    · have := big 12 (7 * 13) hn12 (Nat.mul_le_mul (by omega) (by omega)); omega
    · have := big 255 (3 * 13) (by omega) (Nat.mul_le_mul (by have := h3 (by omega); omega) (by omega)); omega
  · have h5 := h4 (by omega)
    have e : q.sh * q.ln = ((n * l : Nat) : Int) := by rw [show q.sh = (n : Int) by omega, show q.ln = (l : Int) by omega]; exact (Int.natCast_mul _ _).symm
    have hb : n * l ≤ 255 * 200 := Nat.mul_le_mul (by omega) (by omega)
    rw [e, IntKind.wrap_i64] at h5
    have h6 : 13 * l ≤ n * l := Nat.mul_le_mul_right _ (by omega)
    have h7 : c ≤ 1 := by omega
    have := big 255 (1 * 256) (by omega) (Nat.mul_le_mul h7 (by omega)); omega
theorem large16_any (q : Pms) (a1 a2 : Option Addr) (m1 m2 c1 c2 : Nat) (w : World) : Calls Tryd.prog 9 #[q.val, .slice a1 m1 c1, .slice a2 m2 c2] w fun e w' => e = .returned (.int .i64 (lrg16 q m1 m2 : Int)) ∧ Off (fun _ => False) w w' := by
  obtain ⟨fd, th, sh, ln⟩ := q
  obtain ⟨pr, hpr⟩ : ∃ pr, pr = IntKind.i64.wrap (sh * ln) := ⟨_, rfl⟩
  have hpr2 := hpr.symm
  unfold Pms.val
  dsimp only
  by_cases hA : (200 : Int) < (m1 : Int)
  · have qA : decide ((200 : Int) < (m1 : Int)) = true := decide_eq_true hA
    have hr : lrg16 ⟨fd, th, sh, ln⟩ m1 m2 = 1 := by unfold lrg16; dsimp only; rw [← hpr]; exact if_pos (by omega)
    rw [hr]
    clear hr hpr
    go_enter Tryd.func9, Tryd.ntmps9
    go_wp2
    go_ret
    exact ⟨rfl, (Off.refl _ w).alloc _⟩
  · by_cases hB : (10000 : Int) < (m2 : Int)
    · have qA : decide ((200 : Int) < (m1 : Int)) = false := decide_eq_false hA
      have qB : decide ((10000 : Int) < (m2 : Int)) = true := decide_eq_true hB
      have hr : lrg16 ⟨fd, th, sh, ln⟩ m1 m2 = 1 := by unfold lrg16; dsimp only; rw [← hpr]; exact if_pos (by omega)
      rw [hr]
      clear hr hpr
      go_enter Tryd.func9, Tryd.ntmps9
      go_wp2
      go_ret
      exact ⟨rfl, (Off.refl _ w).alloc _⟩
    · by_cases hC : 12 < sh
      · by_cases hD : 70 < ln
        · have qA : decide ((200 : Int) < (m1 : Int)) = false := decide_eq_false hA
          have qB : decide ((10000 : Int) < (m2 : Int)) = false := decide_eq_false hB
          have qC : decide (12 < sh) = true := decide_eq_true hC
          have qD : decide (70 < ln) = true := decide_eq_true hD
          have hr : lrg16 ⟨fd, th, sh, ln⟩ m1 m2 = 1 := by unfold lrg16; dsimp only; rw [← hpr]; exact if_pos (by omega)
          rw [hr]
          clear hr hpr
          go_enter Tryd.func9, Tryd.ntmps9
          go_wp2
          go_ret
          exact ⟨rfl, (Off.refl _ w).alloc _⟩
        · by_cases hE : 12 < th
          · by_cases hF : 300 < pr
            · have qA : decide ((200 : Int) < (m1 : Int)) = false := decide_eq_false hA
              have qB : decide ((10000 : Int) < (m2 : Int)) = false := decide_eq_false hB
              have qC : decide (12 < sh) = true := decide_eq_true hC
              have qD : decide (70 < ln) = false := decide_eq_false hD
              have qE : decide (12 < th) = true := decide_eq_true hE
              have qF : decide (300 < pr) = true := decide_eq_true hF
              have hr : lrg16 ⟨fd, th, sh, ln⟩ m1 m2 = 1 := by unfold lrg16; dsimp only; rw [← hpr]; exact if_pos (by omega)
              rw [hr]
              clear hr hpr
              go_enter Tryd.func9, Tryd.ntmps9
              go_wp2
              go_ret
              exact ⟨rfl, (Off.refl _ w).alloc _⟩
            · have qA : decide ((200 : Int) < (m1 : Int)) = false := decide_eq_false hA
              have qB : decide ((10000 : Int) < (m2 : Int)) = false := decide_eq_false hB
              have qC : decide (12 < sh) = true := decide_eq_true hC
              have qD : decide (70 < ln) = false := decide_eq_false hD
              have qE : decide (12 < th) = true := decide_eq_true hE
              have qF : decide (300 < pr) = false := decide_eq_false hF
              have hr : lrg16 ⟨fd, th, sh, ln⟩ m1 m2 = 0 := by unfold lrg16; dsimp only; rw [← hpr]; exact if_neg (by omega)
              rw [hr]
              clear hr hpr
              go_enter Tryd.func9, Tryd.ntmps9
              go_wp2
              go_ret
              exact ⟨rfl, (Off.refl _ w).alloc _⟩
          · have qA : decide ((200 : Int) < (m1 : Int)) = false := decide_eq_false hA
            have qB : decide ((10000 : Int) < (m2 : Int)) = false := decide_eq_false hB
            have qC : decide (12 < sh) = true := decide_eq_true hC
            have qD : decide (70 < ln) = false := decide_eq_false hD
            have qE : decide (12 < th) = false := decide_eq_false hE
            have hr : lrg16 ⟨fd, th, sh, ln⟩ m1 m2 = 0 := by unfold lrg16; dsimp only; rw [← hpr]; exact if_neg (by omega)
            rw [hr]
            clear hr hpr
            go_enter Tryd.func9, Tryd.ntmps9
            go_wp2
            go_ret
            exact ⟨rfl, (Off.refl _ w).alloc _⟩
      · by_cases hE : 12 < th
        · by_cases hF : 300 < pr
          · have qA : decide ((200 : Int) < (m1 : Int)) = false := decide_eq_false hA
            have qB : decide ((10000 : Int) < (m2 : Int)) = false := decide_eq_false hB
            have qC : decide (12 < sh) = false := decide_eq_false hC
            have qE : decide (12 < th) = true := decide_eq_true hE
            have qF : decide (300 < pr) = true := decide_eq_true hF
            have hr : lrg16 ⟨fd, th, sh, ln⟩ m1 m2 = 1 := by unfold lrg16; dsimp only; rw [← hpr]; exact if_pos (by omega)
            rw [hr]
            clear hr hpr
            go_enter Tryd.func9, Tryd.ntmps9
            go_wp2
            go_ret
            exact ⟨rfl, (Off.refl _ w).alloc _⟩
          · have qA : decide ((200 : Int) < (m1 : Int)) = false := decide_eq_false hA
            have qB : decide ((10000 : Int) < (m2 : Int)) = false := decide_eq_false hB
            have qC : decide (12 < sh) = false := decide_eq_false hC
            have qE : decide (12 < th) = true := decide_eq_true hE
            have qF : decide (300 < pr) = false := decide_eq_false hF
            have hr : lrg16 ⟨fd, th, sh, ln⟩ m1 m2 = 0 := by unfold lrg16; dsimp only; rw [← hpr]; exact if_neg (by omega)
            rw [hr]
            clear hr hpr
            go_enter Tryd.func9, Tryd.ntmps9
            go_wp2
            go_ret
            exact ⟨rfl, (Off.refl _ w).alloc _⟩
        · have qA : decide ((200 : Int) < (m1 : Int)) = false := decide_eq_false hA
          have qB : decide ((10000 : Int) < (m2 : Int)) = false := decide_eq_false hB
          have qC : decide (12 < sh) = false := decide_eq_false hC
          have qE : decide (12 < th) = false := decide_eq_false hE
          have hr : lrg16 ⟨fd, th, sh, ln⟩ m1 m2 = 0 := by unfold lrg16; dsimp only; rw [← hpr]; exact if_neg (by omega)
          rw [hr]
          clear hr hpr
          go_enter Tryd.func9, Tryd.ntmps9
          go_wp2
          go_ret
          exact ⟨rfl, (Off.refl _ w).alloc _⟩
end
end Go.Proofs.YtclehgconbdkpaaDoor
