/-
  slices.Equal of two lists of elements, slices.Grow of nil and slices.Concat of two lists, of elements and of bytes, over this seat's translation. Condition: the lists are short.
-/
import Derived.Test.YtpiialjnjfkfeaaDoorElRows
import Derived.Test.YtpiialjnjfkfeaaDoorRowByte
import Derived.Test.YtpiialjnjfkfeaaDoorInvSel
import Derived.Test.YtpiialjnjfkfeaaDoorInvClo
import Derived.Test.YtpiialjnjfkfeaaDoorFieldEq
import Derived.Test.YtpiialjnjfkfeaaDoorBytReg
namespace Go.Proofs.YtpiialjnjfkfeaaDoor
open Go.RowKit
attribute [local go_sem ↓] Go.wp_at_zero Go.wp_at_succ
set_option maxRecDepth 100000
set_option maxHeartbeats 4000000
theorem eleq_any (xs : List Nat) (u v : Value) (w : World) (hU : Ls w u xs) (hV : Ls w v xs) :
    Calls Tryd.prog 20 #[u, v] w fun e w' => e = .returned (.bool true) ∧ Off (fun _ => False) w w' := by
  obtain ⟨a, cap, rfl, hL⟩ := hU.open
  obtain ⟨a2, cap2, rfl, hM⟩ := hV.open
  clear hU hV
  obtain ⟨n, hn⟩ : ∃ n, n = xs.length := ⟨_, rfl⟩
  rw [← hn] at hL hM ⊢
  have HL := Lib.hid hL
  have HM := Lib.hid hM
  have hn2 := hL.len.2
  have k1 : ((n : Int) != (n : Int)) = false := by simp
  clear hn hL hM
  go_enter Tryd.func20, Tryd.ntmps20
  go_wp2_with fail
  clear k1
  go_loopw [13] (fun i wr => ∃ k : Nat, k ≤ n ∧ i = .int .i64 (k : Int) ∧ Off (fun _ => False) w wr) (fun i _ => n - (intOf i).toNat)
  case atStart => exact ⟨0, Nat.zero_le _, rfl, Off.refl _ w⟩
  case round =>
    obtain ⟨k, hk, rfl, hO⟩ := hrel
    by_cases hlt : k < n
    · obtain ⟨z, b, off, hzk, rfl, c0, c1, c2, c3⟩ := (HL.out.off hO (fun _ _ _ c => c)).at hlt
      obtain ⟨z2, b2, off2, hck, rfl, d0, d1, d2, d3⟩ := (HM.out.off hO (fun _ _ _ c => c)).at hlt
      obtain rfl : z = z2 := by rw [hzk] at hck; simpa using hck
      obtain ⟨wq, hwq⟩ : ∃ wq, wq = wr := ⟨_, rfl⟩
      rw [← hwq] at hO c0 c1 c2 c3 d0 d1 d2 d3 ⊢
      have HK1 := Lib.hid (fun (A : World) (h : Off (fun _ => False) wq A) => (⟨h.cell c0 (fun c => c), h.cell c1 (fun c => c), h.cell c2 (fun c => c), h.cell c3 (fun c => c)⟩ : elAt A b (off + k * 4) z))
      have HK2 := Lib.hid (fun (A : World) (h : Off (fun _ => False) wq A) => (⟨h.cell d0 (fun c => c), h.cell d1 (fun c => c), h.cell d2 (fun c => c), h.cell d3 (fun c => c)⟩ : elAt A b2 (off2 + k * 4) z))
      have HO := Lib.hid hO
      have i1 : (k : Int) < (n : Int) := by omega
      have w2 : IntKind.i64.wrap ((k : Int) + 1) = (k : Int) + 1 := by rw [IntKind.wrap_i64]; omega
      clear hO hwq hzk hck c0 c1 c2 c3 d0 d1 d2 d3
      go_upto_region 6 with fail
      obtain ⟨x16, hx⟩ : ∃ x : Value, x = .slice (some ⟨b, off, none⟩) n cap := ⟨_, rfl⟩
      have X16 := Lib.hid hx
      clear hx
      obtain ⟨x17, hx⟩ : ∃ x : Value, x = .int .i64 (k : Int) := ⟨_, rfl⟩
      have X17 := Lib.hid hx
      clear hx
      obtain ⟨x18, hx⟩ : ∃ x : Value, x = .pointer (some ⟨b, off + k * 4, none⟩) := ⟨_, rfl⟩
      have X18 := Lib.hid hx
      clear hx
      obtain ⟨x19, hx⟩ : ∃ x : Value, x = V z := ⟨_, rfl⟩
      have X19 := Lib.hid hx
      clear hx
      obtain ⟨x20, hx⟩ : ∃ x : Value, x = .slice (some ⟨b2, off2, none⟩) n cap2 := ⟨_, rfl⟩
      have X20 := Lib.hid hx
      clear hx
      obtain ⟨x21, hx⟩ : ∃ x : Value, x = .int .i64 (k : Int) := ⟨_, rfl⟩
      have X21 := Lib.hid hx
      clear hx
      obtain ⟨x22, hx⟩ : ∃ x : Value, x = .pointer (some ⟨b2, off2 + k * 4, none⟩) := ⟨_, rfl⟩
      have X22 := Lib.hid hx
      clear hx
      obtain ⟨x23, hx⟩ : ∃ x : Value, x = V z := ⟨_, rfl⟩
      have X23 := Lib.hid hx
      clear hx
      obtain ⟨x24, hx⟩ : ∃ x : Value, x = .bool false := ⟨_, rfl⟩
      have X24 := Lib.hid hx
      clear hx
      refine wp_region_inv (fun a0 l a' w' => a' = (fill a0 16 [sel (l 0) x16 u16, sel (l 1) x17 u17, sel (l 2) x18 u18, sel (l 3) x19 u19, sel (l 4) x20 u20, sel (l 5) x21 u21, sel (l 6) x22 u22, sel (l 7) x23 u23, sel (l 8) x24 u24, u25]) ∧ Off (fun _ => False) wq w') (by kernel_rfl) (by kernel_rfl) ?_ ⟨?_, ?_, ?_, ?_, ?_, ?_, ?_, ?_, ?_, trivial⟩ ?_
      · refine ⟨?_, (Off.refl _ wq).drew⟩
        simp only [fill_eq, List.take_succ_cons, List.take_zero, List.cons_append, List.nil_append, sel_start]
      · as_aux_lemma =>
          rintro l a wr ⟨ha, hO⟩ hl hd K' hK
          have hx := X16.out; subst hx
          simp only [fill_eq, List.take_succ_cons, List.take_zero, List.cons_append, List.nil_append] at ha
          subst ha
          rw [if_pos (by rfl)]
          go_simp
          refine hK.out _ _ ⟨?_, hO⟩
          simp only [fill_eq, List.take_succ_cons, List.take_zero, List.cons_append, List.nil_append, sel_new]
          rfl
      · as_aux_lemma =>
          rintro l a wr ⟨ha, hO⟩ hl hd K' hK
          have hx := X17.out; subst hx
          simp only [fill_eq, List.take_succ_cons, List.take_zero, List.cons_append, List.nil_append] at ha
          subst ha
          rw [if_pos (by rfl)]
          go_simp
          refine hK.out _ _ ⟨?_, hO⟩
          simp only [fill_eq, List.take_succ_cons, List.take_zero, List.cons_append, List.nil_append, sel_new]
          rfl
      · as_aux_lemma =>
          rintro l a wr ⟨ha, hO⟩ hl hd K' hK
          have d0 := hd 0 (by decide)
          have d1 := hd 1 (by decide)
          have hx := X16.out; subst hx
          have hx := X17.out; subst hx
          have hx := X18.out; subst hx
          simp only [fill_eq, List.take_succ_cons, List.take_zero, List.cons_append, List.nil_append, sel_of d0, sel_of d1] at ha
          subst ha
          rw [if_pos (by rfl)]
          go_simp
          refine hK.out _ _ ⟨?_, hO⟩
          simp only [fill_eq, List.take_succ_cons, List.take_zero, List.cons_append, List.nil_append, sel_new, sel_dep d0, sel_dep d1]
          rfl
      · as_aux_lemma =>
          rintro l a wr ⟨ha, hO⟩ hl hd K' hK
          have d2 := hd 2 (by decide)
          have hx := X18.out; subst hx
          have hx := X19.out; subst hx
          simp only [fill_eq, List.take_succ_cons, List.take_zero, List.cons_append, List.nil_append, sel_of d2] at ha
          subst ha
          obtain ⟨p0, p1, p2, p3⟩ := HK1.out wr hO
          rw [if_pos (by rfl)]
          go_simp
          refine hK.out _ _ ⟨?_, hO⟩
          simp only [fill_eq, List.take_succ_cons, List.take_zero, List.cons_append, List.nil_append, sel_new, sel_dep d2]
          rfl
      · as_aux_lemma =>
          rintro l a wr ⟨ha, hO⟩ hl hd K' hK
          have hx := X20.out; subst hx
          simp only [fill_eq, List.take_succ_cons, List.take_zero, List.cons_append, List.nil_append] at ha
          subst ha
          rw [if_pos (by rfl)]
          go_simp
          refine hK.out _ _ ⟨?_, hO⟩
          simp only [fill_eq, List.take_succ_cons, List.take_zero, List.cons_append, List.nil_append, sel_new]
          rfl
      · as_aux_lemma =>
          rintro l a wr ⟨ha, hO⟩ hl hd K' hK
          have hx := X21.out; subst hx
          simp only [fill_eq, List.take_succ_cons, List.take_zero, List.cons_append, List.nil_append] at ha
          subst ha
          rw [if_pos (by rfl)]
          go_simp
          refine hK.out _ _ ⟨?_, hO⟩
          simp only [fill_eq, List.take_succ_cons, List.take_zero, List.cons_append, List.nil_append, sel_new]
          rfl
      · as_aux_lemma =>
          rintro l a wr ⟨ha, hO⟩ hl hd K' hK
          have d4 := hd 4 (by decide)
          have d5 := hd 5 (by decide)
          have hx := X20.out; subst hx
          have hx := X21.out; subst hx
          have hx := X22.out; subst hx
          simp only [fill_eq, List.take_succ_cons, List.take_zero, List.cons_append, List.nil_append, sel_of d4, sel_of d5] at ha
          subst ha
          rw [if_pos (by rfl)]
          go_simp
          refine hK.out _ _ ⟨?_, hO⟩
          simp only [fill_eq, List.take_succ_cons, List.take_zero, List.cons_append, List.nil_append, sel_new, sel_dep d4, sel_dep d5]
          rfl
      · as_aux_lemma =>
          rintro l a wr ⟨ha, hO⟩ hl hd K' hK
          have d6 := hd 6 (by decide)
          have hx := X22.out; subst hx
          have hx := X23.out; subst hx
          simp only [fill_eq, List.take_succ_cons, List.take_zero, List.cons_append, List.nil_append, sel_of d6] at ha
          subst ha
          obtain ⟨p0, p1, p2, p3⟩ := HK2.out wr hO
          rw [if_pos (by rfl)]
          go_simp
          refine hK.out _ _ ⟨?_, hO⟩
          simp only [fill_eq, List.take_succ_cons, List.take_zero, List.cons_append, List.nil_append, sel_new, sel_dep d6]
          rfl
      · as_aux_lemma =>
          rintro l a wr ⟨ha, hO⟩ hl hd K' hK
          have d3 := hd 3 (by decide)
          have d7 := hd 7 (by decide)
          have hx := X19.out; subst hx
          have hx := X23.out; subst hx
          have hx := X24.out; subst hx
          simp only [fill_eq, List.take_succ_cons, List.take_zero, List.cons_append, List.nil_append, sel_of d3, sel_of d7] at ha
          subst ha
          have e1 := equalIn_elem_same
          rw [if_pos (by rfl)]
          go_simp
          refine hK.out _ _ ⟨?_, hO⟩
          simp only [fill_eq, List.take_succ_cons, List.take_zero, List.cons_append, List.nil_append, sel_new, sel_dep d3, sel_dep d7]
          rfl
      · rintro l a wc ⟨ha, hO⟩ hd
        simp only [fill_eq, List.take_succ_cons, List.take_zero, List.cons_append, List.nil_append, sel_of (hd 0 (by decide)), sel_of (hd 1 (by decide)), sel_of (hd 2 (by decide)), sel_of (hd 3 (by decide)), sel_of (hd 4 (by decide)), sel_of (hd 5 (by decide)), sel_of (hd 6 (by decide)), sel_of (hd 7 (by decide)), sel_of (hd 8 (by decide))] at ha
        subst ha
        have hx := X24.out; subst hx
        have HOe := Lib.hid (HO.out.trans hO (fun _ _ c => c))
        clear hO hd
        go_wp2
        go_roundw
        case rel => exact ⟨k + 1, by omega, by simp, HOe.out⟩
        case measure => simp [intOf]; omega
    · obtain rfl : k = n := by omega
      have i1 : ¬ (k : Int) < (k : Int) := by omega
      go_wp2
      go_ret
      exact ⟨rfl, hO⟩
/-- Elements, or none, put behind a row of elements of the call's own. -/
def RowL (B : Nat) (W : World) (v : Value) (xs : List Nat) : Prop := W.ownsRow B 40 4 v xs.length (flat4 xs)
theorem flat4_one' : ∀ l : List Nat, ∀ u ∈ flat4 l, u.oneCell' = true
  | [], u, h => by cases h
  | x :: r, u, h => by
    simp only [flat4, List.mem_cons] at h
    rcases h with rfl | rfl | rfl | rfl | h <;> first | rfl | exact flat4_one' r u h
theorem app_els {w W : World} {v : Value} {xs ys : List Nat} (hO : Off (fun _ => False) w W) (h1 : RowL w.heap.size W v xs) {sv : Value} (h2 : Ls W sv ys) (hk : xs.length + ys.length ≤ 100000) :
    ∃ v' w', (Builtin.append_ #[45, 45] 45 #[v, sv]).run Tryd.prog W = .ok v' w' ∧ RowL w.heap.size w' v' (xs ++ ys) ∧ Off (fun _ => False) w w' := by
  obtain ⟨i0, hi, hz0, hz1, hz2⟩ := info_parts elem_info
  obtain ⟨a, cap, rfl, hl, hat⟩ := h2
  rcases Nat.eq_zero_or_pos ys.length with h0 | hp
  · obtain rfl : ys = [] := List.eq_nil_of_length_eq_zero h0
    refine ⟨v, W, ?_, by rw [List.append_nil]; exact h1, hO⟩
    have ht := Tryd.underlying45
    rcases h1.2 with ⟨rfl, hn⟩ | ⟨g, cp, cur, rfl, _, _, hnc, _⟩
    · cases a <;> simp [Builtin.append_, run_underlying ht, sizeOf, typeInfo, hi, Builtin.lenOf, Builtin.firstCells, loadCells, loadCellsFrom]
    · cases a <;> simp [Builtin.append_, run_underlying ht, sizeOf, typeInfo, hi, Builtin.lenOf, Builtin.firstCells, hnc, storeCells, loadCells, loadCellsFrom]
  · obtain ⟨b, off, rfl, _, hc⟩ := hat hp
    obtain ⟨v', w', hr, ho, hg, _, hb⟩ := run_append_own_at (P := Tryd.prog) W w.heap.size 45 45 40 i0 _ 4 32 Tryd.underlying45 hi hz0 hz1 hz2 rfl (by decide) v xs.length _ h1 ⟨b, off, none⟩ ys.length cap (flat4 ys) (by rw [flat4_length]) (fun j u hj => by
      have hjl : j < (flat4 ys).length := (List.getElem?_eq_some_iff.1 hj).1
      rw [flat4_length] at hjl
      obtain ⟨x, hx⟩ : ∃ x, ys[j / 4]? = some x := ⟨_, List.getElem?_eq_getElem (by omega)⟩
      obtain ⟨c0, c1, c2, c3⟩ := hc _ x hx
      obtain ⟨f0, f1, f2, f3⟩ := flat4_get ys _ x hx
      rw [Addr.add_lit]
      have h4 : j = j / 4 * 4 ∨ j = j / 4 * 4 + 1 ∨ j = j / 4 * 4 + 2 ∨ j = j / 4 * 4 + 3 := by omega
      rcases h4 with h | h | h | h
      · rw [h] at hj ⊢; rw [f0] at hj; cases hj; exact c0
      · rw [h] at hj ⊢; rw [f1] at hj; cases hj; rw [← Nat.add_assoc]; exact c1
      · rw [h] at hj ⊢; rw [f2] at hj; cases hj; rw [← Nat.add_assoc]; exact c2
      · rw [h] at hj ⊢; rw [f3] at hj; cases hj; rw [← Nat.add_assoc]; exact c3) (flat4_one' ys) (by unfold maxLen; omega) (by omega) hO.size
    refine ⟨v', w', hr, ?_, grown_off hO (Nat.le_refl _) h1 hg⟩
    unfold RowL
    rw [flat4_append, List.length_append]
    exact ho
theorem grow_pos_el (n : Nat) (hn : 0 < n) (hl : n ≤ 100000) (w : World) :
    Calls Tryd.prog 32 #[.slice none 0 0, .int .i64 (n : Int)] w fun e w' => (∃ c, e = .returned (.slice (some ⟨w.heap.size, 0, none⟩) 0 c) ∧ w'.ownsRow w.heap.size 40 4 (.slice (some ⟨w.heap.size, 0, none⟩) 0 c) 0 []) ∧ Off (fun _ => False) w w' := by
  obtain ⟨i0, hi, hz0, hz1, hz2⟩ := info_parts elem_info
  have hr := fun ty => Lib.run_append_nil_zeros (P := Tryd.prog) w 45 3 ty 40 i0 _ .i64 .i64 Tryd.underlying45 Tryd.underlying3 hi hz0 n hn (by omega) (by omega) (by rw [hz2]; omega)
  obtain ⟨c, hc⟩ : ∃ c, c = grownCap w n 0 40 := ⟨_, rfl⟩
  have hcn : n ≤ c := by rw [hc]; exact grownCap_ge w n 0 _
  have hcm : c ≤ maxLen := by rw [hc]; exact grownCap_le_maxLen w n 0 _ (by unfold maxLen; omega)
  rw [← hc] at hr
  obtain ⟨Z, hZ⟩ : ∃ Z, Z = Builtin.zeroCells (Value.cells (.agg #[.int .u64 0, .int .u64 0, .int .u64 0, .int .u64 0])) n ++ Builtin.zeroCells (Value.cells (.agg #[.int .u64 0, .int .u64 0, .int .u64 0, .int .u64 0])) (c - n) := ⟨_, rfl⟩
  have hzs : Z.size = c * 4 := by
    rw [hZ, Array.size_append, size_zeroCells, size_zeroCells]
    show n * 4 + (c - n) * 4 = c * 4
    omega
  rw [← hZ] at hr
  have hrow : (w.alloc (.cells Z 40)).drew.ownsRow w.heap.size 40 4 (.slice (some ⟨w.heap.size, 0, none⟩) 0 c) 0 [] := World.ownsRow_made w Z c (Nat.le_refl _) hcm hzs
  have hO : Off (fun _ => False) w (w.alloc (.cells Z 40)).drew := ((Off.refl (fun _ => False) w).alloc _).drew
  have HR := Lib.hid hrow
  have HO := Lib.hid hO
  have HRUN := Lib.hid hr
  clear hc hcn hcm hZ hzs hrow hO hr hz0 hz1 hz2 hi
  go_enter Tryd.func32, Tryd.ntmps32
  go_wp2_with (at_builtin; refine Lib.wpList_append_run _ rfl _ _ _ _ rfl _ _ rfl rfl _ _ (HRUN.out _) ?_)
  go_ret
  exact ⟨⟨c, rfl, HR.out⟩, HO.out⟩
theorem grow_el (n : Nat) (hl : n ≤ 100000) (w : World) :
    Calls Tryd.prog 32 #[.slice none 0 0, .int .i64 (n : Int)] w fun e w' => (∃ a c, e = .returned (.slice a 0 c) ∧ w'.ownsRow w.heap.size 40 4 (.slice a 0 c) 0 []) ∧ Off (fun _ => False) w w' := by
  rcases Nat.eq_zero_or_pos n with rfl | h
  · go_enter Tryd.func32, Tryd.ntmps32
    go_wp2
    go_ret
    exact ⟨⟨none, 0, rfl, World.ownsRow_nil _ _ _ _⟩, Off.refl _ _⟩
  · refine (grow_pos_el n h hl w).mono ?_
    rintro e w' ⟨⟨c, rfl, hr⟩, ho⟩
    exact ⟨⟨_, c, rfl, hr⟩, ho⟩
theorem concat_el (b : Nat) (sx sy : Value) (xs ys : List Nat) (w : World) (c0 : w.cell? ⟨b, 0, none⟩ = some sx) (c1 : w.cell? ⟨b, 1, none⟩ = some sy) (hx : Ls w sx xs) (hy : Ls w sy ys) (hl : xs.length + ys.length ≤ 50000) :
    Calls Tryd.prog 21 #[.slice (some ⟨b, 0, none⟩) 2 2] w fun e w' => ∃ v, e = .returned v ∧ RowL w.heap.size w' v (xs ++ ys) ∧ Off (fun _ => False) w w' := by
  have HX := Lib.hid hx
  have HY := Lib.hid hy
  obtain ⟨m, hm'⟩ : ∃ m, m = xs.length := ⟨_, rfl⟩
  obtain ⟨n, hn'⟩ : ∃ n, n = ys.length := ⟨_, rfl⟩
  obtain ⟨a, cap, rfl⟩ : ∃ a cap, sx = .slice a m cap := by obtain ⟨a, cap, rfl, _⟩ := hx; exact ⟨a, cap, by rw [hm']⟩
  obtain ⟨a2, cap2, rfl⟩ : ∃ a cap, sy = .slice a n cap := by obtain ⟨a, cap, rfl, _⟩ := hy; exact ⟨a, cap, by rw [hn']⟩
  have HG := Lib.hid (fun X => grow_el (m + n) (by omega) X)
  have hw1 : IntKind.i64.wrap ((m : Int) + (n : Int)) = ((m + n : Nat) : Int) := by rw [IntKind.wrap_i64]; omega
  have hw0 : IntKind.i64.wrap ((0 : Int) + (m : Int)) = (m : Int) := by rw [IntKind.wrap_i64]; omega
  have hw2 : IntKind.i64.wrap (m : Int) = (m : Int) := by rw [IntKind.wrap_i64]; omega
  have hn0 : ¬ ((m : Int) < 0) := by omega
  have hn3 : ¬ (((m + n : Nat) : Int) < 0) := by omega
  have HL := Lib.hid hl
  clear hx hy hm' hn' hl
  go_enter Tryd.func21, Tryd.ntmps21
  go_wp2
  go_loop [3, 11] (fun t i => (i = .int .i64 0 ∧ t = .int .i64 0) ∨ (i = .int .i64 1 ∧ t = .int .i64 m) ∨ (i = .int .i64 2 ∧ t = .int .i64 ((m + n : Nat) : Int))) (fun _ i => 2 - (intOf i).toNat)
  case atStart => exact .inl ⟨rfl, rfl⟩
  case round =>
    rcases hrel with ⟨rfl, rfl⟩ | ⟨rfl, rfl⟩ | ⟨rfl, rfl⟩
    · go_wp2
      go_round
      case rel => exact .inr (.inl ⟨by go_num, rfl⟩)
      case measure => simp [intOf]
    · go_wp2
      go_round
      case rel => exact .inr (.inr ⟨by go_num, by first | rfl | (congr 1; omega) | go_num⟩)
      case measure => simp [intOf]
    · go_wp2_with fail
      refine (HG.out _).mono ?_
      rintro e w0 ⟨⟨ga, gc, rfl, hr0⟩, hO0⟩
      have hR0 : RowL w.heap.size w0 (.slice ga 0 gc) [] := hr0
      have HR0 := Lib.hid hR0
      have HO0 := Lib.hid hO0
      clear hr0 hO0 HG hR0
      go_wp2
      go_loopw [6, 27] (fun v i wr => Off (fun _ => False) w wr ∧ ((i = .int .i64 0 ∧ RowL w.heap.size wr v []) ∨ (i = .int .i64 1 ∧ RowL w.heap.size wr v xs) ∨ (i = .int .i64 2 ∧ RowL w.heap.size wr v (xs ++ ys)))) (fun _ i _ => 2 - (intOf i).toNat)
      case atStart => exact ⟨HO0.out, .inl ⟨rfl, HR0.out⟩⟩
      case round =>
        rename_i v i wr
        obtain ⟨hO, ⟨rfl, hr⟩ | ⟨rfl, hr⟩ | ⟨rfl, hr⟩⟩ := hrel
        · have d0 := hO.cell c0 (fun c => c)
          obtain ⟨v', w1, hrun, hr1, hO1⟩ := app_els hO hr (HX.out.off hO) (by have := HL.out; simp; omega)
          rw [List.nil_append] at hr1
          have HRun := Lib.hid hrun
          have HR1 := Lib.hid hr1
          have HO1 := Lib.hid hO1
          clear hrun hr1 hO1 hr hO HR0 HO0
          go_wp2_with first | (at_builtin; refine Go.Lib.wpList_append_run _ rfl _ _ _ _ rfl _ _ rfl rfl _ _ HRun.out ?_) | fail
          go_roundw
          case rel => exact ⟨HO1.out, .inr (.inl ⟨by go_num, HR1.out⟩)⟩
          case measure => simp [intOf]
        · have d0 := hO.cell c1 (fun c => c)
          obtain ⟨v', w1, hrun, hr1, hO1⟩ := app_els hO hr (HY.out.off hO) (by have := HL.out; simp; omega)
          have HRun := Lib.hid hrun
          have HR1 := Lib.hid hr1
          have HO1 := Lib.hid hO1
          clear hrun hr1 hO1 hr hO HR0 HO0
          go_wp2_with first | (at_builtin; refine Go.Lib.wpList_append_run _ rfl _ _ _ _ rfl _ _ rfl rfl _ _ HRun.out ?_) | fail
          go_roundw
          case rel => exact ⟨HO1.out, .inr (.inr ⟨by go_num, HR1.out⟩)⟩
          case measure => simp [intOf]
        · have HO := Lib.hid hO
          have HR := Lib.hid hr
          clear hO hr HR0 HO0
          go_wp2
          go_ret
          exact ⟨_, rfl, HR.out, HO.out⟩
theorem app_sv {w W : World} {v : Value} {xs ys : List Nat} (hO : Off (fun _ => False) w W) (h1 : RowY w.heap.size W v xs) {sv : Value} (h2 : SvAt W sv ys) (hk : xs.length + ys.length ≤ 100000) :
    ∃ v' w', (Builtin.append_ #[22, 22] 22 #[v, sv]).run Tryd.prog W = .ok v' w' ∧ RowY w.heap.size w' v' (xs ++ ys) ∧ Off (fun _ => False) w w' := by
  obtain ⟨a, n, cap, rfl, hn, _, hb⟩ := h2
  exact app_any hO h1 hb hn (by omega)
theorem grow_pos_by (n : Nat) (hn : 0 < n) (hl : n ≤ 100000) (w : World) :
    Calls Tryd.prog 33 #[.slice none 0 0, .int .i64 (n : Int)] w fun e w' => (∃ c, e = .returned (.slice (some ⟨w.heap.size, 0, none⟩) 0 c) ∧ w'.ownsRow w.heap.size 5 1 (.slice (some ⟨w.heap.size, 0, none⟩) 0 c) 0 []) ∧ Off (fun _ => False) w w' := by
  obtain ⟨i0, hi, hz0, hz1, hz2⟩ := info_parts byte_info
  have hr := fun ty => Lib.run_append_nil_zeros (P := Tryd.prog) w 22 3 ty 5 i0 _ .i64 .i64 Tryd.underlying22 Tryd.underlying3 hi hz0 n hn (by omega) (by omega) (by rw [hz2]; omega)
  obtain ⟨c, hc⟩ : ∃ c, c = grownCap w n 0 5 := ⟨_, rfl⟩
  have hcn : n ≤ c := by rw [hc]; exact grownCap_ge w n 0 _
  have hcm : c ≤ maxLen := by rw [hc]; exact grownCap_le_maxLen w n 0 _ (by unfold maxLen; omega)
  rw [← hc] at hr
  obtain ⟨Z, hZ⟩ : ∃ Z, Z = Builtin.zeroCells (Value.cells (.int .u8 0)) n ++ Builtin.zeroCells (Value.cells (.int .u8 0)) (c - n) := ⟨_, rfl⟩
  have hzs : Z.size = c * 1 := by
    rw [hZ, Array.size_append, size_zeroCells, size_zeroCells]
    show n * 1 + (c - n) * 1 = c * 1
    omega
  rw [← hZ] at hr
  have hrow : (w.alloc (.cells Z 5)).drew.ownsRow w.heap.size 5 1 (.slice (some ⟨w.heap.size, 0, none⟩) 0 c) 0 [] := World.ownsRow_made w Z c (Nat.le_refl _) hcm hzs
  have hO : Off (fun _ => False) w (w.alloc (.cells Z 5)).drew := ((Off.refl (fun _ => False) w).alloc _).drew
  have HR := Lib.hid hrow
  have HO := Lib.hid hO
  have HRUN := Lib.hid hr
  clear hc hcn hcm hZ hzs hrow hO hr hz0 hz1 hz2 hi
  go_enter Tryd.func33, Tryd.ntmps33
  go_wp2_with (at_builtin; refine Lib.wpList_append_run _ rfl _ _ _ _ rfl _ _ rfl rfl _ _ (HRUN.out _) ?_)
  go_ret
  exact ⟨⟨c, rfl, HR.out⟩, HO.out⟩
theorem grow_by (n : Nat) (hl : n ≤ 100000) (w : World) :
    Calls Tryd.prog 33 #[.slice none 0 0, .int .i64 (n : Int)] w fun e w' => (∃ a c, e = .returned (.slice a 0 c) ∧ w'.ownsRow w.heap.size 5 1 (.slice a 0 c) 0 []) ∧ Off (fun _ => False) w w' := by
  rcases Nat.eq_zero_or_pos n with rfl | h
  · go_enter Tryd.func33, Tryd.ntmps33
    go_wp2
    go_ret
    exact ⟨⟨none, 0, rfl, World.ownsRow_nil _ _ _ _⟩, Off.refl _ _⟩
  · refine (grow_pos_by n h hl w).mono ?_
    rintro e w' ⟨⟨c, rfl, hr⟩, ho⟩
    exact ⟨⟨_, c, rfl, hr⟩, ho⟩
theorem concat_by (b : Nat) (sx sy : Value) (xs ys : List Nat) (w : World) (c0 : w.cell? ⟨b, 0, none⟩ = some sx) (c1 : w.cell? ⟨b, 1, none⟩ = some sy) (hx : SvAt w sx xs) (hy : SvAt w sy ys) (hl : xs.length + ys.length ≤ 50000) :
    Calls Tryd.prog 22 #[.slice (some ⟨b, 0, none⟩) 2 2] w fun e w' => ∃ v, e = .returned v ∧ RowY w.heap.size w' v (xs ++ ys) ∧ Off (fun _ => False) w w' := by
  have HX := Lib.hid hx
  have HY := Lib.hid hy
  obtain ⟨m, hm'⟩ : ∃ m, m = xs.length := ⟨_, rfl⟩
  obtain ⟨n, hn'⟩ : ∃ n, n = ys.length := ⟨_, rfl⟩
  obtain ⟨a, cap, rfl⟩ : ∃ a cap, sx = .slice a m cap := by obtain ⟨a, n, cap, rfl, hn, _, _⟩ := hx; exact ⟨a, cap, by rw [hm', hn]⟩
  obtain ⟨a2, cap2, rfl⟩ : ∃ a cap, sy = .slice a n cap := by obtain ⟨a, n, cap, rfl, hn, _, _⟩ := hy; exact ⟨a, cap, by rw [hn', hn]⟩
  have HG := Lib.hid (fun X => grow_by (m + n) (by omega) X)
  have hw1 : IntKind.i64.wrap ((m : Int) + (n : Int)) = ((m + n : Nat) : Int) := by rw [IntKind.wrap_i64]; omega
  have hw0 : IntKind.i64.wrap ((0 : Int) + (m : Int)) = (m : Int) := by rw [IntKind.wrap_i64]; omega
  have hw2 : IntKind.i64.wrap (m : Int) = (m : Int) := by rw [IntKind.wrap_i64]; omega
  have hn0 : ¬ ((m : Int) < 0) := by omega
  have hn3 : ¬ (((m + n : Nat) : Int) < 0) := by omega
  have HL := Lib.hid hl
  clear hx hy hm' hn' hl
  go_enter Tryd.func22, Tryd.ntmps22
  go_wp2
  go_loop [3, 11] (fun t i => (i = .int .i64 0 ∧ t = .int .i64 0) ∨ (i = .int .i64 1 ∧ t = .int .i64 m) ∨ (i = .int .i64 2 ∧ t = .int .i64 ((m + n : Nat) : Int))) (fun _ i => 2 - (intOf i).toNat)
  case atStart => exact .inl ⟨rfl, rfl⟩
  case round =>
    rcases hrel with ⟨rfl, rfl⟩ | ⟨rfl, rfl⟩ | ⟨rfl, rfl⟩
    · go_wp2
      go_round
      case rel => exact .inr (.inl ⟨by go_num, rfl⟩)
      case measure => simp [intOf]
    · go_wp2
      go_round
      case rel => exact .inr (.inr ⟨by go_num, by first | rfl | (congr 1; omega) | go_num⟩)
      case measure => simp [intOf]
    · go_wp2_with fail
      refine (HG.out _).mono ?_
      rintro e w0 ⟨⟨ga, gc, rfl, hr0⟩, hO0⟩
      have hR0 : RowY w.heap.size w0 (.slice ga 0 gc) [] := hr0
      have HR0 := Lib.hid hR0
      have HO0 := Lib.hid hO0
      clear hr0 hO0 HG hR0
      go_wp2
      go_loopw [6, 27] (fun v i wr => Off (fun _ => False) w wr ∧ ((i = .int .i64 0 ∧ RowY w.heap.size wr v []) ∨ (i = .int .i64 1 ∧ RowY w.heap.size wr v xs) ∨ (i = .int .i64 2 ∧ RowY w.heap.size wr v (xs ++ ys)))) (fun _ i _ => 2 - (intOf i).toNat)
      case atStart => exact ⟨HO0.out, .inl ⟨rfl, HR0.out⟩⟩
      case round =>
        rename_i v i wr
        obtain ⟨hO, ⟨rfl, hr⟩ | ⟨rfl, hr⟩ | ⟨rfl, hr⟩⟩ := hrel
        · have d0 := hO.cell c0 (fun c => c)
          obtain ⟨v', w1, hrun, hr1, hO1⟩ := app_sv hO hr (HX.out.off hO) (by have := HL.out; simp; omega)
          rw [List.nil_append] at hr1
          have HRun := Lib.hid hrun
          have HR1 := Lib.hid hr1
          have HO1 := Lib.hid hO1
          clear hrun hr1 hO1 hr hO HR0 HO0
          go_wp2_with first | (at_builtin; refine Go.Lib.wpList_append_run _ rfl _ _ _ _ rfl _ _ rfl rfl _ _ HRun.out ?_) | fail
          go_roundw
          case rel => exact ⟨HO1.out, .inr (.inl ⟨by go_num, HR1.out⟩)⟩
          case measure => simp [intOf]
        · have d0 := hO.cell c1 (fun c => c)
          obtain ⟨v', w1, hrun, hr1, hO1⟩ := app_sv hO hr (HY.out.off hO) (by have := HL.out; simp; omega)
          have HRun := Lib.hid hrun
          have HR1 := Lib.hid hr1
          have HO1 := Lib.hid hO1
          clear hrun hr1 hO1 hr hO HR0 HO0
          go_wp2_with first | (at_builtin; refine Go.Lib.wpList_append_run _ rfl _ _ _ _ rfl _ _ rfl rfl _ _ HRun.out ?_) | fail
          go_roundw
          case rel => exact ⟨HO1.out, .inr (.inr ⟨by go_num, HR1.out⟩)⟩
          case measure => simp [intOf]
        · have HO := Lib.hid hO
          have HR := Lib.hid hr
          clear hO hr HR0 HO0
          go_wp2
          go_ret
          exact ⟨_, rfl, HR.out, HO.out⟩
end Go.Proofs.YtpiialjnjfkfeaaDoor
