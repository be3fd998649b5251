/-
  The statements' own alive of layer 16 over this seat's translation. Condition: the table of fields lies in memory as it was laid.
-/
import Derived.Test.YtclehgconbdkpaaDoorDealD
import Derived.Test.YtclehgconbdkpaaDoorDealC
import Derived.Test.YtclehgconbdkpaaDoorDealA
import Derived.Test.YtclehgconbdkpaaDoorBytRow
import Derived.Test.YtclehgconbdkpaaDoorInvClo
import Derived.Test.YtclehgconbdkpaaDoorFieldGrp
import Derived.Lib.AppendZerosOnto
namespace Go.Proofs.YtclehgconbdkpaaDoor
open Go.RowKit Go.Lib
attribute [local go_sem ↓] Go.wp_at_zero Go.wp_at_succ
set_option maxRecDepth 100000
set_option maxHeartbeats 4000000
theorem zeroCells_by' (z : Value) (n : Nat) : (Builtin.zeroCells #[z] n).toList = List.replicate n z := by
  apply List.ext_getElem?
  intro k
  by_cases hk : k < n <;> simp [Builtin.zeroCells, hk, Nat.mod_one]
/-- 63 zeros put behind one byte. -/
theorem app_zeros63 {w : World} {g : Nat} (hg : w.heap[g]? = some (.cells #[.int .u8 3] 5 (0, 0))) :
    ∃ a c w', (Builtin.append_ #[24, 3] 24 #[.slice (some ⟨g, 0, none⟩) 1 1, .int .i64 63]).run Tryd.prog w = .ok (.slice a 64 c) w' ∧ BsAt w' a (3 :: List.replicate 63 0) (fun _ => True) ∧ 64 ≤ c ∧ Off (fun _ => False) w w' := by
  obtain ⟨i0, hi, hz0, hz1, hz2⟩ := info_parts byte_info
  have hold : (Builtin.firstCells i0.size 1 (.slice (some ⟨g, 0, none⟩) 1 1)).run Tryd.prog w.drew = .ok [Value.int .u8 3].toArray w.drew := by
    rw [hz1]
    exact run_firstCells_some w.drew 1 1 ⟨g, 0, none⟩ 1 1 [Value.int .u8 3] rfl (fun j u hj => by
      have h1 : j < 1 := (List.getElem?_eq_some_iff.1 hj).1
      obtain rfl : j = 0 := by omega
      rw [Addr.add_lit, Nat.zero_add]
      show w.cell? ⟨g, 0, none⟩ = some u
      rw [cell_of_heap hg]
      exact hj)
  have hr := run_append_grow_zeros (P := Tryd.prog) w 24 3 24 5 i0 _ .i64 .i64 Tryd.underlying24 Tryd.underlying3 hi hz0 (some ⟨g, 0, none⟩) 1 1 [Value.int .u8 3] hold 63 (by omega) (by rw [hz1]; decide) (by omega) (by omega) (by rw [hz2]; omega) (growslice_fits (by omega) (by rw [hz2]; omega))
  refine ⟨_, _, _, hr, ?_, grownCap_ge w (1 + 63) 1 5, ((Off.refl _ w).drew).alloc _⟩
  intro _
  refine ⟨w.heap.size, 0, rfl, trivial, fun j y hj => ?_⟩
  rw [Nat.zero_add]
  have hjl : j < 64 := by have := (List.getElem?_eq_some_iff.1 hj).1; simpa using this
  have hnew := heap_alloc_new w.drew (Obj.cells ([Value.int .u8 3].toArray ++ Builtin.zeroCells (Value.int .u8 0).cells 63 ++ Builtin.zeroCells (Value.int .u8 0).cells (grownCap w (1 + 63) 1 5 - (1 + 63))) 5)
  have hc := cell_of_heap hnew j
  refine hc.trans ?_
  have hz := zeroCells_by' (Value.int .u8 0) 63
  rw [show #[Value.int .u8 0] = (Value.int .u8 0).cells from rfl] at hz
  rw [← Array.getElem?_toList, Array.toList_append, Array.toList_append, hz, List.getElem?_append_left (by simp; omega)]
  have h0 : [Value.int .u8 3].toArray.toList ++ List.replicate 63 (Value.int .u8 0) = (3 :: List.replicate 63 0).map u8v := by simp [u8v]
  rw [h0, List.getElem?_map, hj]; rfl
theorem by5 {W : World} {b : Nat} (h : W.heap[b]? = some (.cells #[.int .u8 5] 5 (0, 0))) : BsAt W (some ⟨b, 0, none⟩) [5] (fun k => k < W.heap.size) := BsAt.of_blk (T := 5) h (heap_lt h)
theorem made_all {B : Nat} {W : World} {v : Value} {l : List Sh} (h : Made B W v l) : ShsAt W v l (fun _ => True) := by
  obtain ⟨a, cap, hv, hc, h1, h2, h4⟩ := h
  refine ⟨a, cap, hv, hc, h1, h2, fun hp => ?_⟩
  obtain ⟨b, off, ha, _, hx⟩ := h4 hp
  refine ⟨b, off, ha, trivial, fun j s hj => ?_⟩
  obtain ⟨c0, c1, c2, c3, pa, pc, c4, c5, c6⟩ := hx j s hj
  exact ⟨c0, c1, c2, c3, pa, pc, c4, c5, c6.wide (fun _ _ _ => trivial)⟩
def q2 : Pms := ⟨1, 2, 2, 1⟩
def rnd2 : List Nat := 3 :: List.replicate 63 0
def shs2 : List Sh := shrsN q2 (modN 1) (polsN q2 [5] rnd2)
theorem pol2 : polE q2 [5] rnd2 = 0 ∧ polE q2 [] [] = 8 := by decide +kernel
theorem shs2_len : shs2.length = 2 := rfl
theorem shs2_at : shs2[1]? = some (shrN q2 (modN 1) (polsN q2 [5] rnd2) 2) := rfl
theorem shs2_pl : (shrN q2 (modN 1) (polsN q2 [5] rnd2) 2).pl = [418] := by decide +kernel
theorem eva1 : evaE ⟨1, 1, 1, 0⟩ [] = 0 := by decide +kernel
theorem alive16_any (w : World) (hT : TabAt w) : Calls Tryd.prog 10 #[] w fun e w' => e = .returned (.bool true) ∧ Off (fun _ => False) w w' := by
  have HT := Lib.hid hT
  clear hT
  obtain ⟨W0, hW0⟩ : ∃ W0, W0 = w.alloc (.cells #[.int .i64 1, .int .i64 2, .int .i64 2, .int .i64 1] 23) := ⟨_, rfl⟩
  have HO0 := Lib.hid (show Off (fun _ => False) w W0 by rw [hW0]; exact (Off.refl _ w).alloc _)
  have HG := Lib.hid (show W0.heap[w.heap.size]? = some (.cells #[.int .i64 1, .int .i64 2, .int .i64 2, .int .i64 1] 23 (0, 0)) by rw [hW0]; exact heap_new' rfl _)
  have HT0 := Lib.hid (HT.out.off HO0.out)
  have HW0 := Lib.hid hW0
  have FD := Lib.hid (fun W (hO : Off (fun _ => False) W0 W) (b5 : Nat) (a13 : Option Addr) (c13 : Nat) (h5 : W.heap[b5]? = some (.cells #[.int .u8 5] 5 (0, 0))) (h3 : BsAt W a13 (3 :: List.replicate 63 0) (fun _ => True)) (hc : 64 ≤ c13) =>
    (show Calls Tryd.prog 14 #[.pointer none, .agg #[.int .i64 1, .int .i64 2, .int .i64 2, .int .i64 1], .slice (some ⟨b5, 0, none⟩) 1 1, .slice a13 64 c13] W fun e w' => ∃ v, e = .returned (.tuple #[v, .int .i64 0]) ∧ ShsAt w' v shs2 (fun _ => True) ∧ Off (fun _ => False) W w' from
      (deal_deal q2 ⟨rfl, rfl, rfl, rfl⟩ (some ⟨b5, 0, none⟩) a13 1 64 1 c13 [5] rnd2 (fun k => k < W.heap.size) W (fun k hk => hk) rfl (by simp [rnd2]) (Nat.le_refl _) hc (by unfold Small; decide) (by unfold Small rnd2; decide) (by decide) (by decide) (by5 h5) (h3.old) none [] (fun _ => False) (Tp.none W) (fun _ => by decide +kernel) (HT0.out.off hO)).mono (fun e w' ⟨v, he, _, h2, hO'⟩ => ⟨v, by rw [he, pol2.1]; rfl, made_all (h2 pol2.1).1, hO'⟩)))
  clear hW0
  go_enter Tryd.func10, Tryd.ntmps10
  go_upto_region 2 with fail
  rw [← HW0.out]
  obtain ⟨x10, hx⟩ : ∃ vv : Value, vv = .agg #[.int .i64 1, .int .i64 2, .int .i64 2, .int .i64 1] := ⟨_, rfl⟩
  have X10 := Lib.hid hx
  clear hx
  obtain ⟨x16, hx⟩ : ∃ vv : Value, vv = .int .i64 0 := ⟨_, rfl⟩
  have X16 := Lib.hid hx
  clear hx
  obtain ⟨x3, hx⟩ : ∃ vv : Value, vv = .int .i64 0 := ⟨_, rfl⟩
  have X3 := Lib.hid hx
  clear hx
  refine wp_region_clo (fun a0 l a' w' => ∃ (b5 : Nat) (b3 : Nat) (a13 : Option Addr) (c13 : Nat) (vd : Value), a' = (Act.put (Act.put (fill a0 9 [sel (l 5) (.tuple #[vd, .int .i64 0]) (undef), sel (l 0) x10 (undef), sel (l 1) (.slice (some ⟨b5, 0, none⟩) 1 1) (undef), sel (l 2) (.slice (some ⟨b3, 0, none⟩) 1 1) (undef), sel (l 3) (.slice a13 64 c13) (undef), sel (l 4) (.tuple #[vd, .int .i64 0]) (undef), sel (l 6) (vd) (undef), sel (l 7) x16 (undef), undef, undef, undef, undef, undef, undef, undef, undef, undef, undef, undef, undef, undef, undef, undef, undef, undef, undef, undef, undef, undef, undef, undef, undef, undef, undef, undef, undef, undef, undef, undef, undef, undef, undef, undef, undef, undef, undef, undef, undef, undef, undef, undef, undef, undef, undef, undef, undef]) (some 2) (sel (l 8) (vd) (undef))) (some 3) (sel (l 9) x3 (undef))) ∧ Off (fun _ => False) W0 w' ∧ (l 1 = true → w'.heap[b5]? = some (.cells #[.int .u8 5] 5 (0, 0))) ∧ (l 2 = true → w'.heap[b3]? = some (.cells #[.int .u8 3] 5 (0, 0))) ∧ (l 3 = true → BsAt w' a13 (3 :: List.replicate 63 0) (fun _ => True) ∧ 64 ≤ c13) ∧ (l 4 = true → ShsAt w' vd shs2 (fun _ => True))) (by kernel_rfl) (by kernel_rfl) ?_ ⟨?_, ?_, ?_, ?_, ?_, ?_, ?_, ?_, ?_, ?_, trivial⟩ ?_
  · refine ⟨0, 0, none, 0, undef, ?_, (Off.refl _ W0).drew, (fun h => by cases h), (fun h => by cases h), (fun h => by cases h), (fun h => by cases h)⟩
    simp only [fill_eq, List.take_succ_cons, List.take_zero, List.cons_append, List.nil_append, Act.put, List.setIfInBounds_toArray, List.set_cons_zero, List.set_cons_succ, sel_start]
    try rfl
  · as_aux_lemma =>
      rintro l a wr ⟨b5, b3, a13, c13, vd, ha, hO, h1, h2, h3, h4⟩ hc hl hd K' hK
      have hx := X10.out; subst hx
      simp only [fill_eq, List.take_succ_cons, List.take_zero, List.cons_append, List.nil_append, Act.put, List.setIfInBounds_toArray, List.set_cons_zero, List.set_cons_succ] at ha
      subst ha
      have H1 := Lib.hid h1
      clear h1
      have H2 := Lib.hid h2
      clear h2
      have H3 := Lib.hid h3
      clear h3
      have H4 := Lib.hid h4
      clear h4
      have g := hO.heap HG.out (fun c => c)
      have p0 := cell_of_heap g 0
      have p1 := cell_of_heap g 1
      have p2 := cell_of_heap g 2
      have p3 := cell_of_heap g 3
      have hlq := heap_lt g
      clear g
      rw [if_pos (by rfl)]
      go_simp
      refine Shut.out hK _ _ ⟨b5, b3, a13, c13, vd, ?_, hO, (fun h => Off.heap (Off.refl (fun _ => False) wr) (H1.out (show l 1 = true by rwa [upd_ne l (by decide)] at h)) (fun c => c)), (fun h => Off.heap (Off.refl (fun _ => False) wr) (H2.out (show l 2 = true by rwa [upd_ne l (by decide)] at h)) (fun c => c)), (fun h => ⟨BsAt.off ((H3.out (show l 3 = true by rwa [upd_ne l (by decide)] at h))).1 (Off.refl (fun _ => False) wr) (fun _ _ _ c => c), ((H3.out (show l 3 = true by rwa [upd_ne l (by decide)] at h))).2⟩), (fun h => ShsAt.off (H4.out (show l 4 = true by rwa [upd_ne l (by decide)] at h)) (Off.refl (fun _ => False) wr) (fun _ _ _ c => c))⟩
      simp only [fill_eq, List.take_succ_cons, List.take_zero, List.cons_append, List.nil_append, Act.put, List.setIfInBounds_toArray, List.set_cons_zero, List.set_cons_succ, sel_new]
      try rfl
  · rintro l a wr ⟨b5, b3, a13, c13, vd, ha, hO, h1, h2, h3, h4⟩ hc hl hd K' hK
    have g4 := hc.not (i := 4) hl 10 (by kernel_rfl)
    have g5 := hc.not (i := 5) hl 10 (by kernel_rfl)
    have g6 := hc.not (i := 6) hl 10 (by kernel_rfl)
    have g7 := hc.not (i := 7) hl 10 (by kernel_rfl)
    have g8 := hc.not (i := 8) hl 10 (by kernel_rfl)
    have g9 := hc.not (i := 9) hl 10 (by kernel_rfl)
    simp only [fill_eq, List.take_succ_cons, List.take_zero, List.cons_append, List.nil_append, Act.put, List.setIfInBounds_toArray, List.set_cons_zero, List.set_cons_succ, sel_no g4, sel_no g5, sel_no g6, sel_no g7, sel_no g8, sel_no g9, sel_no hl] at ha
    subst ha
    have G4 := Lib.hid g4
    clear g4
    have G5 := Lib.hid g5
    clear g5
    have G6 := Lib.hid g6
    clear g6
    have G7 := Lib.hid g7
    clear g7
    have G8 := Lib.hid g8
    clear g8
    have G9 := Lib.hid g9
    clear g9
    have H1 := Lib.hid h1
    clear h1
    have H2 := Lib.hid h2
    clear h2
    have H3 := Lib.hid h3
    clear h3
    have H4 := Lib.hid h4
    clear h4
    rw [if_pos (by rfl)]
    go_simp
    refine Shut.out hK _ _ ⟨wr.heap.size, b3, a13, c13, vd, ?_, (hO.alloc _), (fun _ => heap_new' rfl _), (fun h => Off.heap ((Off.refl (fun _ => False) wr).alloc _) (H2.out (show l 2 = true by rwa [upd_ne l (by decide)] at h)) (fun c => c)), (fun h => ⟨BsAt.off ((H3.out (show l 3 = true by rwa [upd_ne l (by decide)] at h))).1 ((Off.refl (fun _ => False) wr).alloc _) (fun _ _ _ c => c), ((H3.out (show l 3 = true by rwa [upd_ne l (by decide)] at h))).2⟩), (fun h => absurd (show (true : Bool) = false from (show l 4 = true by rwa [upd_ne l (by decide)] at h).symm.trans G4.out) (by decide))⟩
    simp only [fill_eq, List.take_succ_cons, List.take_zero, List.cons_append, List.nil_append, Act.put, List.setIfInBounds_toArray, List.set_cons_zero, List.set_cons_succ, sel_new, sel_no (show upd l 1 4 = false by rw [upd_ne l (by decide)]; exact G4.out), sel_no (show upd l 1 5 = false by rw [upd_ne l (by decide)]; exact G5.out), sel_no (show upd l 1 6 = false by rw [upd_ne l (by decide)]; exact G6.out), sel_no (show upd l 1 7 = false by rw [upd_ne l (by decide)]; exact G7.out), sel_no (show upd l 1 8 = false by rw [upd_ne l (by decide)]; exact G8.out), sel_no (show upd l 1 9 = false by rw [upd_ne l (by decide)]; exact G9.out)]
    try rfl
  · rintro l a wr ⟨b5, b3, a13, c13, vd, ha, hO, h1, h2, h3, h4⟩ hc hl hd K' hK
    have g3 := hc.not (i := 3) hl 10 (by kernel_rfl)
    have g4 := hc.not (i := 4) hl 10 (by kernel_rfl)
    have g5 := hc.not (i := 5) hl 10 (by kernel_rfl)
    have g6 := hc.not (i := 6) hl 10 (by kernel_rfl)
    have g7 := hc.not (i := 7) hl 10 (by kernel_rfl)
    have g8 := hc.not (i := 8) hl 10 (by kernel_rfl)
    have g9 := hc.not (i := 9) hl 10 (by kernel_rfl)
    simp only [fill_eq, List.take_succ_cons, List.take_zero, List.cons_append, List.nil_append, Act.put, List.setIfInBounds_toArray, List.set_cons_zero, List.set_cons_succ, sel_no g3, sel_no g4, sel_no g5, sel_no g6, sel_no g7, sel_no g8, sel_no g9, sel_no hl] at ha
    subst ha
    have G3 := Lib.hid g3
    clear g3
    have G4 := Lib.hid g4
    clear g4
    have G5 := Lib.hid g5
    clear g5
    have G6 := Lib.hid g6
    clear g6
    have G7 := Lib.hid g7
    clear g7
    have G8 := Lib.hid g8
    clear g8
    have G9 := Lib.hid g9
    clear g9
    have H1 := Lib.hid h1
    clear h1
    have H2 := Lib.hid h2
    clear h2
    have H3 := Lib.hid h3
    clear h3
    have H4 := Lib.hid h4
    clear h4
    rw [if_pos (by rfl)]
    go_simp
    refine Shut.out hK _ _ ⟨b5, wr.heap.size, a13, c13, vd, ?_, (hO.alloc _), (fun h => Off.heap ((Off.refl (fun _ => False) wr).alloc _) (H1.out (show l 1 = true by rwa [upd_ne l (by decide)] at h)) (fun c => c)), (fun _ => heap_new' rfl _), (fun h => absurd (show (true : Bool) = false from (show l 3 = true by rwa [upd_ne l (by decide)] at h).symm.trans G3.out) (by decide)), (fun h => absurd (show (true : Bool) = false from (show l 4 = true by rwa [upd_ne l (by decide)] at h).symm.trans G4.out) (by decide))⟩
    simp only [fill_eq, List.take_succ_cons, List.take_zero, List.cons_append, List.nil_append, Act.put, List.setIfInBounds_toArray, List.set_cons_zero, List.set_cons_succ, sel_new, sel_no (show upd l 2 3 = false by rw [upd_ne l (by decide)]; exact G3.out), sel_no (show upd l 2 4 = false by rw [upd_ne l (by decide)]; exact G4.out), sel_no (show upd l 2 5 = false by rw [upd_ne l (by decide)]; exact G5.out), sel_no (show upd l 2 6 = false by rw [upd_ne l (by decide)]; exact G6.out), sel_no (show upd l 2 7 = false by rw [upd_ne l (by decide)]; exact G7.out), sel_no (show upd l 2 8 = false by rw [upd_ne l (by decide)]; exact G8.out), sel_no (show upd l 2 9 = false by rw [upd_ne l (by decide)]; exact G9.out)]
    try rfl
  · as_aux_lemma =>
      rintro l a wr ⟨b5, b3, a13, c13, vd, ha, hO, h1, h2, h3, h4⟩ hc hl hd K' hK
      have d2 := hd 2 (by decide)
      have g4 := hc.not (i := 4) hl 10 (by kernel_rfl)
      have g5 := hc.not (i := 5) hl 10 (by kernel_rfl)
      have g6 := hc.not (i := 6) hl 10 (by kernel_rfl)
      have g7 := hc.not (i := 7) hl 10 (by kernel_rfl)
      have g8 := hc.not (i := 8) hl 10 (by kernel_rfl)
      have g9 := hc.not (i := 9) hl 10 (by kernel_rfl)
      simp only [fill_eq, List.take_succ_cons, List.take_zero, List.cons_append, List.nil_append, Act.put, List.setIfInBounds_toArray, List.set_cons_zero, List.set_cons_succ, sel_of d2, sel_no g4, sel_no g5, sel_no g6, sel_no g7, sel_no g8, sel_no g9, sel_no hl] at ha
      subst ha
      have G4 := Lib.hid g4
      clear g4
      have G5 := Lib.hid g5
      clear g5
      have G6 := Lib.hid g6
      clear g6
      have G7 := Lib.hid g7
      clear g7
      have G8 := Lib.hid g8
      clear g8
      have G9 := Lib.hid g9
      clear g9
      have q2 := h2 d2
      have Q2 := Lib.hid q2
      clear q2
      have H1 := Lib.hid h1
      clear h1
      have H2 := Lib.hid h2
      clear h2
      have H3 := Lib.hid h3
      clear h3
      have H4 := Lib.hid h4
      clear h4
      rw [if_pos (by rfl)]
      obtain ⟨a13', c13', w1, hrun, hba, hca, hO1⟩ := app_zeros63 Q2.out
      refine Go.Lib.wp_append_run _ _ _ _ _ rfl _ _ rfl rfl _ _ hrun ?_
      refine Shut.out hK _ _ ⟨b5, b3, a13', c13', vd, ?_, (hO.trans hO1 (fun _ _ c => c)), (fun h => Off.heap hO1 (H1.out (show l 1 = true by rwa [upd_ne l (by decide)] at h)) (fun c => c)), (fun h => Off.heap hO1 (H2.out (show l 2 = true by rwa [upd_ne l (by decide)] at h)) (fun c => c)), (fun _ => ⟨hba, hca⟩), (fun h => absurd (show (true : Bool) = false from (show l 4 = true by rwa [upd_ne l (by decide)] at h).symm.trans G4.out) (by decide))⟩
      simp only [fill_eq, List.take_succ_cons, List.take_zero, List.cons_append, List.nil_append, Act.put, List.setIfInBounds_toArray, List.set_cons_zero, List.set_cons_succ, sel_new, sel_dep d2, sel_no (show upd l 3 4 = false by rw [upd_ne l (by decide)]; exact G4.out), sel_no (show upd l 3 5 = false by rw [upd_ne l (by decide)]; exact G5.out), sel_no (show upd l 3 6 = false by rw [upd_ne l (by decide)]; exact G6.out), sel_no (show upd l 3 7 = false by rw [upd_ne l (by decide)]; exact G7.out), sel_no (show upd l 3 8 = false by rw [upd_ne l (by decide)]; exact G8.out), sel_no (show upd l 3 9 = false by rw [upd_ne l (by decide)]; exact G9.out)]
      try rfl
  · as_aux_lemma =>
      rintro l a wr ⟨b5, b3, a13, c13, vd, ha, hO, h1, h2, h3, h4⟩ hc hl hd K' hK
      have d0 := hd 0 (by decide)
      have d1 := hd 1 (by decide)
      have d3 := hd 3 (by decide)
      have hx := X10.out; subst hx
      have g5 := hc.not (i := 5) hl 10 (by kernel_rfl)
      have g6 := hc.not (i := 6) hl 10 (by kernel_rfl)
      have g7 := hc.not (i := 7) hl 10 (by kernel_rfl)
      have g8 := hc.not (i := 8) hl 10 (by kernel_rfl)
      have g9 := hc.not (i := 9) hl 10 (by kernel_rfl)
      simp only [fill_eq, List.take_succ_cons, List.take_zero, List.cons_append, List.nil_append, Act.put, List.setIfInBounds_toArray, List.set_cons_zero, List.set_cons_succ, sel_of d0, sel_of d1, sel_of d3, sel_no g5, sel_no g6, sel_no g7, sel_no g8, sel_no g9, sel_no hl] at ha
      subst ha
      have G5 := Lib.hid g5
      clear g5
      have G6 := Lib.hid g6
      clear g6
      have G7 := Lib.hid g7
      clear g7
      have G8 := Lib.hid g8
      clear g8
      have G9 := Lib.hid g9
      clear g9
      have q1 := h1 d1
      have Q1 := Lib.hid q1
      clear q1
      have q2 := h2 (hc.up 10 3 2 d3 (by kernel_rfl))
      have Q2 := Lib.hid q2
      clear q2
      have q3 := h3 d3
      have Q3 := Lib.hid q3
      clear q3
      have H1 := Lib.hid h1
      clear h1
      have H2 := Lib.hid h2
      clear h2
      have H3 := Lib.hid h3
      clear h3
      have H4 := Lib.hid h4
      clear h4
      rw [if_pos (by rfl)]
      go_simp
      refine (FD.out wr hO b5 a13 c13 Q1.out Q3.out.1 Q3.out.2).mono ?_
      rintro e w1 ⟨vd', rfl, hP1, hO1⟩
      go_wp2_with fail
      refine Shut.out hK _ _ ⟨b5, b3, a13, c13, vd', ?_, (hO.trans hO1 (fun _ _ c => c)), (fun h => Off.heap hO1 (H1.out (show l 1 = true by rwa [upd_ne l (by decide)] at h)) (fun c => c)), (fun h => Off.heap hO1 (H2.out (show l 2 = true by rwa [upd_ne l (by decide)] at h)) (fun c => c)), (fun h => ⟨BsAt.off ((H3.out (show l 3 = true by rwa [upd_ne l (by decide)] at h))).1 hO1 (fun _ _ _ c => c), ((H3.out (show l 3 = true by rwa [upd_ne l (by decide)] at h))).2⟩), (fun _ => hP1)⟩
      simp only [fill_eq, List.take_succ_cons, List.take_zero, List.cons_append, List.nil_append, Act.put, List.setIfInBounds_toArray, List.set_cons_zero, List.set_cons_succ, sel_new, sel_dep d0, sel_dep d1, sel_dep d3, sel_no (show upd l 4 5 = false by rw [upd_ne l (by decide)]; exact G5.out), sel_no (show upd l 4 6 = false by rw [upd_ne l (by decide)]; exact G6.out), sel_no (show upd l 4 7 = false by rw [upd_ne l (by decide)]; exact G7.out), sel_no (show upd l 4 8 = false by rw [upd_ne l (by decide)]; exact G8.out), sel_no (show upd l 4 9 = false by rw [upd_ne l (by decide)]; exact G9.out)]
      try rfl
  · as_aux_lemma =>
      rintro l a wr ⟨b5, b3, a13, c13, vd, ha, hO, h1, h2, h3, h4⟩ hc hl hd K' hK
      have d4 := hd 4 (by decide)
      simp only [fill_eq, List.take_succ_cons, List.take_zero, List.cons_append, List.nil_append, Act.put, List.setIfInBounds_toArray, List.set_cons_zero, List.set_cons_succ, sel_of d4] at ha
      subst ha
      have q1 := h1 (hc.up 10 4 1 d4 (by kernel_rfl))
      have Q1 := Lib.hid q1
      clear q1
      have q2 := h2 (hc.up 10 4 2 d4 (by kernel_rfl))
      have Q2 := Lib.hid q2
      clear q2
      have q3 := h3 (hc.up 10 4 3 d4 (by kernel_rfl))
      have Q3 := Lib.hid q3
      clear q3
      have q4 := h4 d4
      have Q4 := Lib.hid q4
      clear q4
      have H1 := Lib.hid h1
      clear h1
      have H2 := Lib.hid h2
      clear h2
      have H3 := Lib.hid h3
      clear h3
      have H4 := Lib.hid h4
      clear h4
      rw [if_pos (by rfl)]
      go_simp
      refine Shut.out hK _ _ ⟨b5, b3, a13, c13, vd, ?_, hO, (fun h => Off.heap (Off.refl (fun _ => False) wr) (H1.out (show l 1 = true by rwa [upd_ne l (by decide)] at h)) (fun c => c)), (fun h => Off.heap (Off.refl (fun _ => False) wr) (H2.out (show l 2 = true by rwa [upd_ne l (by decide)] at h)) (fun c => c)), (fun h => ⟨BsAt.off ((H3.out (show l 3 = true by rwa [upd_ne l (by decide)] at h))).1 (Off.refl (fun _ => False) wr) (fun _ _ _ c => c), ((H3.out (show l 3 = true by rwa [upd_ne l (by decide)] at h))).2⟩), (fun h => ShsAt.off (H4.out (show l 4 = true by rwa [upd_ne l (by decide)] at h)) (Off.refl (fun _ => False) wr) (fun _ _ _ c => c))⟩
      simp only [fill_eq, List.take_succ_cons, List.take_zero, List.cons_append, List.nil_append, Act.put, List.setIfInBounds_toArray, List.set_cons_zero, List.set_cons_succ, sel_new, sel_dep d4]
      try rfl
  · as_aux_lemma =>
      rintro l a wr ⟨b5, b3, a13, c13, vd, ha, hO, h1, h2, h3, h4⟩ hc hl hd K' hK
      have d5 := hd 5 (by decide)
      simp only [fill_eq, List.take_succ_cons, List.take_zero, List.cons_append, List.nil_append, Act.put, List.setIfInBounds_toArray, List.set_cons_zero, List.set_cons_succ, sel_of d5] at ha
      subst ha
      have q1 := h1 (hc.up 10 5 1 d5 (by kernel_rfl))
      have Q1 := Lib.hid q1
      clear q1
      have q2 := h2 (hc.up 10 5 2 d5 (by kernel_rfl))
      have Q2 := Lib.hid q2
      clear q2
      have q3 := h3 (hc.up 10 5 3 d5 (by kernel_rfl))
      have Q3 := Lib.hid q3
      clear q3
      have q4 := h4 (hc.up 10 5 4 d5 (by kernel_rfl))
      have Q4 := Lib.hid q4
      clear q4
      have H1 := Lib.hid h1
      clear h1
      have H2 := Lib.hid h2
      clear h2
      have H3 := Lib.hid h3
      clear h3
      have H4 := Lib.hid h4
      clear h4
      rw [if_pos (by rfl)]
      go_simp
      refine Shut.out hK _ _ ⟨b5, b3, a13, c13, vd, ?_, hO, (fun h => Off.heap (Off.refl (fun _ => False) wr) (H1.out (show l 1 = true by rwa [upd_ne l (by decide)] at h)) (fun c => c)), (fun h => Off.heap (Off.refl (fun _ => False) wr) (H2.out (show l 2 = true by rwa [upd_ne l (by decide)] at h)) (fun c => c)), (fun h => ⟨BsAt.off ((H3.out (show l 3 = true by rwa [upd_ne l (by decide)] at h))).1 (Off.refl (fun _ => False) wr) (fun _ _ _ c => c), ((H3.out (show l 3 = true by rwa [upd_ne l (by decide)] at h))).2⟩), (fun h => ShsAt.off (H4.out (show l 4 = true by rwa [upd_ne l (by decide)] at h)) (Off.refl (fun _ => False) wr) (fun _ _ _ c => c))⟩
      simp only [fill_eq, List.take_succ_cons, List.take_zero, List.cons_append, List.nil_append, Act.put, List.setIfInBounds_toArray, List.set_cons_zero, List.set_cons_succ, sel_new, sel_dep d5]
      try rfl
  · as_aux_lemma =>
      rintro l a wr ⟨b5, b3, a13, c13, vd, ha, hO, h1, h2, h3, h4⟩ hc hl hd K' hK
      have d5 := hd 5 (by decide)
      have hx := X16.out; subst hx
      simp only [fill_eq, List.take_succ_cons, List.take_zero, List.cons_append, List.nil_append, Act.put, List.setIfInBounds_toArray, List.set_cons_zero, List.set_cons_succ, sel_of d5] at ha
      subst ha
      have q1 := h1 (hc.up 10 5 1 d5 (by kernel_rfl))
      have Q1 := Lib.hid q1
      clear q1
      have q2 := h2 (hc.up 10 5 2 d5 (by kernel_rfl))
      have Q2 := Lib.hid q2
      clear q2
      have q3 := h3 (hc.up 10 5 3 d5 (by kernel_rfl))
      have Q3 := Lib.hid q3
      clear q3
      have q4 := h4 (hc.up 10 5 4 d5 (by kernel_rfl))
      have Q4 := Lib.hid q4
      clear q4
      have H1 := Lib.hid h1
      clear h1
      have H2 := Lib.hid h2
      clear h2
      have H3 := Lib.hid h3
      clear h3
      have H4 := Lib.hid h4
      clear h4
      rw [if_pos (by rfl)]
      go_simp
      refine Shut.out hK _ _ ⟨b5, b3, a13, c13, vd, ?_, hO, (fun h => Off.heap (Off.refl (fun _ => False) wr) (H1.out (show l 1 = true by rwa [upd_ne l (by decide)] at h)) (fun c => c)), (fun h => Off.heap (Off.refl (fun _ => False) wr) (H2.out (show l 2 = true by rwa [upd_ne l (by decide)] at h)) (fun c => c)), (fun h => ⟨BsAt.off ((H3.out (show l 3 = true by rwa [upd_ne l (by decide)] at h))).1 (Off.refl (fun _ => False) wr) (fun _ _ _ c => c), ((H3.out (show l 3 = true by rwa [upd_ne l (by decide)] at h))).2⟩), (fun h => ShsAt.off (H4.out (show l 4 = true by rwa [upd_ne l (by decide)] at h)) (Off.refl (fun _ => False) wr) (fun _ _ _ c => c))⟩
      simp only [fill_eq, List.take_succ_cons, List.take_zero, List.cons_append, List.nil_append, Act.put, List.setIfInBounds_toArray, List.set_cons_zero, List.set_cons_succ, sel_new, sel_dep d5]
      try rfl
  · as_aux_lemma =>
      rintro l a wr ⟨b5, b3, a13, c13, vd, ha, hO, h1, h2, h3, h4⟩ hc hl hd K' hK
      have d6 := hd 6 (by decide)
      simp only [fill_eq, List.take_succ_cons, List.take_zero, List.cons_append, List.nil_append, Act.put, List.setIfInBounds_toArray, List.set_cons_zero, List.set_cons_succ, sel_of d6] at ha
      subst ha
      have q1 := h1 (hc.up 10 6 1 d6 (by kernel_rfl))
      have Q1 := Lib.hid q1
      clear q1
      have q2 := h2 (hc.up 10 6 2 d6 (by kernel_rfl))
      have Q2 := Lib.hid q2
      clear q2
      have q3 := h3 (hc.up 10 6 3 d6 (by kernel_rfl))
      have Q3 := Lib.hid q3
      clear q3
      have q4 := h4 (hc.up 10 6 4 d6 (by kernel_rfl))
      have Q4 := Lib.hid q4
      clear q4
      have H1 := Lib.hid h1
      clear h1
      have H2 := Lib.hid h2
      clear h2
      have H3 := Lib.hid h3
      clear h3
      have H4 := Lib.hid h4
      clear h4
      rw [if_pos (by rfl)]
      go_simp
      refine Shut.out hK _ _ ⟨b5, b3, a13, c13, vd, ?_, hO, (fun h => Off.heap (Off.refl (fun _ => False) wr) (H1.out (show l 1 = true by rwa [upd_ne l (by decide)] at h)) (fun c => c)), (fun h => Off.heap (Off.refl (fun _ => False) wr) (H2.out (show l 2 = true by rwa [upd_ne l (by decide)] at h)) (fun c => c)), (fun h => ⟨BsAt.off ((H3.out (show l 3 = true by rwa [upd_ne l (by decide)] at h))).1 (Off.refl (fun _ => False) wr) (fun _ _ _ c => c), ((H3.out (show l 3 = true by rwa [upd_ne l (by decide)] at h))).2⟩), (fun h => ShsAt.off (H4.out (show l 4 = true by rwa [upd_ne l (by decide)] at h)) (Off.refl (fun _ => False) wr) (fun _ _ _ c => c))⟩
      simp only [fill_eq, List.take_succ_cons, List.take_zero, List.cons_append, List.nil_append, Act.put, List.setIfInBounds_toArray, List.set_cons_zero, List.set_cons_succ, sel_new, sel_dep d6]
      try rfl
  · as_aux_lemma =>
      rintro l a wr ⟨b5, b3, a13, c13, vd, ha, hO, h1, h2, h3, h4⟩ hc hl hd K' hK
      have d7 := hd 7 (by decide)
      have hx := X16.out; subst hx
      have hx := X3.out; subst hx
      simp only [fill_eq, List.take_succ_cons, List.take_zero, List.cons_append, List.nil_append, Act.put, List.setIfInBounds_toArray, List.set_cons_zero, List.set_cons_succ, sel_of d7] at ha
      subst ha
      have q1 := h1 (hc.up 10 7 1 d7 (by kernel_rfl))
      have Q1 := Lib.hid q1
      clear q1
      have q2 := h2 (hc.up 10 7 2 d7 (by kernel_rfl))
      have Q2 := Lib.hid q2
      clear q2
      have q3 := h3 (hc.up 10 7 3 d7 (by kernel_rfl))
      have Q3 := Lib.hid q3
      clear q3
      have q4 := h4 (hc.up 10 7 4 d7 (by kernel_rfl))
      have Q4 := Lib.hid q4
      clear q4
      have H1 := Lib.hid h1
      clear h1
      have H2 := Lib.hid h2
      clear h2
      have H3 := Lib.hid h3
      clear h3
      have H4 := Lib.hid h4
      clear h4
      rw [if_pos (by rfl)]
      go_simp
      refine Shut.out hK _ _ ⟨b5, b3, a13, c13, vd, ?_, hO, (fun h => Off.heap (Off.refl (fun _ => False) wr) (H1.out (show l 1 = true by rwa [upd_ne l (by decide)] at h)) (fun c => c)), (fun h => Off.heap (Off.refl (fun _ => False) wr) (H2.out (show l 2 = true by rwa [upd_ne l (by decide)] at h)) (fun c => c)), (fun h => ⟨BsAt.off ((H3.out (show l 3 = true by rwa [upd_ne l (by decide)] at h))).1 (Off.refl (fun _ => False) wr) (fun _ _ _ c => c), ((H3.out (show l 3 = true by rwa [upd_ne l (by decide)] at h))).2⟩), (fun h => ShsAt.off (H4.out (show l 4 = true by rwa [upd_ne l (by decide)] at h)) (Off.refl (fun _ => False) wr) (fun _ _ _ c => c))⟩
      simp only [fill_eq, List.take_succ_cons, List.take_zero, List.cons_append, List.nil_append, Act.put, List.setIfInBounds_toArray, List.set_cons_zero, List.set_cons_succ, sel_new, sel_dep d7]
      try rfl
  · rintro l a wc ⟨b5, b3, a13, c13, vd, ha, hO, h1, h2, h3, h4⟩ hd
    simp only [fill_eq, List.take_succ_cons, List.take_zero, List.cons_append, List.nil_append, Act.put, List.setIfInBounds_toArray, List.set_cons_zero, List.set_cons_succ, sel_of (hd 0 (by decide)), sel_of (hd 1 (by decide)), sel_of (hd 2 (by decide)), sel_of (hd 3 (by decide)), sel_of (hd 4 (by decide)), sel_of (hd 5 (by decide)), sel_of (hd 6 (by decide)), sel_of (hd 7 (by decide)), sel_of (hd 8 (by decide)), sel_of (hd 9 (by decide))] at ha
    subst ha
    have hx := X3.out; subst hx
    have q1 := h1 (hd 1 (by decide))
    have q2 := h2 (hd 2 (by decide))
    have q3 := h3 (hd 3 (by decide))
    have q4 := h4 (hd 4 (by decide))
    clear h1 h2 h3 h4
    have HO1 := Lib.hid (HO0.out.trans hO (fun _ _ c => c))
    have HTc := Lib.hid (HT0.out.off hO)
    have HS := Lib.hid q4
    have hg := hO.heap HG.out (fun c => c)
    have p0 := cell_of_heap hg 0
    have p1 := cell_of_heap hg 1
    have p2 := cell_of_heap hg 2
    have p3 := cell_of_heap hg 3
    have hlq := heap_lt hg
    clear q1 q2 q3 q4 X3 hd hO HT0 HG FD HO0 hg
    have FP := Lib.hid (fun W (hO : Off (fun _ => False) wc W) =>
      (show Calls Tryd.prog 11 #[.agg #[.int .i64 1, .int .i64 2, .int .i64 2, .int .i64 1], .slice none 0 0, .slice none 0 0] W fun e w' => ∃ v, e = .returned (.tuple #[v, .int .i64 8]) ∧ Off (fun _ => False) W w' from
        (pols_deal q2 ⟨rfl, rfl, rfl, rfl⟩ none none 0 0 0 0 [] [] (fun _ => False) W (fun k hk => hk.elim) rfl rfl (Nat.le_refl _) (Nat.le_refl _) (fun _ h => by cases h) (fun _ h => by cases h) (by decide) (by decide) (BsAt.nil _ _ _) (BsAt.nil _ _ _) (HTc.out.off hO)).mono (fun e w' ⟨v, he, _, hO'⟩ => ⟨v, by rw [he, pol2.2]; rfl, hO'⟩)))
    have FE := Lib.hid (fun W (hO : Off (fun _ => False) wc W) =>
      (show Calls Tryd.prog 21 #[.pointer none, .agg #[.int .i64 1, .int .i64 1, .int .i64 1, .int .i64 0], .slice none 0 0] W fun e w' => ∃ a c, e = .returned (.tuple #[.slice a 1 c, .int .i64 0]) ∧ Off (fun _ => False) W w' from
        (eval_nil ⟨1, 1, 1, 0⟩ ⟨rfl, rfl, rfl, rfl⟩ [] [] (fun _ => rfl) (.slice none 0 0) W (LLs.nil W) (fun _ => by decide +kernel) (HTc.out.off hO)).mono (fun e w' ⟨v, he, _, h2, hO'⟩ => by
          obtain ⟨a, c, hv, _⟩ := h2 eva1
          exact ⟨a, c, by rw [he, eva1, hv]; rfl, hO'⟩)))
    go_wp2_with fail
    refine (FP.out _ (Off.refl _ wc)).mono ?_
    rintro e w1 ⟨vp, rfl, hO1⟩
    have H1 := Lib.hid hO1
    clear hO1 p0 p1 p2 p3 hlq FP
    go_wp2_with fail
    refine (FE.out _ H1.out).mono ?_
    rintro e w2 ⟨ae, ce, rfl, hO2⟩
    have H2 := Lib.hid (H1.out.trans hO2 (fun _ _ c => c))
    clear hO2 H1 FE
    obtain ⟨W1, hW1⟩ : ∃ x, x = w2 := ⟨_, rfl⟩
    rw [← hW1]
    have HSW := Lib.hid (show ShsAt W1 vd shs2 (fun _ => True) from hW1 ▸ ShsAt.off HS.out H2.out (fun _ _ _ c => c))
    obtain ⟨ad, cd, hvd, _, _, _, hx⟩ := HSW.out
    have hv : vd = .slice ad 2 cd := hvd
    subst hv
    obtain ⟨b, off, had, _, hsh⟩ := hx (by rw [shs2_len]; decide)
    subst had
    obtain ⟨_, _, _, _, pa, pc, c4, _, hvs⟩ := hsh 1 _ shs2_at
    rw [shs2_pl] at c4 hvs
    obtain ⟨b2, off2, hpa, _, hE⟩ := hvs.get (j := 0) rfl
    subst hpa
    obtain ⟨e0, e1, e2, e3⟩ := hE
    have f1 := fun W => eqel_same 418 W
    rw [show wd 418 0 = 418 by decide] at e0
    rw [show wd 418 1 = 0 by decide] at e1
    rw [show wd 418 2 = 0 by decide] at e2
    rw [show wd 418 3 = 0 by decide] at e3
    simp only [show wd 418 0 = 418 by decide, show wd 418 1 = 0 by decide, show wd 418 2 = 0 by decide, show wd 418 3 = 0 by decide] at f1
    simp only [show ((418 : Nat) : Int) = 418 from rfl, show ((0 : Nat) : Int) = 0 from rfl] at e0 e1 e2 e3 f1
    have HO2 := Lib.hid (HO1.out.trans H2.out (fun _ _ c => c))
    rw [← hW1] at HO2
    clear hvd hx hsh hvs HS H2 HO1 HTc hW1 HSW
    simp only [Nat.one_mul, List.length_cons, List.length_nil, Nat.zero_mul, Nat.add_zero, Nat.zero_add] at c4 e0 e1 e2 e3
    go_wp2_with fail
    go_ret
    exact ⟨rfl, HO2.out⟩
end Go.Proofs.YtclehgconbdkpaaDoor
