/-
  The examples of layer 12's chapter hold: the statements' own alive over this seat's translation. Conditions: the tables lie in memory as they were laid.
-/
import Derived.Test.YthjfhgnmaepafaaDoorShaEq
import Derived.Deep.RegionWith
namespace Go.Proofs.YthjfhgnmaepafaaDoor
open Go.RowKit
set_option maxRecDepth 100000
set_option maxHeartbeats 4000000
set_option linter.unusedSimpArgs false
theorem pre_nil : Lib.hasPrefix (Lib.bytesOf ((shaN []).map (fun x : Nat => (x : Int)))) (Lib.bytesOf ([227, 176, 196, 66].map (fun x : Nat => (x : Int)))) = true := by decide +kernel
theorem pre_abc : Lib.hasPrefix (Lib.bytesOf ((shaN [97, 98, 99]).map (fun x : Nat => (x : Int)))) (Lib.bytesOf ([186, 120, 22, 191].map (fun x : Nat => (x : Int)))) = true := by decide +kernel
/-- A conversion of bytes to bytes marks the block behind its end. -/
theorem convert_by (w : World) (C : Array Value) (n c : Nat) : (convert 22 22 (.slice (some ⟨w.heap.size, 0, none⟩) n c)).run Tryd.prog (w.alloc (.cells C 5)) = .ok (.slice (some ⟨w.heap.size, 0, none⟩) n c) (w.alloc (.cells C 5 (C.size, C.size + 1))) := by
  have hsh : (w.alloc (.cells C 5)).shape? w.heap.size = some (5, C.size) := by
    have : (w.alloc (.cells C 5)).heap[w.heap.size]? = some (.cells C 5) := heap_new' rfl _
    unfold World.shape?
    rw [this]
  have hfr : (w.alloc (.cells C 5)).freeze ⟨w.heap.size, C.size, none⟩ 1 = w.alloc (.cells C 5 (C.size, C.size + 1)) := by
    have hm : ∀ (a : Array Obj) (x : Obj) (f : Obj → Obj), (a.push x).modify a.size f = a.push (f x) := by
      intro a x f
      apply Array.ext
      · simp
      · intro i h1 h2
        simp only [Array.getElem_modify, Array.getElem_push]
        by_cases h : a.size = i
        · subst h
          simp
        · have hi : i < a.size := by simp at h1; omega
          simp [h, hi]
    unfold World.freeze
    rw [if_neg (by decide)]
    show ({ w.alloc (.cells C 5) with heap := (w.heap.push (.cells C 5)).modify w.heap.size _ } : World) = _
    rw [hm]
    rfl
  simp [convert, run_underlying Tryd.underlying22, run_underlying Tryd.underlying5, markStringish, hsh]
  exact hfr
/-- Two new blocks, stored whole. -/
theorem two_rows {w : World} {Z A B : Array Value} {T : TypeId} : ((((w.alloc (.cells Z T)).alloc (.cells Z T)).setRow w.heap.size A).setRow (w.heap.size + 1) B).heap[w.heap.size]? = some (.cells A T (0, 0)) ∧ ((((w.alloc (.cells Z T)).alloc (.cells Z T)).setRow w.heap.size A).setRow (w.heap.size + 1) B).heap[w.heap.size + 1]? = some (.cells B T (0, 0)) ∧ Off (fun _ => False) w ((((w.alloc (.cells Z T)).alloc (.cells Z T)).setRow w.heap.size A).setRow (w.heap.size + 1) B) := by
  have h0 : ((w.alloc (.cells Z T)).alloc (.cells Z T)).heap[w.heap.size]? = some (.cells Z T (0, 0)) := heap_old' (heap_new' rfl _) _
  have h1 : ((w.alloc (.cells Z T)).alloc (.cells Z T)).heap[w.heap.size + 1]? = some (.cells Z T (0, 0)) := heap_new' (World.size_alloc _ _) _
  have a0 := setRow_heap _ w.heap.size _ A T (0, 0) h0
  have a1 := (setRow_other ((w.alloc (.cells Z T)).alloc (.cells Z T)) w.heap.size (w.heap.size + 1) A (by omega)).trans h1
  have b1 := setRow_heap _ (w.heap.size + 1) _ B T (0, 0) a1
  have b0 := (setRow_other _ (w.heap.size + 1) w.heap.size B (by omega)).trans a0
  refine ⟨b0, b1, ?_⟩
  have g0 : ((w.alloc (.cells Z T)).alloc (.cells Z T)).grownBy (((w.alloc (.cells Z T)).alloc (.cells Z T)).setRow w.heap.size A) (some w.heap.size) := ⟨rfl, rfl, rfl, by simp, fun k _ hk => setRow_other _ w.heap.size k _ (fun e => hk (by simp [e]))⟩
  have g1 : (((w.alloc (.cells Z T)).alloc (.cells Z T)).setRow w.heap.size A).grownBy ((((w.alloc (.cells Z T)).alloc (.cells Z T)).setRow w.heap.size A).setRow (w.heap.size + 1) B) (some (w.heap.size + 1)) := ⟨rfl, rfl, rfl, by simp, fun k _ hk => setRow_other _ (w.heap.size + 1) k _ (fun e => hk (by simp [e]))⟩
  have o0 := (((Off.refl (fun _ => False) w).alloc (.cells Z T)).alloc (.cells Z T)).grown g0 (fun j ej => by
    cases ej
    refine ⟨fun h => absurd h (Nat.lt_irrefl _), fun o ho => ?_⟩
    rw [h0] at ho; cases ho; rfl)
  exact o0.grown g1 (fun j ej => by
    cases ej
    refine ⟨fun h => absurd h (by omega), fun o ho => ?_⟩
    rw [a1] at ho; cases ho; rfl)
theorem shaN_length (bs : List Nat) : (shaN bs).length = 32 := rfl
theorem alive_any (w : World) (hT : TabAt w) : Calls Tryd.prog 9 #[] w fun e w' => e = .returned (.bool true) ∧ Off (fun _ => False) w w' := by
  obtain ⟨A, hA⟩ : ∃ A, A = ((shaN []).map u8v).toArray := ⟨_, rfl⟩
  obtain ⟨B, hB⟩ : ∃ B, B = ((shaN [97, 98, 99]).map u8v).toArray := ⟨_, rfl⟩
  have F1 := Lib.hid (fun W (hT : TabAt W) => sum_any none 0 0 [] (fun _ => True) W (BsAt.nil W _ _) rfl (Nat.le_refl _) (fun x h => by cases h) (by decide) hT)
  have F2 := Lib.hid (fun W a cap (hT : TabAt W) (hb : BsAt W a [97, 98, 99] (fun _ => True)) (hc : 3 ≤ cap) => sum_any a 3 cap [97, 98, 99] (fun _ => True) W hb rfl hc (fun x h => by simp at h; omega) (by decide) hT)
  rw [← hA] at F1
  rw [← hB] at F2
  have hi32 : (Tryd.prog.info? 25).map (·.size) = some 32 := by kernel_rfl
  have hAz : A.size = 32 := by rw [hA]; rfl
  have hBz : B.size = 32 := by rw [hB]; rfl
  have HAI := Lib.hid (show (Tryd.prog.info? 25).map (·.size) = some A.size by rw [hAz]; exact hi32)
  have HBI := Lib.hid (show (Tryd.prog.info? 25).map (·.size) = some B.size by rw [hBz]; exact hi32)
  have HAO := Lib.hid (show A.all (·.oneCell') = true by rw [hA]; simp [Value.oneCell'])
  have HBO := Lib.hid (show B.all (·.oneCell') = true by rw [hB]; simp [Value.oneCell'])
  have HZA := Lib.hid (show Array.size (#[.int .u8 0, .int .u8 0, .int .u8 0, .int .u8 0, .int .u8 0, .int .u8 0, .int .u8 0, .int .u8 0, .int .u8 0, .int .u8 0, .int .u8 0, .int .u8 0, .int .u8 0, .int .u8 0, .int .u8 0, .int .u8 0, .int .u8 0, .int .u8 0, .int .u8 0, .int .u8 0, .int .u8 0, .int .u8 0, .int .u8 0, .int .u8 0, .int .u8 0, .int .u8 0, .int .u8 0, .int .u8 0, .int .u8 0, .int .u8 0, .int .u8 0, .int .u8 0] : Array Value) = A.size by rw [hAz]; rfl)
  have HZB := Lib.hid (show Array.size (#[.int .u8 0, .int .u8 0, .int .u8 0, .int .u8 0, .int .u8 0, .int .u8 0, .int .u8 0, .int .u8 0, .int .u8 0, .int .u8 0, .int .u8 0, .int .u8 0, .int .u8 0, .int .u8 0, .int .u8 0, .int .u8 0, .int .u8 0, .int .u8 0, .int .u8 0, .int .u8 0, .int .u8 0, .int .u8 0, .int .u8 0, .int .u8 0, .int .u8 0, .int .u8 0, .int .u8 0, .int .u8 0, .int .u8 0, .int .u8 0, .int .u8 0, .int .u8 0] : Array Value) = B.size by rw [hBz]; rfl)
  have HA := Lib.hid hA
  have HB := Lib.hid hB
  have HT := Lib.hid hT
  have hcv := convert_by
  clear hA hB hi32 hAz hBz hT
  go_enter Tryd.func9, Tryd.ntmps9
  go_wp2_with fail
  refine (F1.out w HT.out).mono ?_
  rintro e u1 ⟨rfl, hO1⟩
  have HO1 := Lib.hid hO1
  have HT1 := Lib.hid (HT.out.off hO1)
  clear hO1
  go_wp2_with fail
  refine (F2.out _ _ _ (HT1.out.off ((Off.refl _ u1).alloc _)) (fun _ => ⟨_, 0, rfl, trivial, fun j x hj => by rw [Nat.zero_add, cell_of_heap (heap_new' rfl _), List.getElem?_toArray]; match j, hj with | 0, hj | 1, hj | 2, hj => (simp at hj; subst hj; rfl) | k + 3, hj => simp at hj⟩) (Nat.le_refl _)).mono ?_
  rintro e u2 ⟨rfl, hO2⟩
  have HO2 := Lib.hid (HO1.out.trans (((Off.refl (fun _ => False) u1).alloc _).trans hO2 (fun _ _ c => c)) (fun _ _ c => c))
  clear hO2 HO1
  go_upto_region 2 with first | (refine wpList_store_row rfl _ _ _ rfl _ A rfl rfl _ _ (heap_old' (heap_new' rfl _) _) HAI.out HZA.out HAO.out ?_) | (refine wpList_store_row rfl _ _ _ rfl _ B rfl rfl _ _ ((setRow_other _ _ _ _ (by omega)).trans (heap_new' (World.size_alloc _ _) _)) HBI.out HZB.out HBO.out ?_) | fail
  have h3 := @two_rows u2 #[.int .u8 0, .int .u8 0, .int .u8 0, .int .u8 0, .int .u8 0, .int .u8 0, .int .u8 0, .int .u8 0, .int .u8 0, .int .u8 0, .int .u8 0, .int .u8 0, .int .u8 0, .int .u8 0, .int .u8 0, .int .u8 0, .int .u8 0, .int .u8 0, .int .u8 0, .int .u8 0, .int .u8 0, .int .u8 0, .int .u8 0, .int .u8 0, .int .u8 0, .int .u8 0, .int .u8 0, .int .u8 0, .int .u8 0, .int .u8 0, .int .u8 0, .int .u8 0] A B 25
  obtain ⟨u3, hu3⟩ : ∃ u3, u3 = (((u2.alloc (.cells #[.int .u8 0, .int .u8 0, .int .u8 0, .int .u8 0, .int .u8 0, .int .u8 0, .int .u8 0, .int .u8 0, .int .u8 0, .int .u8 0, .int .u8 0, .int .u8 0, .int .u8 0, .int .u8 0, .int .u8 0, .int .u8 0, .int .u8 0, .int .u8 0, .int .u8 0, .int .u8 0, .int .u8 0, .int .u8 0, .int .u8 0, .int .u8 0, .int .u8 0, .int .u8 0, .int .u8 0, .int .u8 0, .int .u8 0, .int .u8 0, .int .u8 0, .int .u8 0] 25)).alloc (.cells #[.int .u8 0, .int .u8 0, .int .u8 0, .int .u8 0, .int .u8 0, .int .u8 0, .int .u8 0, .int .u8 0, .int .u8 0, .int .u8 0, .int .u8 0, .int .u8 0, .int .u8 0, .int .u8 0, .int .u8 0, .int .u8 0, .int .u8 0, .int .u8 0, .int .u8 0, .int .u8 0, .int .u8 0, .int .u8 0, .int .u8 0, .int .u8 0, .int .u8 0, .int .u8 0, .int .u8 0, .int .u8 0, .int .u8 0, .int .u8 0, .int .u8 0, .int .u8 0] 25)).setRow u2.heap.size A).setRow (u2.heap.size + 1) B := ⟨_, rfl⟩
  rw [← hu3] at h3 ⊢
  have hO3 := HO2.out.trans h3.2.2 (fun _ _ c => c)
  have hT3 := HT.out.off hO3
  have HNW := Lib.hid (new_any u3 hT3)
  have HH3 := Lib.hid h3
  have HO3 := Lib.hid hO3
  have HT3 := Lib.hid hT3
  clear h3 hu3 hO3 hT3 HO2 HT1 F1 F2 HZA HZB hcv
  obtain ⟨ga, hga⟩ : ∃ g, g = u2.heap.size := ⟨_, rfl⟩
  rw [← hga] at HH3 ⊢
  clear hga
  go_upto_region 3 with first | (go_at_call 14; refine (HNW.out).mono ?_; rintro e u4 ⟨p, rfl, hh, ho, -⟩) | fail
  have HS4 := Lib.hid (fun W (h : Off (fun _ => False) u4 W) => hsum_any p [] W (hh.off h (fun c => c)) (by decide) (HT3.out.off (ho.trans h (fun _ _ c => c))))
  rw [← HA.out] at HS4
  have HA4 := Lib.hid (ho.heap HH3.out.1 (fun c => c))
  have HB4 := Lib.hid (ho.heap HH3.out.2.1 (fun c => c))
  have HO4 := Lib.hid (HO3.out.trans ho (fun _ _ c => c))
  have HKA := Lib.hid (fun W (h : Off (fun _ => False) u4 W) => show BsAt W (some ⟨ga, 0, none⟩) (shaN []) (fun _ => True) from BsAt.of_blk (T := 25) (by unfold ByBlk; rw [← HA.out]; exact h.heap HA4.out (fun c => c)) trivial)
  have HKB := Lib.hid (fun W (h : Off (fun _ => False) u4 W) => show BsAt W (some ⟨ga + 1, 0, none⟩) (shaN [97, 98, 99]) (fun _ => True) from BsAt.of_blk (T := 25) (by unfold ByBlk; rw [← HB.out]; exact h.heap HB4.out (fun c => c)) trivial)
  have heq : ∀ W, (Op.equalIn 10000 25 (.agg A) (.agg A)).run Tryd.prog W = .ok true W := fun W => by
    rw [HA.out, equalIn_32 _ _ (shaN_length _) (shaN_length _)]; simp
  clear hh ho HNW HH3 HO3 HT3
  obtain ⟨Wd, hWd⟩ : ∃ Wd, Wd = u4.drew := ⟨_, rfl⟩
  obtain ⟨W1, hW1⟩ : ∃ W1, W1 = Wd.alloc (.cells #[.int .u8 227, .int .u8 176, .int .u8 196, .int .u8 66] 5) := ⟨_, rfl⟩
  obtain ⟨W2, hW2⟩ : ∃ W2, W2 = W1.alloc (.cells #[.int .u8 186, .int .u8 120, .int .u8 22, .int .u8 191] 5) := ⟨_, rfl⟩
  have hOd : Off (fun _ => False) u4 Wd := by rw [hWd]; exact (Off.refl _ u4).drew
  have hOd1 : Off (fun _ => False) u4 W1 := by rw [hW1]; exact hOd.alloc _
  have hOd2 : Off (fun _ => False) u4 W2 := by rw [hW2]; exact hOd1.alloc _
  have FP1 := Lib.hid (bprefix_eq (c := 32) (c' := 4) (HKA.out W1 hOd1) rfl (Nat.le_refl _) (BsAt.of_blk (b := Wd.heap.size) (T := 5) (xs := [227, 176, 196, 66]) (S := fun _ => True) (by rw [hW1]; exact heap_new' rfl _) trivial) rfl pre_nil)
  have FP2 := Lib.hid (bprefix_eq (c := 32) (c' := 4) (HKB.out W2 hOd2) rfl (Nat.le_refl _) (BsAt.of_blk (b := W1.heap.size) (T := 5) (xs := [186, 120, 22, 191]) (S := fun _ => True) (by rw [hW2]; exact heap_new' rfl _) trivial) rfl pre_abc)
  have HWd := Lib.hid hWd
  have HW1 := Lib.hid hW1
  have HW2 := Lib.hid hW2
  clear hWd hW1 hW2 hOd hOd1 hOd2 HKA HKB HB4
  obtain ⟨x9, hx⟩ : ∃ vv : Value, vv = .slice (some ⟨ga, 0, none⟩) 32 32 := ⟨_, rfl⟩
  have X9 := Lib.hid hx
  clear hx
  obtain ⟨x10, hx⟩ : ∃ vv : Value, vv = .slice (some ⟨Wd.heap.size, 0, none⟩) 4 4 := ⟨_, rfl⟩
  have X10 := Lib.hid hx
  clear hx
  obtain ⟨x11, hx⟩ : ∃ vv : Value, vv = .bool true := ⟨_, rfl⟩
  have X11 := Lib.hid hx
  clear hx
  obtain ⟨x12, hx⟩ : ∃ vv : Value, vv = .bool true := ⟨_, rfl⟩
  have X12 := Lib.hid hx
  clear hx
  obtain ⟨x13, hx⟩ : ∃ vv : Value, vv = .slice (some ⟨ga + 1, 0, none⟩) 32 32 := ⟨_, rfl⟩
  have X13 := Lib.hid hx
  clear hx
  obtain ⟨x14, hx⟩ : ∃ vv : Value, vv = .slice (some ⟨W1.heap.size, 0, none⟩) 4 4 := ⟨_, rfl⟩
  have X14 := Lib.hid hx
  clear hx
  obtain ⟨x15, hx⟩ : ∃ vv : Value, vv = .bool true := ⟨_, rfl⟩
  have X15 := Lib.hid hx
  clear hx
  obtain ⟨x16, hx⟩ : ∃ vv : Value, vv = .bool true := ⟨_, rfl⟩
  have X16 := Lib.hid hx
  clear hx
  obtain ⟨x17, hx⟩ : ∃ vv : Value, vv = .bool true := ⟨_, rfl⟩
  have X17 := Lib.hid hx
  clear hx
  obtain ⟨x18, hx⟩ : ∃ vv : Value, vv = .pointer (some ⟨p, 0, none⟩) := ⟨_, rfl⟩
  have X18 := Lib.hid hx
  clear hx
  obtain ⟨x19, hx⟩ : ∃ vv : Value, vv = .bool true := ⟨_, rfl⟩
  have X19 := Lib.hid hx
  clear hx
  obtain ⟨x20, hx⟩ : ∃ vv : Value, vv = .bool true := ⟨_, rfl⟩
  have X20 := Lib.hid hx
  clear hx
  obtain ⟨x21, hx⟩ : ∃ vv : Value, vv = .bool true := ⟨_, rfl⟩
  have X21 := Lib.hid hx
  clear hx
  obtain ⟨x22, hx⟩ : ∃ vv : Value, vv = .pointer (some ⟨p, 0, none⟩) := ⟨_, rfl⟩
  have X22 := Lib.hid hx
  clear hx
  obtain ⟨x23, hx⟩ : ∃ vv : Value, vv = .agg A := ⟨_, rfl⟩
  have X23 := Lib.hid hx
  clear hx
  obtain ⟨x24, hx⟩ : ∃ vv : Value, vv = .agg A := ⟨_, rfl⟩
  have X24 := Lib.hid hx
  clear hx
  obtain ⟨x25, hx⟩ : ∃ vv : Value, vv = .bool true := ⟨_, rfl⟩
  have X25 := Lib.hid hx
  clear hx
  obtain ⟨x26, hx⟩ : ∃ vv : Value, vv = .bool true := ⟨_, rfl⟩
  have X26 := Lib.hid hx
  clear hx
  obtain ⟨x0, hx⟩ : ∃ vv : Value, vv = .bool true := ⟨_, rfl⟩
  have X0 := Lib.hid hx
  clear hx
  refine wp_region_clo (fun a0 l a' w' => a' = (Act.put (fill a0 9 [sel (l 0) x9 undef, sel (l 1) x10 undef, sel (l 2) x11 undef, sel (l 3) x12 undef, sel (l 4) x13 undef, sel (l 5) x14 undef, sel (l 6) x15 undef, sel (l 7) x16 undef, sel (l 8) x17 undef, sel (l 9) x18 undef, sel (l 10) x19 undef, sel (l 11) x20 undef, sel (l 12) x21 undef, sel (l 13) x22 undef, sel (l 14) x23 undef, sel (l 15) x24 undef, sel (l 16) x25 undef, sel (l 17) x26 undef]) (some 0) (sel (l 18) x0 (.bool false))) ∧ Off (fun _ => False) u4 w' ∧ (l 14 = false → w' = (selW (l 5) W2 (selW (l 1) W1 Wd)))) (by kernel_rfl) (by kernel_rfl) ?_ ⟨?_, ?_, ?_, ?_, ?_, ?_, ?_, ?_, ?_, ?_, ?_, ?_, ?_, ?_, ?_, ?_, ?_, ?_, ?_, trivial⟩ ?_
  · refine ⟨?_, (Off.refl _ u4).drew, fun _ => HWd.out.symm⟩
    simp only [fill_eq, List.take_succ_cons, List.take_zero, List.cons_append, List.nil_append, Act.put, List.setIfInBounds_toArray, List.set_cons_zero, List.set_cons_succ, sel_start]
    try rfl
  · as_aux_lemma =>
      rintro l a wr ⟨ha, hO, hE⟩ hc hl hd K' hK
      have hx := X9.out; subst hx
      simp only [fill_eq, List.take_succ_cons, List.take_zero, List.cons_append, List.nil_append, Act.put, List.setIfInBounds_toArray, List.set_cons_zero, List.set_cons_succ] at ha
      subst ha
      have hE0 := Lib.hid hE
      clear hE
      rw [if_pos (by rfl)]
      go_simp
      refine Shut.out hK _ _ ⟨?_, hO, hE0.out⟩
      · simp only [fill_eq, List.take_succ_cons, List.take_zero, List.cons_append, List.nil_append, Act.put, List.setIfInBounds_toArray, List.set_cons_zero, List.set_cons_succ, sel_new]
        try rfl
  · as_aux_lemma =>
      rintro l a wr ⟨ha, hO, hE⟩ hc hl hd K' hK
      have hx := X10.out; subst hx
      simp only [fill_eq, List.take_succ_cons, List.take_zero, List.cons_append, List.nil_append, Act.put, List.setIfInBounds_toArray, List.set_cons_zero, List.set_cons_succ] at ha
      subst ha
      have gf := hc.not (i := 14) hl 19 (by kernel_rfl)
      have hw := hE gf
      have g1 := hl
      have g5 := hc.not (i := 5) hl 19 (by kernel_rfl)
      rw [selW_no g5, selW_no g1] at hw
      obtain rfl : Wd = wr := hw.symm
      have hE0 := Lib.hid hE
      clear hE
      have hg1 := Lib.hid g1
      clear g1
      have hg5 := Lib.hid g5
      clear g5
      clear gf
      rw [if_pos (by rfl)]
      go_simp
      refine Shut.out hK _ _ ⟨?_, hO.alloc _, fun _ => ?_⟩
      · simp only [fill_eq, List.take_succ_cons, List.take_zero, List.cons_append, List.nil_append, Act.put, List.setIfInBounds_toArray, List.set_cons_zero, List.set_cons_succ, sel_new]
        try rfl
      · rw [selW_no (show upd l 1 5 = false from hg5.out), selW_of (upd_same l 1)]
        try exact HW1.out.symm
  · as_aux_lemma =>
      rintro l a wr ⟨ha, hO, hE⟩ hc hl hd K' hK
      have d0 := hd 0 (by decide)
      have d1 := hd 1 (by decide)
      have hx := X9.out; subst hx
      have hx := X10.out; subst hx
      have hx := X11.out; subst hx
      simp only [fill_eq, List.take_succ_cons, List.take_zero, List.cons_append, List.nil_append, Act.put, List.setIfInBounds_toArray, List.set_cons_zero, List.set_cons_succ, sel_of d0, sel_of d1] at ha
      subst ha
      have gf := hc.not (i := 14) hl 19 (by kernel_rfl)
      have hw := hE gf
      have g1 : l 1 = true := d1
      have g5 := hc.not (i := 5) hl 19 (by kernel_rfl)
      rw [selW_no g5, selW_of g1] at hw
      obtain rfl : W1 = wr := hw.symm
      have hE0 := Lib.hid hE
      clear hE
      have hg1 := Lib.hid g1
      clear g1
      have hg5 := Lib.hid g5
      clear g5
      clear gf
      rw [if_pos (by rfl)]
      go_simp
      refine (FP1.out).mono ?_
      rintro e w' ⟨rfl, rfl⟩
      go_wp2_with fail
      refine Shut.out hK _ _ ⟨?_, hO, hE0.out⟩
      · simp only [fill_eq, List.take_succ_cons, List.take_zero, List.cons_append, List.nil_append, Act.put, List.setIfInBounds_toArray, List.set_cons_zero, List.set_cons_succ, sel_new, sel_dep d0, sel_dep d1]
        try rfl
  · as_aux_lemma =>
      rintro l a wr ⟨ha, hO, hE⟩ hc hl hd K' hK
      have d2 := hd 2 (by decide)
      have hx := X11.out; subst hx
      have hx := X12.out; subst hx
      simp only [fill_eq, List.take_succ_cons, List.take_zero, List.cons_append, List.nil_append, Act.put, List.setIfInBounds_toArray, List.set_cons_zero, List.set_cons_succ, sel_of d2] at ha
      subst ha
      have hE0 := Lib.hid hE
      clear hE
      rw [if_pos (by rfl)]
      go_simp
      refine Shut.out hK _ _ ⟨?_, hO, hE0.out⟩
      · simp only [fill_eq, List.take_succ_cons, List.take_zero, List.cons_append, List.nil_append, Act.put, List.setIfInBounds_toArray, List.set_cons_zero, List.set_cons_succ, sel_new, sel_dep d2]
        try rfl
  · as_aux_lemma =>
      rintro l a wr ⟨ha, hO, hE⟩ hc hl hd K' hK
      have d3 := hd 3 (by decide)
      have hx := X12.out; subst hx
      have hx := X13.out; subst hx
      simp only [fill_eq, List.take_succ_cons, List.take_zero, List.cons_append, List.nil_append, Act.put, List.setIfInBounds_toArray, List.set_cons_zero, List.set_cons_succ, sel_of d3] at ha
      subst ha
      have hE0 := Lib.hid hE
      clear hE
      rw [if_pos (by rfl)]
      go_simp
      refine Shut.out hK _ _ ⟨?_, hO, hE0.out⟩
      · simp only [fill_eq, List.take_succ_cons, List.take_zero, List.cons_append, List.nil_append, Act.put, List.setIfInBounds_toArray, List.set_cons_zero, List.set_cons_succ, sel_new, sel_dep d3]
        try rfl
  · as_aux_lemma =>
      rintro l a wr ⟨ha, hO, hE⟩ hc hl hd K' hK
      have d3 := hd 3 (by decide)
      have hx := X12.out; subst hx
      have hx := X14.out; subst hx
      simp only [fill_eq, List.take_succ_cons, List.take_zero, List.cons_append, List.nil_append, Act.put, List.setIfInBounds_toArray, List.set_cons_zero, List.set_cons_succ, sel_of d3] at ha
      subst ha
      have gf := hc.not (i := 14) hl 19 (by kernel_rfl)
      have hw := hE gf
      have g1 : l 1 = true := hc.up 19 3 1 d3 (by kernel_rfl)
      have g5 := hl
      rw [selW_no g5, selW_of g1] at hw
      obtain rfl : W1 = wr := hw.symm
      have hE0 := Lib.hid hE
      clear hE
      have hg1 := Lib.hid g1
      clear g1
      have hg5 := Lib.hid g5
      clear g5
      clear gf
      rw [if_pos (by rfl)]
      go_simp
      refine Shut.out hK _ _ ⟨?_, hO.alloc _, fun _ => ?_⟩
      · simp only [fill_eq, List.take_succ_cons, List.take_zero, List.cons_append, List.nil_append, Act.put, List.setIfInBounds_toArray, List.set_cons_zero, List.set_cons_succ, sel_new, sel_dep d3]
        try rfl
      · rw [selW_of (upd_same l 5)]
        try exact HW2.out.symm
  · as_aux_lemma =>
      rintro l a wr ⟨ha, hO, hE⟩ hc hl hd K' hK
      have d3 := hd 3 (by decide)
      have d4 := hd 4 (by decide)
      have d5 := hd 5 (by decide)
      have hx := X12.out; subst hx
      have hx := X13.out; subst hx
      have hx := X14.out; subst hx
      have hx := X15.out; subst hx
      simp only [fill_eq, List.take_succ_cons, List.take_zero, List.cons_append, List.nil_append, Act.put, List.setIfInBounds_toArray, List.set_cons_zero, List.set_cons_succ, sel_of d3, sel_of d4, sel_of d5] at ha
      subst ha
      have gf := hc.not (i := 14) hl 19 (by kernel_rfl)
      have hw := hE gf
      have g1 : l 1 = true := hc.up 19 3 1 d3 (by kernel_rfl)
      have g5 : l 5 = true := d5
      rw [selW_of g5] at hw
      obtain rfl : W2 = wr := hw.symm
      have hE0 := Lib.hid hE
      clear hE
      have hg1 := Lib.hid g1
      clear g1
      have hg5 := Lib.hid g5
      clear g5
      clear gf
      rw [if_pos (by rfl)]
      go_simp
      refine (FP2.out).mono ?_
      rintro e w' ⟨rfl, rfl⟩
      go_wp2_with fail
      refine Shut.out hK _ _ ⟨?_, hO, hE0.out⟩
      · simp only [fill_eq, List.take_succ_cons, List.take_zero, List.cons_append, List.nil_append, Act.put, List.setIfInBounds_toArray, List.set_cons_zero, List.set_cons_succ, sel_new, sel_dep d3, sel_dep d4, sel_dep d5]
        try rfl
  · as_aux_lemma =>
      rintro l a wr ⟨ha, hO, hE⟩ hc hl hd K' hK
      have d3 := hd 3 (by decide)
      have d6 := hd 6 (by decide)
      have hx := X12.out; subst hx
      have hx := X15.out; subst hx
      have hx := X16.out; subst hx
      simp only [fill_eq, List.take_succ_cons, List.take_zero, List.cons_append, List.nil_append, Act.put, List.setIfInBounds_toArray, List.set_cons_zero, List.set_cons_succ, sel_of d3, sel_of d6] at ha
      subst ha
      have hE0 := Lib.hid hE
      clear hE
      rw [if_pos (by rfl)]
      go_simp
      refine Shut.out hK _ _ ⟨?_, hO, hE0.out⟩
      · simp only [fill_eq, List.take_succ_cons, List.take_zero, List.cons_append, List.nil_append, Act.put, List.setIfInBounds_toArray, List.set_cons_zero, List.set_cons_succ, sel_new, sel_dep d3, sel_dep d6]
        try rfl
  · as_aux_lemma =>
      rintro l a wr ⟨ha, hO, hE⟩ hc hl hd K' hK
      have d7 := hd 7 (by decide)
      have hx := X16.out; subst hx
      have hx := X17.out; subst hx
      simp only [fill_eq, List.take_succ_cons, List.take_zero, List.cons_append, List.nil_append, Act.put, List.setIfInBounds_toArray, List.set_cons_zero, List.set_cons_succ, sel_of d7] at ha
      subst ha
      have hE0 := Lib.hid hE
      clear hE
      rw [if_pos (by rfl)]
      go_simp
      refine Shut.out hK _ _ ⟨?_, hO, hE0.out⟩
      · simp only [fill_eq, List.take_succ_cons, List.take_zero, List.cons_append, List.nil_append, Act.put, List.setIfInBounds_toArray, List.set_cons_zero, List.set_cons_succ, sel_new, sel_dep d7]
        try rfl
  · as_aux_lemma =>
      rintro l a wr ⟨ha, hO, hE⟩ hc hl hd K' hK
      have d8 := hd 8 (by decide)
      have hx := X17.out; subst hx
      have hx := X18.out; subst hx
      simp only [fill_eq, List.take_succ_cons, List.take_zero, List.cons_append, List.nil_append, Act.put, List.setIfInBounds_toArray, List.set_cons_zero, List.set_cons_succ, sel_of d8] at ha
      subst ha
      have hE0 := Lib.hid hE
      clear hE
      rw [if_pos (by rfl)]
      go_simp
      refine Shut.out hK _ _ ⟨?_, hO, hE0.out⟩
      · simp only [fill_eq, List.take_succ_cons, List.take_zero, List.cons_append, List.nil_append, Act.put, List.setIfInBounds_toArray, List.set_cons_zero, List.set_cons_succ, sel_new, sel_dep d8]
        try rfl
  · as_aux_lemma =>
      rintro l a wr ⟨ha, hO, hE⟩ hc hl hd K' hK
      have d8 := hd 8 (by decide)
      have d9 := hd 9 (by decide)
      have hx := X17.out; subst hx
      have hx := X18.out; subst hx
      have hx := X19.out; subst hx
      simp only [fill_eq, List.take_succ_cons, List.take_zero, List.cons_append, List.nil_append, Act.put, List.setIfInBounds_toArray, List.set_cons_zero, List.set_cons_succ, sel_of d8, sel_of d9] at ha
      subst ha
      have hE0 := Lib.hid hE
      clear hE
      rw [if_pos (by rfl)]
      go_simp
      refine Shut.out hK _ _ ⟨?_, hO, hE0.out⟩
      · simp only [fill_eq, List.take_succ_cons, List.take_zero, List.cons_append, List.nil_append, Act.put, List.setIfInBounds_toArray, List.set_cons_zero, List.set_cons_succ, sel_new, sel_dep d8, sel_dep d9]
        try rfl
  · as_aux_lemma =>
      rintro l a wr ⟨ha, hO, hE⟩ hc hl hd K' hK
      have d8 := hd 8 (by decide)
      have d10 := hd 10 (by decide)
      have hx := X17.out; subst hx
      have hx := X19.out; subst hx
      have hx := X20.out; subst hx
      simp only [fill_eq, List.take_succ_cons, List.take_zero, List.cons_append, List.nil_append, Act.put, List.setIfInBounds_toArray, List.set_cons_zero, List.set_cons_succ, sel_of d8, sel_of d10] at ha
      subst ha
      have hE0 := Lib.hid hE
      clear hE
      rw [if_pos (by rfl)]
      go_simp
      refine Shut.out hK _ _ ⟨?_, hO, hE0.out⟩
      · simp only [fill_eq, List.take_succ_cons, List.take_zero, List.cons_append, List.nil_append, Act.put, List.setIfInBounds_toArray, List.set_cons_zero, List.set_cons_succ, sel_new, sel_dep d8, sel_dep d10]
        try rfl
  · as_aux_lemma =>
      rintro l a wr ⟨ha, hO, hE⟩ hc hl hd K' hK
      have d11 := hd 11 (by decide)
      have hx := X20.out; subst hx
      have hx := X21.out; subst hx
      simp only [fill_eq, List.take_succ_cons, List.take_zero, List.cons_append, List.nil_append, Act.put, List.setIfInBounds_toArray, List.set_cons_zero, List.set_cons_succ, sel_of d11] at ha
      subst ha
      have hE0 := Lib.hid hE
      clear hE
      rw [if_pos (by rfl)]
      go_simp
      refine Shut.out hK _ _ ⟨?_, hO, hE0.out⟩
      · simp only [fill_eq, List.take_succ_cons, List.take_zero, List.cons_append, List.nil_append, Act.put, List.setIfInBounds_toArray, List.set_cons_zero, List.set_cons_succ, sel_new, sel_dep d11]
        try rfl
  · as_aux_lemma =>
      rintro l a wr ⟨ha, hO, hE⟩ hc hl hd K' hK
      have d12 := hd 12 (by decide)
      have hx := X21.out; subst hx
      have hx := X22.out; subst hx
      simp only [fill_eq, List.take_succ_cons, List.take_zero, List.cons_append, List.nil_append, Act.put, List.setIfInBounds_toArray, List.set_cons_zero, List.set_cons_succ, sel_of d12] at ha
      subst ha
      have hE0 := Lib.hid hE
      clear hE
      rw [if_pos (by rfl)]
      go_simp
      refine Shut.out hK _ _ ⟨?_, hO, hE0.out⟩
      · simp only [fill_eq, List.take_succ_cons, List.take_zero, List.cons_append, List.nil_append, Act.put, List.setIfInBounds_toArray, List.set_cons_zero, List.set_cons_succ, sel_new, sel_dep d12]
        try rfl
  · as_aux_lemma =>
      rintro l a wr ⟨ha, hO, hE⟩ hc hl hd K' hK
      have d12 := hd 12 (by decide)
      have d13 := hd 13 (by decide)
      have hx := X21.out; subst hx
      have hx := X22.out; subst hx
      have hx := X23.out; subst hx
      simp only [fill_eq, List.take_succ_cons, List.take_zero, List.cons_append, List.nil_append, Act.put, List.setIfInBounds_toArray, List.set_cons_zero, List.set_cons_succ, sel_of d12, sel_of d13] at ha
      subst ha
      have gf := hl
      have hw := hE gf
      have g1 : l 1 = true := hc.up 19 12 1 d12 (by kernel_rfl)
      have g5 : l 5 = true := hc.up 19 12 5 d12 (by kernel_rfl)
      rw [selW_of g5] at hw
      obtain rfl : W2 = wr := hw.symm
      have hE0 := Lib.hid hE
      clear hE
      have hg1 := Lib.hid g1
      clear g1
      have hg5 := Lib.hid g5
      clear g5
      clear gf
      rw [if_pos (by rfl)]
      go_simp
      refine (HS4.out _ hO).mono ?_
      rintro e w1 ⟨rfl, hOW⟩
      go_wp2_with fail
      refine Shut.out hK _ _ ⟨?_, hO.trans hOW (fun _ _ c => c), fun h => absurd h (by rw [upd_same]; decide)⟩
      · simp only [fill_eq, List.take_succ_cons, List.take_zero, List.cons_append, List.nil_append, Act.put, List.setIfInBounds_toArray, List.set_cons_zero, List.set_cons_succ, sel_new, sel_dep d12, sel_dep d13]
        try rfl
  · as_aux_lemma =>
      rintro l a wr ⟨ha, hO, hE⟩ hc hl hd K' hK
      have d12 := hd 12 (by decide)
      have hx := X21.out; subst hx
      have hx := X24.out; subst hx
      simp only [fill_eq, List.take_succ_cons, List.take_zero, List.cons_append, List.nil_append, Act.put, List.setIfInBounds_toArray, List.set_cons_zero, List.set_cons_succ, sel_of d12] at ha
      subst ha
      have hE0 := Lib.hid hE
      clear hE
      rw [if_pos (by rfl)]
      refine wp_load_row _ _ rfl _ rfl _ A (0, 0) _ (hO.heap HA4.out (fun c => c)) Tryd.underlying25 rfl HAI.out ?_
      refine Shut.out hK _ _ ⟨?_, hO, hE0.out⟩
      · simp only [fill_eq, List.take_succ_cons, List.take_zero, List.cons_append, List.nil_append, Act.put, List.setIfInBounds_toArray, List.set_cons_zero, List.set_cons_succ, sel_new, sel_dep d12]
        try rfl
  · as_aux_lemma =>
      rintro l a wr ⟨ha, hO, hE⟩ hc hl hd K' hK
      have d12 := hd 12 (by decide)
      have d14 := hd 14 (by decide)
      have d15 := hd 15 (by decide)
      have hx := X21.out; subst hx
      have hx := X23.out; subst hx
      have hx := X24.out; subst hx
      have hx := X25.out; subst hx
      simp only [fill_eq, List.take_succ_cons, List.take_zero, List.cons_append, List.nil_append, Act.put, List.setIfInBounds_toArray, List.set_cons_zero, List.set_cons_succ, sel_of d12, sel_of d14, sel_of d15] at ha
      subst ha
      have hE0 := Lib.hid hE
      clear hE
      rw [if_pos (by rfl)]
      go_simp
      refine Shut.out hK _ _ ⟨?_, hO, hE0.out⟩
      · simp only [fill_eq, List.take_succ_cons, List.take_zero, List.cons_append, List.nil_append, Act.put, List.setIfInBounds_toArray, List.set_cons_zero, List.set_cons_succ, sel_new, sel_dep d12, sel_dep d14, sel_dep d15]
        try rfl
  · as_aux_lemma =>
      rintro l a wr ⟨ha, hO, hE⟩ hc hl hd K' hK
      have d12 := hd 12 (by decide)
      have d16 := hd 16 (by decide)
      have hx := X21.out; subst hx
      have hx := X25.out; subst hx
      have hx := X26.out; subst hx
      simp only [fill_eq, List.take_succ_cons, List.take_zero, List.cons_append, List.nil_append, Act.put, List.setIfInBounds_toArray, List.set_cons_zero, List.set_cons_succ, sel_of d12, sel_of d16] at ha
      subst ha
      have hE0 := Lib.hid hE
      clear hE
      rw [if_pos (by rfl)]
      go_simp
      refine Shut.out hK _ _ ⟨?_, hO, hE0.out⟩
      · simp only [fill_eq, List.take_succ_cons, List.take_zero, List.cons_append, List.nil_append, Act.put, List.setIfInBounds_toArray, List.set_cons_zero, List.set_cons_succ, sel_new, sel_dep d12, sel_dep d16]
        try rfl
  · as_aux_lemma =>
      rintro l a wr ⟨ha, hO, hE⟩ hc hl hd K' hK
      have d17 := hd 17 (by decide)
      have hx := X26.out; subst hx
      have hx := X0.out; subst hx
      simp only [fill_eq, List.take_succ_cons, List.take_zero, List.cons_append, List.nil_append, Act.put, List.setIfInBounds_toArray, List.set_cons_zero, List.set_cons_succ, sel_of d17] at ha
      subst ha
      have hE0 := Lib.hid hE
      clear hE
      rw [if_pos (by rfl)]
      go_simp
      refine Shut.out hK _ _ ⟨?_, hO, hE0.out⟩
      · simp only [fill_eq, List.take_succ_cons, List.take_zero, List.cons_append, List.nil_append, Act.put, List.setIfInBounds_toArray, List.set_cons_zero, List.set_cons_succ, sel_new, sel_dep d17]
        try rfl
  · rintro l a wc ⟨ha, hO, hE⟩ hd
    simp only [fill_eq, List.take_succ_cons, List.take_zero, List.cons_append, List.nil_append, Act.put, List.setIfInBounds_toArray, List.set_cons_zero, List.set_cons_succ, sel_of (hd 0 (by decide)), sel_of (hd 1 (by decide)), sel_of (hd 2 (by decide)), sel_of (hd 3 (by decide)), sel_of (hd 4 (by decide)), sel_of (hd 5 (by decide)), sel_of (hd 6 (by decide)), sel_of (hd 7 (by decide)), sel_of (hd 8 (by decide)), sel_of (hd 9 (by decide)), sel_of (hd 10 (by decide)), sel_of (hd 11 (by decide)), sel_of (hd 12 (by decide)), sel_of (hd 13 (by decide)), sel_of (hd 14 (by decide)), sel_of (hd 15 (by decide)), sel_of (hd 16 (by decide)), sel_of (hd 17 (by decide)), sel_of (hd 18 (by decide))] at ha
    subst ha
    clear hE
    have HOe := Lib.hid (HO4.out.trans hO (fun _ _ c => c))
    have hx := X0.out
    subst hx
    clear hO hd
    go_wp2_with fail
    go_ret
    exact ⟨rfl, HOe.out⟩
end Go.Proofs.YthjfhgnmaepafaaDoor
