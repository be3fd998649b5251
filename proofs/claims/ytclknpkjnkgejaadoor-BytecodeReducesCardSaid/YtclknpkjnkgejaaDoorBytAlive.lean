/-
  The examples of layer 7's chapter hold: the statements' own alive over this seat's translation. Conditions: the table of fields lies in memory as it was laid.
-/
import Derived.Test.YtclknpkjnkgejaaDoorBytGet
import Derived.Test.YtclknpkjnkgejaaDoorBytReg
import Derived.Test.YtclknpkjnkgejaaDoorBytWide
namespace Go.Proofs.YtclknpkjnkgejaaDoor
open Go.RowKit
attribute [local go_sem ↓] Go.wp_at_zero Go.wp_at_succ
theorem wide_zero {id : Int} {p i r s : Nat} (hF : Fld id p i r s) {w : World} {u : Value} (h : SvAt w u (List.replicate 64 0)) : Calls Tryd.prog 18 #[FV id p i r s, u] w fun e w' => e = .returned (.tuple #[.agg #[.int .u64 0, .int .u64 0, .int .u64 0, .int .u64 0], .int .i64 0]) ∧ Off (fun _ => False) w w' := by
  obtain ⟨a, n, c, rfl, hn, hc, hb⟩ := h
  have := wide_any hF a n c _ _ w hb hn (fun x hx => by rw [(List.mem_replicate.1 hx).2]; decide) hc
  have e : wideV p (List.replicate 64 0) = (0, 0) := by unfold wideV; rw [if_pos (by simp), numB_zeros, fm_zero]
  rw [e, show V (0, 0).1 = _ from lit_small 0 (by decide)] at this
  exact this
theorem prefix_258 : Lib.hasPrefix (Lib.bytesOf ((bytesN 258 32).map (fun x : Nat => (x : Int)))) (Lib.bytesOf ([2, 1, 0].map (fun x : Nat => (x : Int)))) = true := by decide +kernel
set_option maxRecDepth 100000 in
set_option maxHeartbeats 4000000 in
theorem alive7_any (w : World) (hT : TabAt w) : Calls Tryd.prog 14 #[] w fun e w' => e = .returned (.bool true) ∧ Off (fun _ => False) w w' := by
  obtain ⟨id, p, i, r, s, hF, hid⟩ := fld_of true
  have hp := hF.mp.lt
  have h1 := hF.mp.one
  have h258 : 258 < p := by rw [← hF.mod, hid]; decide
  have FG := Lib.hid (get7_any true hF hid w hT)
  have hX := fun W => form7_any p 258 hp h1 (by decide) W
  rw [lit_small 258 (by decide)] at hX
  have hE := fun W => sv_of_enc (encode_any hF (fm p 258) (fm_lt (by omega) _) W) (bytesN_length _ _)
  rw [mm_one hF.mp, Nat.mod_eq_of_lt h258] at hE
  have FW := Lib.hid (fun (W : World) (u : Value) (h : SvAt W u (List.replicate 64 0)) => wide_zero hF h)
  obtain ⟨u, hu⟩ : ∃ u, u = fm p 258 := ⟨_, rfl⟩
  rw [← hu] at hX hE
  have FX := Lib.hid hX
  have FE := Lib.hid hE
  obtain ⟨bs, hbs⟩ : ∃ bs, bs = bytesN 258 32 := ⟨_, rfl⟩
  rw [← hbs] at FE
  have HP := prefix_258
  have hbl : bs.length = 32 := by rw [hbs]; exact bytesN_length _ _
  rw [← hbs] at HP
  have hmk : ∀ W, (Instr.makeSlice 30 (.int .i64 64) (.int .i64 64)).run Tryd.prog W = .ok (.slice (some ⟨W.heap.size, 0, none⟩) 64 64) (W.alloc (.cells ((List.replicate 64 0).map u8v).toArray 5)) := run_make_by 64 (by omega)
  have hZZ : ∀ (W : World), SvAt (W.alloc (.cells ((List.replicate 64 0).map u8v).toArray 5)) (.slice (some ⟨W.heap.size, 0, none⟩) 64 64) (List.replicate 64 0) := fun W => ⟨_, _, _, rfl, rfl, Nat.le_refl _, BsAt.of_blk (heap_new' rfl _) trivial⟩
  obtain ⟨Z, hZ⟩ : ∃ Z, Z = ((List.replicate 64 0).map u8v).toArray := ⟨_, rfl⟩
  rw [← hZ] at hmk hZZ
  have HZZ := Lib.hid hZZ
  have HBL := Lib.hid hbl
  clear hZZ hZ hX hE hu hbs h258 hp h1 hid hF hbl
  go_enter Tryd.func14, Tryd.ntmps14
  go_wp2_with fail
  refine FG.out.mono ?_
  rintro e u0 ⟨rfl, hO⟩
  obtain ⟨W1, eW1⟩ : ∃ W1, W1 = (((u0).alloc (.cells #[.int .i64 id, .int .u64 (wd p 0 : Int), .int .u64 (wd p 1 : Int), .int .u64 (wd p 2 : Int), .int .u64 (wd p 3 : Int), .int .u64 (i : Int), .int .u64 (wd r 0 : Int), .int .u64 (wd r 1 : Int), .int .u64 (wd r 2 : Int), .int .u64 (wd r 3 : Int), .int .u64 (wd s 0 : Int), .int .u64 (wd s 1 : Int), .int .u64 (wd s 2 : Int), .int .u64 (wd s 3 : Int)] 26)).alloc (.cells #[.int .u64 (wd p 0 : Int), .int .u64 (wd p 1 : Int), .int .u64 (wd p 2 : Int), .int .u64 (wd p 3 : Int)] 23)) := ⟨_, rfl⟩
  have oW1 : Off (fun _ => False) u0 W1 := by rw [eW1]; exact ((Off.refl _ u0).alloc _).alloc _
  have hFc : W1.heap[u0.heap.size]? = some (.cells #[.int .i64 id, .int .u64 (wd p 0 : Int), .int .u64 (wd p 1 : Int), .int .u64 (wd p 2 : Int), .int .u64 (wd p 3 : Int), .int .u64 (i : Int), .int .u64 (wd r 0 : Int), .int .u64 (wd r 1 : Int), .int .u64 (wd r 2 : Int), .int .u64 (wd r 3 : Int), .int .u64 (wd s 0 : Int), .int .u64 (wd s 1 : Int), .int .u64 (wd s 2 : Int), .int .u64 (wd s 3 : Int)] 26) := by rw [eW1]; exact heap_old' (heap_new' rfl _) _
  have hPc : W1.heap[u0.heap.size + 1]? = some (.cells #[.int .u64 (wd p 0 : Int), .int .u64 (wd p 1 : Int), .int .u64 (wd p 2 : Int), .int .u64 (wd p 3 : Int)] 23) := by rw [eW1]; exact heap_new' (by simp) _
  have HW1 := Lib.hid eW1
  have HFc := Lib.hid hFc
  have HPc := Lib.hid hPc
  have HO1 := Lib.hid (hO.trans oW1 (fun _ _ c => c))
  have HK1 : Hid (∀ W, Off (fun _ => False) W1 W → (W.cell? ⟨u0.heap.size, 0, none⟩ = some (.int .i64 id) ∧ W.cell? ⟨u0.heap.size, 1, none⟩ = some (.int .u64 (wd p 0 : Int)) ∧ W.cell? ⟨u0.heap.size, 2, none⟩ = some (.int .u64 (wd p 1 : Int)) ∧ W.cell? ⟨u0.heap.size, 3, none⟩ = some (.int .u64 (wd p 2 : Int)) ∧ W.cell? ⟨u0.heap.size, 4, none⟩ = some (.int .u64 (wd p 3 : Int)) ∧ W.cell? ⟨u0.heap.size, 5, none⟩ = some (.int .u64 (i : Int)) ∧ W.cell? ⟨u0.heap.size, 6, none⟩ = some (.int .u64 (wd r 0 : Int)) ∧ W.cell? ⟨u0.heap.size, 7, none⟩ = some (.int .u64 (wd r 1 : Int)) ∧ W.cell? ⟨u0.heap.size, 8, none⟩ = some (.int .u64 (wd r 2 : Int)) ∧ W.cell? ⟨u0.heap.size, 9, none⟩ = some (.int .u64 (wd r 3 : Int)) ∧ W.cell? ⟨u0.heap.size, 10, none⟩ = some (.int .u64 (wd s 0 : Int)) ∧ W.cell? ⟨u0.heap.size, 11, none⟩ = some (.int .u64 (wd s 1 : Int)) ∧ W.cell? ⟨u0.heap.size, 12, none⟩ = some (.int .u64 (wd s 2 : Int)) ∧ W.cell? ⟨u0.heap.size, 13, none⟩ = some (.int .u64 (wd s 3 : Int))) ∧ (W.cell? ⟨(u0.heap.size + 1), 0, none⟩ = some (.int .u64 (wd p 0 : Int)) ∧ W.cell? ⟨(u0.heap.size + 1), 1, none⟩ = some (.int .u64 (wd p 1 : Int)) ∧ W.cell? ⟨(u0.heap.size + 1), 2, none⟩ = some (.int .u64 (wd p 2 : Int)) ∧ W.cell? ⟨(u0.heap.size + 1), 3, none⟩ = some (.int .u64 (wd p 3 : Int))) ∧ Off (fun _ => False) W1 W) := Lib.hid (fun W h => ⟨fv_cells (h.heap HFc.out (fun c => c)), cells4 (h.heap HPc.out (fun c => c)), h⟩)
  clear hO eW1 hFc hPc oW1 FG
  go_upto_region 2 with fail
  rw [← HW1.out]
  refine wp_region_inv (fun a0 l a' w' => ∃ (u10 : Value) (u11 : Value) (u12 : Value) (u13 : Value) (u14 : Value) (u3 : Value), a' = (Act.put (Act.put (Act.put (Act.put (Act.put (Act.put a0 (some 10) u10) (some 11) u11) (some 12) u12) (some 13) u13) (some 14) u14) (some 3) u3) ∧ Slot l 0 u10 (FV id p i r s) ∧ Slot l 1 u11 (V p) ∧ Slot l 2 u12 (.agg #[.int .u64 258, .int .u64 0, .int .u64 0, .int .u64 0]) ∧ Slot l 3 u13 (V u) ∧ Mk l 4 u14 w' (bs) ∧ Mk l 5 u3 w' (bs) ∧ Off (fun _ => False) W1 w') (by kernel_rfl) (by kernel_rfl) ?_ ⟨?_, ?_, ?_, ?_, ?_, ?_, trivial⟩ ?_
  · refine ⟨?z10, ?z11, ?z12, ?z13, ?z14, ?z3, ?fr, Slot.start _ _ _, Slot.start _ _ _, Slot.start _ _ _, Slot.start _ _ _, Mk.start _ _ _ _, Mk.start _ _ _ _, (Off.refl _ W1).drew⟩
    case fr => first | (simp only [Act.put, List.setIfInBounds_toArray, List.set_cons_zero, List.set_cons_succ]; rfl) | simp only [Act.put, List.setIfInBounds_toArray, List.set_cons_zero, List.set_cons_succ]
  · intro l a wr hI hl hd K' hK
    obtain ⟨u10, u11, u12, u13, u14, u3, ha, s0, s1, s2, s3, M4, M5, hO⟩ := hI
    simp only [Act.put, List.setIfInBounds_toArray, List.set_cons_zero, List.set_cons_succ] at ha
    subst ha
    have hc := HK1.out wr hO
    have p0 := hc.1.1
    have p1 := hc.1.2.1
    have p2 := hc.1.2.2.1
    have p3 := hc.1.2.2.2.1
    have p4 := hc.1.2.2.2.2.1
    have p5 := hc.1.2.2.2.2.2.1
    have p6 := hc.1.2.2.2.2.2.2.1
    have p7 := hc.1.2.2.2.2.2.2.2.1
    have p8 := hc.1.2.2.2.2.2.2.2.2.1
    have p9 := hc.1.2.2.2.2.2.2.2.2.2.1
    have p10 := hc.1.2.2.2.2.2.2.2.2.2.2.1
    have p11 := hc.1.2.2.2.2.2.2.2.2.2.2.2.1
    have p12 := hc.1.2.2.2.2.2.2.2.2.2.2.2.2.1
    have p13 := hc.1.2.2.2.2.2.2.2.2.2.2.2.2.2
    clear hc
    go_simp
    refine hK.out _ _ ⟨_, _, _, _, _, _, ?_, Slot.new _ _ _, s1.keep rfl, s2.keep rfl, s3.keep rfl, M4.keep (Off.refl _ wr) rfl, M5.keep (Off.refl _ wr) rfl, hO⟩
    simp only [Act.put, List.setIfInBounds_toArray, List.set_cons_zero, List.set_cons_succ]
  · intro l a wr hI hl hd K' hK
    obtain ⟨u10, u11, u12, u13, u14, u3, ha, s0, s1, s2, s3, M4, M5, hO⟩ := hI
    simp only [Act.put, List.setIfInBounds_toArray, List.set_cons_zero, List.set_cons_succ] at ha
    subst ha
    have hc := HK1.out wr hO
    have p0 := hc.2.1.1
    have p1 := hc.2.1.2.1
    have p2 := hc.2.1.2.2.1
    have p3 := hc.2.1.2.2.2
    clear hc
    go_simp
    refine hK.out _ _ ⟨_, _, _, _, _, _, ?_, s0.keep rfl, Slot.new _ _ _, s2.keep rfl, s3.keep rfl, M4.keep (Off.refl _ wr) rfl, M5.keep (Off.refl _ wr) rfl, hO⟩
    simp only [Act.put, List.setIfInBounds_toArray, List.set_cons_zero, List.set_cons_succ]
  · intro l a wr hI hl hd K' hK
    obtain ⟨u10, u11, u12, u13, u14, u3, ha, s0, s1, s2, s3, M4, M5, hO⟩ := hI
    simp only [Act.put, List.setIfInBounds_toArray, List.set_cons_zero, List.set_cons_succ] at ha
    subst ha
    go_simp
    refine hK.out _ _ ⟨_, _, _, _, _, _, ?_, s0.keep rfl, s1.keep rfl, Slot.new _ _ _, s3.keep rfl, M4.keep (Off.refl _ wr) rfl, M5.keep (Off.refl _ wr) rfl, hO⟩
    simp only [Act.put, List.setIfInBounds_toArray, List.set_cons_zero, List.set_cons_succ]
  · intro l a wr hI hl hd K' hK
    obtain ⟨u10, u11, u12, u13, u14, u3, ha, s0, s1, s2, s3, M4, M5, hO⟩ := hI
    simp only [Act.put, List.setIfInBounds_toArray, List.set_cons_zero, List.set_cons_succ] at ha
    have q1 := s1 (hd 1 (by decide))
    have q2 := s2 (hd 2 (by decide))
    subst ha q1 q2
    go_simp
    refine (held_inv (FX.out wr) hO).mono ?_
    rintro e w1 ⟨rfl, hO1, hOW⟩
    go_wp2_with fail
    refine hK.out _ _ ⟨_, _, _, _, _, _, ?_, s0.keep rfl, s1.keep rfl, s2.keep rfl, Slot.new _ _ _, M4.keep hOW rfl, M5.keep hOW rfl, hO1⟩
    simp only [Act.put, List.setIfInBounds_toArray, List.set_cons_zero, List.set_cons_succ]
  · intro l a wr hI hl hd K' hK
    obtain ⟨u10, u11, u12, u13, u14, u3, ha, s0, s1, s2, s3, M4, M5, hO⟩ := hI
    simp only [Act.put, List.setIfInBounds_toArray, List.set_cons_zero, List.set_cons_succ] at ha
    have q0 := s0 (hd 0 (by decide))
    have q3 := s3 (hd 3 (by decide))
    subst ha q0 q3
    go_simp
    refine (FE.out wr).mono ?_
    rintro e w1 ⟨uv, rfl, hm, hOW⟩
    have hO1 := hO.trans hOW (fun _ _ c => c.elim)
    go_wp2_with fail
    refine hK.out _ _ ⟨_, _, _, _, _, _, ?_, s0.keep rfl, s1.keep rfl, s2.keep rfl, s3.keep rfl, Mk.new hm, M5.keep hOW rfl, hO1⟩
    simp only [Act.put, List.setIfInBounds_toArray, List.set_cons_zero, List.set_cons_succ]
  · intro l a wr hI hl hd K' hK
    obtain ⟨u10, u11, u12, u13, u14, u3, ha, s0, s1, s2, s3, M4, M5, hO⟩ := hI
    simp only [Act.put, List.setIfInBounds_toArray, List.set_cons_zero, List.set_cons_succ] at ha
    have m4 := M4 (hd 4 (by decide))
    subst ha
    go_simp
    refine hK.out _ _ ⟨_, _, _, _, _, _, ?_, s0.keep rfl, s1.keep rfl, s2.keep rfl, s3.keep rfl, M4.keep (Off.refl _ wr) rfl, Mk.new (m4), hO⟩
    simp only [Act.put, List.setIfInBounds_toArray, List.set_cons_zero, List.set_cons_succ]
  · intro l a wc hI hd
    obtain ⟨u10, u11, u12, u13, u14, u3, ha, s0, s1, s2, s3, M4, M5, hO⟩ := hI
    simp only [Act.put, List.setIfInBounds_toArray, List.set_cons_zero, List.set_cons_succ] at ha
    have q0 := s0 (hd 0 (by decide))
    have q1 := s1 (hd 1 (by decide))
    have q2 := s2 (hd 2 (by decide))
    have q3 := s3 (hd 3 (by decide))
    have m14 := M4 (hd 4 (by decide))
    have m3 := M5 (hd 5 (by decide))
    subst ha q0 q1 q2 q3
    clear hd s0 s1 s2 s3 M4 M5
    obtain ⟨W2, hW2⟩ : ∃ W2, W2 = wc := ⟨_, rfl⟩
    subst hW2
    have HF2 := Lib.hid (hO.heap HFc.out (fun c => c))
    have HO2 := Lib.hid (HO1.out.trans hO (fun _ _ c => c))
    have HK2 : Hid (∀ W, Off (fun _ => False) W2 W → (W.cell? ⟨u0.heap.size, 0, none⟩ = some (.int .i64 id) ∧ W.cell? ⟨u0.heap.size, 1, none⟩ = some (.int .u64 (wd p 0 : Int)) ∧ W.cell? ⟨u0.heap.size, 2, none⟩ = some (.int .u64 (wd p 1 : Int)) ∧ W.cell? ⟨u0.heap.size, 3, none⟩ = some (.int .u64 (wd p 2 : Int)) ∧ W.cell? ⟨u0.heap.size, 4, none⟩ = some (.int .u64 (wd p 3 : Int)) ∧ W.cell? ⟨u0.heap.size, 5, none⟩ = some (.int .u64 (i : Int)) ∧ W.cell? ⟨u0.heap.size, 6, none⟩ = some (.int .u64 (wd r 0 : Int)) ∧ W.cell? ⟨u0.heap.size, 7, none⟩ = some (.int .u64 (wd r 1 : Int)) ∧ W.cell? ⟨u0.heap.size, 8, none⟩ = some (.int .u64 (wd r 2 : Int)) ∧ W.cell? ⟨u0.heap.size, 9, none⟩ = some (.int .u64 (wd r 3 : Int)) ∧ W.cell? ⟨u0.heap.size, 10, none⟩ = some (.int .u64 (wd s 0 : Int)) ∧ W.cell? ⟨u0.heap.size, 11, none⟩ = some (.int .u64 (wd s 1 : Int)) ∧ W.cell? ⟨u0.heap.size, 12, none⟩ = some (.int .u64 (wd s 2 : Int)) ∧ W.cell? ⟨u0.heap.size, 13, none⟩ = some (.int .u64 (wd s 3 : Int))) ∧ Off (fun _ => False) W2 W) := Lib.hid (fun W h => ⟨fv_cells (h.heap HF2.out (fun c => c)), h⟩)
    have HM := Lib.hid m3
    clear m14 m3 HK1 HW1 HFc HPc HO1 FX FE hO l
    go_upto_region 3 with fail
    refine wp_region_inv (fun a0 l a' w' => ∃ (u16 : Value) (u17 : Value) (u18 : Value) (u15 : Value) (u19 : Value) (u20 : Value) (u4 : Value) (u5 : Value) (b4 : Nat), a' = (Act.put (Act.put (Act.put (Act.put (Act.put (Act.put (Act.put (Act.put a0 (some 16) u16) (some 17) u17) (some 18) u18) (some 15) u15) (some 19) u19) (some 20) u20) (some 4) u4) (some 5) u5) ∧ Slot l 0 u16 (FV id p i r s) ∧ Slot l 2 u18 (.tuple #[.agg #[.int .u64 0, .int .u64 0, .int .u64 0, .int .u64 0], .int .i64 0]) ∧ Slot l 3 u15 (.tuple #[.agg #[.int .u64 0, .int .u64 0, .int .u64 0, .int .u64 0], .int .i64 0]) ∧ Slot l 4 u19 (.agg #[.int .u64 0, .int .u64 0, .int .u64 0, .int .u64 0]) ∧ Slot l 5 u20 (.int .i64 0) ∧ Slot l 8 u5 (.int .i64 0) ∧ Blk l 6 7 u4 b4 W2 w' (.cells #[.int .u64 0, .int .u64 0, .int .u64 0, .int .u64 0] 24) (.cells #[.int .u64 0, .int .u64 0, .int .u64 0, .int .u64 0] 24) ∧ MkT l 1 2 u17 w' (List.replicate 64 0) ∧ Off (fun _ => False) W2 w') (by kernel_rfl) (by kernel_rfl) ?_ ⟨?_, ?_, ?_, ?_, ?_, ?_, ?_, ?_, ?_, trivial⟩ ?_
    · refine ⟨?z16, ?z17, ?z18, ?z15, ?z19, ?z20, ?z4, ?z5, 0, ?fr, Slot.start _ _ _, Slot.start _ _ _, Slot.start _ _ _, Slot.start _ _ _, Slot.start _ _ _, Slot.start _ _ _, Blk.start _ _ _ _ _ _ _ _, MkT.start _ _ _ _ _, (Off.refl _ W2).drew⟩
      case fr => first | (simp only [Act.put, List.setIfInBounds_toArray, List.set_cons_zero, List.set_cons_succ]; rfl) | simp only [Act.put, List.setIfInBounds_toArray, List.set_cons_zero, List.set_cons_succ]
    · intro l a wr hI hl hd K' hK
      obtain ⟨u16, u17, u18, u15, u19, u20, u4, u5, b4, ha, s0, s2, s3, s4, s5, s8, B6, M1, hO⟩ := hI
      simp only [Act.put, List.setIfInBounds_toArray, List.set_cons_zero, List.set_cons_succ] at ha
      subst ha
      have hc := HK2.out wr hO
      have p0 := hc.1.1
      have p1 := hc.1.2.1
      have p2 := hc.1.2.2.1
      have p3 := hc.1.2.2.2.1
      have p4 := hc.1.2.2.2.2.1
      have p5 := hc.1.2.2.2.2.2.1
      have p6 := hc.1.2.2.2.2.2.2.1
      have p7 := hc.1.2.2.2.2.2.2.2.1
      have p8 := hc.1.2.2.2.2.2.2.2.2.1
      have p9 := hc.1.2.2.2.2.2.2.2.2.2.1
      have p10 := hc.1.2.2.2.2.2.2.2.2.2.2.1
      have p11 := hc.1.2.2.2.2.2.2.2.2.2.2.2.1
      have p12 := hc.1.2.2.2.2.2.2.2.2.2.2.2.2.1
      have p13 := hc.1.2.2.2.2.2.2.2.2.2.2.2.2.2
      clear hc
      go_simp
      refine hK.out _ _ ⟨_, _, _, _, _, _, _, _, _, ?_, Slot.new _ _ _, s2.keep rfl, s3.keep rfl, s4.keep rfl, s5.keep rfl, s8.keep rfl, B6.keep (Off.refl _ wr) rfl rfl, M1.keep (Off.refl _ wr) rfl rfl, hO⟩
      simp only [Act.put, List.setIfInBounds_toArray, List.set_cons_zero, List.set_cons_succ]
    · intro l a wr hI hl hd K' hK
      obtain ⟨u16, u17, u18, u15, u19, u20, u4, u5, b4, ha, s0, s2, s3, s4, s5, s8, B6, M1, hO⟩ := hI
      simp only [Act.put, List.setIfInBounds_toArray, List.set_cons_zero, List.set_cons_succ] at ha
      subst ha
      go_simp
      refine hK.out _ _ ⟨_, _, _, _, _, _, _, _, _, ?_, s0.keep rfl, s2.keep rfl, s3.keep rfl, s4.keep rfl, s5.keep rfl, s8.keep rfl, B6.keep ((Off.refl _ wr).alloc _) rfl rfl, MkT.new (HZZ.out _), hO.alloc _⟩
      simp only [Act.put, List.setIfInBounds_toArray, List.set_cons_zero, List.set_cons_succ]
    · intro l a wr hI hl hd K' hK
      obtain ⟨u16, u17, u18, u15, u19, u20, u4, u5, b4, ha, s0, s2, s3, s4, s5, s8, B6, M1, hO⟩ := hI
      simp only [Act.put, List.setIfInBounds_toArray, List.set_cons_zero, List.set_cons_succ] at ha
      have q0 := s0 (hd 0 (by decide))
      have m1 := M1 (hd 1 (by decide)) hl
      subst ha q0
      go_simp
      refine (held_inv (FW.out wr u17 m1) hO).mono ?_
      rintro e w1 ⟨rfl, hO1, hOW⟩
      go_wp2_with fail
      refine hK.out _ _ ⟨_, _, _, _, _, _, _, _, _, ?_, s0.keep rfl, Slot.new _ _ _, s3.keep rfl, s4.keep rfl, s5.keep rfl, s8.keep rfl, B6.keep hOW rfl rfl, MkT.gone _ _ _ u17 _, hO1⟩
      simp only [Act.put, List.setIfInBounds_toArray, List.set_cons_zero, List.set_cons_succ]
    · intro l a wr hI hl hd K' hK
      obtain ⟨u16, u17, u18, u15, u19, u20, u4, u5, b4, ha, s0, s2, s3, s4, s5, s8, B6, M1, hO⟩ := hI
      simp only [Act.put, List.setIfInBounds_toArray, List.set_cons_zero, List.set_cons_succ] at ha
      have q2 := s2 (hd 2 (by decide))
      subst ha q2
      go_simp
      refine hK.out _ _ ⟨_, _, _, _, _, _, _, _, _, ?_, s0.keep rfl, s2.keep rfl, Slot.new _ _ _, s4.keep rfl, s5.keep rfl, s8.keep rfl, B6.keep (Off.refl _ wr) rfl rfl, M1.keep (Off.refl _ wr) rfl rfl, hO⟩
      simp only [Act.put, List.setIfInBounds_toArray, List.set_cons_zero, List.set_cons_succ]
    · intro l a wr hI hl hd K' hK
      obtain ⟨u16, u17, u18, u15, u19, u20, u4, u5, b4, ha, s0, s2, s3, s4, s5, s8, B6, M1, hO⟩ := hI
      simp only [Act.put, List.setIfInBounds_toArray, List.set_cons_zero, List.set_cons_succ] at ha
      have q3 := s3 (hd 3 (by decide))
      subst ha q3
      go_simp
      refine hK.out _ _ ⟨_, _, _, _, _, _, _, _, _, ?_, s0.keep rfl, s2.keep rfl, s3.keep rfl, Slot.new _ _ _, s5.keep rfl, s8.keep rfl, B6.keep (Off.refl _ wr) rfl rfl, M1.keep (Off.refl _ wr) rfl rfl, hO⟩
      simp only [Act.put, List.setIfInBounds_toArray, List.set_cons_zero, List.set_cons_succ]
    · intro l a wr hI hl hd K' hK
      obtain ⟨u16, u17, u18, u15, u19, u20, u4, u5, b4, ha, s0, s2, s3, s4, s5, s8, B6, M1, hO⟩ := hI
      simp only [Act.put, List.setIfInBounds_toArray, List.set_cons_zero, List.set_cons_succ] at ha
      have q3 := s3 (hd 3 (by decide))
      subst ha q3
      go_simp
      refine hK.out _ _ ⟨_, _, _, _, _, _, _, _, _, ?_, s0.keep rfl, s2.keep rfl, s3.keep rfl, s4.keep rfl, Slot.new _ _ _, s8.keep rfl, B6.keep (Off.refl _ wr) rfl rfl, M1.keep (Off.refl _ wr) rfl rfl, hO⟩
      simp only [Act.put, List.setIfInBounds_toArray, List.set_cons_zero, List.set_cons_succ]
    · intro l a wr hI hl hd K' hK
      obtain ⟨u16, u17, u18, u15, u19, u20, u4, u5, b4, ha, s0, s2, s3, s4, s5, s8, B6, M1, hO⟩ := hI
      simp only [Act.put, List.setIfInBounds_toArray, List.set_cons_zero, List.set_cons_succ] at ha
      subst ha
      go_simp
      refine hK.out _ _ ⟨_, _, _, _, _, _, _, _, _, ?_, s0.keep rfl, s2.keep rfl, s3.keep rfl, s4.keep rfl, s5.keep rfl, s8.keep rfl, B6.make hl rfl hO, M1.keep ((Off.refl _ wr).alloc _) rfl rfl, hO.alloc _⟩
      simp only [Act.put, List.setIfInBounds_toArray, List.set_cons_zero, List.set_cons_succ]
    · intro l a wr hI hl hd K' hK
      obtain ⟨u16, u17, u18, u15, u19, u20, u4, u5, b4, ha, s0, s2, s3, s4, s5, s8, B6, M1, hO⟩ := hI
      simp only [Act.put, List.setIfInBounds_toArray, List.set_cons_zero, List.set_cons_succ] at ha
      have h6 := hd 6 (by decide)
      have q6 := B6.ptr h6
      have q4 := s4 (hd 4 (by decide))
      subst ha q6 q4
      obtain ⟨⟨m0, m1, m2, m3⟩, fz, lt⟩ := zero_cells (B6.was h6 hl)
      go_simp
      refine hK.out _ _ ⟨_, _, _, _, _, _, _, _, _, ?_, s0.keep rfl, s2.keep rfl, s3.keep rfl, s4.keep rfl, s5.keep rfl, s8.keep rfl, B6.put hl h6 rfl rfl, MkT.past (u := u17) (hd 2 (by decide)) rfl, setCells_in hO (fun c => absurd c (Nat.not_lt.2 (B6.new h6))) [.int .u64 0, .int .u64 0, .int .u64 0, .int .u64 0]⟩
      simp only [Act.put, List.setIfInBounds_toArray, List.set_cons_zero, List.set_cons_succ]
    · intro l a wr hI hl hd K' hK
      obtain ⟨u16, u17, u18, u15, u19, u20, u4, u5, b4, ha, s0, s2, s3, s4, s5, s8, B6, M1, hO⟩ := hI
      simp only [Act.put, List.setIfInBounds_toArray, List.set_cons_zero, List.set_cons_succ] at ha
      have q5 := s5 (hd 5 (by decide))
      subst ha q5
      go_simp
      refine hK.out _ _ ⟨_, _, _, _, _, _, _, _, _, ?_, s0.keep rfl, s2.keep rfl, s3.keep rfl, s4.keep rfl, s5.keep rfl, Slot.new _ _ _, B6.keep (Off.refl _ wr) rfl rfl, M1.keep (Off.refl _ wr) rfl rfl, hO⟩
      simp only [Act.put, List.setIfInBounds_toArray, List.set_cons_zero, List.set_cons_succ]
    · intro l a wc hI hd
      obtain ⟨u16, u17, u18, u15, u19, u20, u4, u5, b4, ha, s0, s2, s3, s4, s5, s8, B6, M1, hO⟩ := hI
      simp only [Act.put, List.setIfInBounds_toArray, List.set_cons_zero, List.set_cons_succ] at ha
      have q0 := s0 (hd 0 (by decide))
      have q2 := s2 (hd 2 (by decide))
      have q3 := s3 (hd 3 (by decide))
      have q4 := s4 (hd 4 (by decide))
      have q5 := s5 (hd 5 (by decide))
      have q8 := s8 (hd 8 (by decide))
      have q6 := B6.ptr (hd 6 (by decide))
      have n4 : wc.heap[b4]? = some (.cells #[.int .u64 0, .int .u64 0, .int .u64 0, .int .u64 0] 24) := B6.now (hd 6 (by decide)) (hd 7 (by decide))
      have v4 := B6.new (hd 6 (by decide))
      subst ha q0 q2 q3 q4 q5 q6 q8
      clear hd s0 s2 s3 s4 s5 s8 B6 M1
      obtain ⟨a, n, cap, hu3, hn, hcap, hb⟩ := HM.out
      have hn2 : n = 32 := hn.trans HBL.out
      have hcall := bprefix_any (w := wc.alloc (.cells #[.int .u8 2, .int .u8 1, .int .u8 0] 5)) (a' := some ⟨wc.heap.size, 0, none⟩) (n' := 3) (c' := 3) (cs := [2, 1, 0]) (S' := fun _ => True) (hb.off (hO.alloc _) (fun _ _ _ c => c)) hn hcap (BsAt.of_blk (T := 5) (heap_new' rfl _) trivial) rfl
      rw [HP] at hcall
      subst hn2
      subst hu3
      have HC := Lib.hid hcall
      have HN4 := Lib.hid n4
      have HOf := Lib.hid (HO2.out.trans hO (fun _ _ c => c))
      have e1 : ∀ W, (Op.equalIn 10000 24 (.agg #[.int .u64 0, .int .u64 0, .int .u64 0, .int .u64 0]) (.agg #[.int .u64 0, .int .u64 0, .int .u64 0, .int .u64 0])).run Tryd.prog W = .ok true W := fun W => by
        have h := equalIn_elem_same 0 W
        rw [lit_small 0 (by decide)] at h
        exact h
      have i32 : decide ((32 : Int) = 32) = true := rfl
      clear hb hcap hn hcall n4 v4 hO HM HBL HP HZZ hmk HF2 HK2 HO2 FW hT
      go_wp2_with fail
      refine HC.out.mono ?_
      rintro e w5 ⟨rfl, hO5⟩
      obtain ⟨z0, z1, z2, z3⟩ := cells4 (hO5.heap (heap_old' HN4.out _) (fun c => c))
      have HOg := Lib.hid ((HOf.out.alloc _).trans hO5 (fun _ _ c => c))
      clear hO5 HOf HN4 HC
      go_wp2
      go_ret
      exact ⟨rfl, HOg.out⟩
end Go.Proofs.YtclknpkjnkgejaaDoor
