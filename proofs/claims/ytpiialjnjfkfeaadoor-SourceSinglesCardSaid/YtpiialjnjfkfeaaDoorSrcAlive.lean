/-
  The statements' own get and alive of layer 14 over this seat's translation. Condition: the table of fields lies in memory as it was laid.
-/
import Derived.Test.YtpiialjnjfkfeaaDoorSrcAll
import Derived.Test.YtpiialjnjfkfeaaDoorFieldGet
import Derived.Test.YtpiialjnjfkfeaaDoorMontRef
import Derived.Lib.AppendZerosOnto
namespace Go.Proofs.YtpiialjnjfkfeaaDoor
open Go.RowKit Go.Lib
attribute [local go_sem ↓] Go.wp_at_zero Go.wp_at_succ
set_option maxRecDepth 100000 in
set_option maxHeartbeats 4000000 in
theorem get14_any (t : Bool) {id : Int} {p i r s : Nat} (hF : Fld id p i r s) (hid : id = idB t) (w : World) (hT : TabAt w) :
    Calls Tryd.prog 15 #[.bool t] w fun e w' => e = .returned (.tuple #[FV id p i r s, V p]) ∧ Off (fun _ => False) w w' := by
  have qI := fun W => id_any t W
  rw [← hid] at qI
  have qG := fun W hT => fget_in id p hF.mp.lt hF.mp.one hF.mod W hT
  rw [← hF.ss, ← hF.ii, ← hF.rr] at qG
  have qM := fun W => mod_modulus id W
  rw [hF.mod] at qM
  have FI := Lib.hid qI
  have FG := Lib.hid qG
  have FM := Lib.hid qM
  have HT := Lib.hid hT
  clear qI qG qM hF hid hT
  go_enter Tryd.func15, Tryd.ntmps15
  go_wp2_with fail
  refine (FI.out _).mono ?_
  rintro e u0 ⟨rfl, hO0⟩
  have hA0 : Off (fun _ => False) w u0 := ((Off.refl _ w).alloc _).alloc _ |>.trans hO0 (fun _ _ c => c)
  have H0 := Lib.hid (show u0.heap[w.heap.size]? = some (.cells #[.int .i64 0, .int .u64 0, .int .u64 0, .int .u64 0, .int .u64 0, .int .u64 0, .int .u64 0, .int .u64 0, .int .u64 0, .int .u64 0, .int .u64 0, .int .u64 0, .int .u64 0, .int .u64 0] 42) from hO0.heap (heap_old' (heap_new' rfl _) _) (fun c => c))
  have H1 := Lib.hid (show u0.heap[w.heap.size + 1]? = some (.cells #[.int .u64 0, .int .u64 0, .int .u64 0, .int .u64 0] 39) from hO0.heap (heap_new' (by simp) _) (fun c => c))
  have HT0 := Lib.hid (HT.out.off hA0)
  have HO0 := Lib.hid hA0
  clear hA0 hO0 HT
  go_wp2_with fail
  refine (FG.out _ HT0.out).mono ?_
  rintro e u1 ⟨rfl, hO1⟩
  obtain ⟨W1, hW1⟩ : ∃ W1, W1 = u1.alloc (.cells #[.int .i64 id, .int .u64 (wd p 0 : Int), .int .u64 (wd p 1 : Int), .int .u64 (wd p 2 : Int), .int .u64 (wd p 3 : Int), .int .u64 (i : Int), .int .u64 (wd r 0 : Int), .int .u64 (wd r 1 : Int), .int .u64 (wd r 2 : Int), .int .u64 (wd r 3 : Int), .int .u64 (wd s 0 : Int), .int .u64 (wd s 1 : Int), .int .u64 (wd s 2 : Int), .int .u64 (wd s 3 : Int)] 42) := ⟨_, rfl⟩
  have hOW : Off (fun _ => False) u1 W1 := by rw [hW1]; exact (Off.refl _ u1).alloc _
  have HR0 := Lib.hid (hOW.heap (hO1.heap H0.out (fun c => c)) (fun c => c))
  have HR1 := Lib.hid (hOW.heap (hO1.heap H1.out (fun c => c)) (fun c => c))
  have hFn : W1.heap[u1.heap.size]? = some (.cells #[.int .i64 id, .int .u64 (wd p 0 : Int), .int .u64 (wd p 1 : Int), .int .u64 (wd p 2 : Int), .int .u64 (wd p 3 : Int), .int .u64 (i : Int), .int .u64 (wd r 0 : Int), .int .u64 (wd r 1 : Int), .int .u64 (wd r 2 : Int), .int .u64 (wd r 3 : Int), .int .u64 (wd s 0 : Int), .int .u64 (wd s 1 : Int), .int .u64 (wd s 2 : Int), .int .u64 (wd s 3 : Int)] 42) := by rw [hW1]; exact heap_new' rfl _
  have l1 := heap_lt (hO1.heap H1.out (fun c => c))
  have h01 : w.heap.size ≠ w.heap.size + 1 := by omega
  have HK : Hid (∀ W, Off (fun k => k = w.heap.size ∨ k = (w.heap.size + 1)) W1 W → (W.cell? ⟨u1.heap.size, 0, none⟩ = some (.int .i64 id) ∧ W.cell? ⟨u1.heap.size, 1, none⟩ = some (.int .u64 (wd p 0 : Int)) ∧ W.cell? ⟨u1.heap.size, 2, none⟩ = some (.int .u64 (wd p 1 : Int)) ∧ W.cell? ⟨u1.heap.size, 3, none⟩ = some (.int .u64 (wd p 2 : Int)) ∧ W.cell? ⟨u1.heap.size, 4, none⟩ = some (.int .u64 (wd p 3 : Int)) ∧ W.cell? ⟨u1.heap.size, 5, none⟩ = some (.int .u64 (i : Int)) ∧ W.cell? ⟨u1.heap.size, 6, none⟩ = some (.int .u64 (wd r 0 : Int)) ∧ W.cell? ⟨u1.heap.size, 7, none⟩ = some (.int .u64 (wd r 1 : Int)) ∧ W.cell? ⟨u1.heap.size, 8, none⟩ = some (.int .u64 (wd r 2 : Int)) ∧ W.cell? ⟨u1.heap.size, 9, none⟩ = some (.int .u64 (wd r 3 : Int)) ∧ W.cell? ⟨u1.heap.size, 10, none⟩ = some (.int .u64 (wd s 0 : Int)) ∧ W.cell? ⟨u1.heap.size, 11, none⟩ = some (.int .u64 (wd s 1 : Int)) ∧ W.cell? ⟨u1.heap.size, 12, none⟩ = some (.int .u64 (wd s 2 : Int)) ∧ W.cell? ⟨u1.heap.size, 13, none⟩ = some (.int .u64 (wd s 3 : Int))) ∧ Off (fun k => k = w.heap.size ∨ k = (w.heap.size + 1)) W1 W) := Lib.hid (fun W h => ⟨fv_cells (h.heap hFn (by omega)), h⟩)
  have HOf := Lib.hid ((HO0.out.trans hO1 (fun _ _ c => c)).trans hOW (fun _ _ c => c))
  have HW1 := Lib.hid hW1
  clear hO1 hOW hFn hW1 H0 H1 HT0 HO0 FG
  go_upto_region 2 with fail
  rw [← HW1.out]
  refine wp_region_inv (fun a0 l a' w' => ∃ (u12 : Value) (u13 : Value) (u14 : Value) (u15 : Value), a' = (Act.put (Act.put (Act.put (Act.put a0 (some 12) u12) (some 13) u13) (some 14) u14) (some 15) u15) ∧ Slot l 0 u12 (FV id p i r s) ∧ Slot l 1 u13 (.bool t) ∧ Slot l 2 u14 (.int .i64 id) ∧ Slot l 3 u15 (V p) ∧ Old l 4 w.heap.size W1 w' (.cells #[.int .i64 0, .int .u64 0, .int .u64 0, .int .u64 0, .int .u64 0, .int .u64 0, .int .u64 0, .int .u64 0, .int .u64 0, .int .u64 0, .int .u64 0, .int .u64 0, .int .u64 0, .int .u64 0] 42) (.cells #[.int .i64 id, .int .u64 (wd p 0 : Int), .int .u64 (wd p 1 : Int), .int .u64 (wd p 2 : Int), .int .u64 (wd p 3 : Int), .int .u64 (i : Int), .int .u64 (wd r 0 : Int), .int .u64 (wd r 1 : Int), .int .u64 (wd r 2 : Int), .int .u64 (wd r 3 : Int), .int .u64 (wd s 0 : Int), .int .u64 (wd s 1 : Int), .int .u64 (wd s 2 : Int), .int .u64 (wd s 3 : Int)] 42) ∧ Old l 5 (w.heap.size + 1) W1 w' (.cells #[.int .u64 0, .int .u64 0, .int .u64 0, .int .u64 0] 39) (.cells #[.int .u64 (wd p 0 : Int), .int .u64 (wd p 1 : Int), .int .u64 (wd p 2 : Int), .int .u64 (wd p 3 : Int)] 39) ∧ Off (fun k => k = w.heap.size ∨ k = (w.heap.size + 1)) W1 w') (by kernel_rfl) (by kernel_rfl) ?_ ⟨?_, ?_, ?_, ?_, ?_, ?_, trivial⟩ ?_
  · refine ⟨?z12, ?z13, ?z14, ?z15, ?fr, Slot.start _ _ _, Slot.start _ _ _, Slot.start _ _ _, Slot.start _ _ _, Old.start HR0.out _ _, Old.start HR1.out _ _, (Off.refl _ W1).drew⟩
    case fr => first | (simp only [Act.put, List.setIfInBounds_toArray, List.set_cons_zero, List.set_cons_succ]; rfl) | simp only [Act.put, List.setIfInBounds_toArray, List.set_cons_zero, List.set_cons_succ]
  · intro l a wr hI hl hd K' hK
    obtain ⟨u12, u13, u14, u15, ha, s0, s1, s2, s3, O0, O1, hO⟩ := hI
    simp only [Act.put, List.setIfInBounds_toArray, List.set_cons_zero, List.set_cons_succ] at ha
    subst ha
    have hc := HK.out wr hO
    have p0 := hc.1.1
    have p1 := hc.1.2.1
    have p2 := hc.1.2.2.1
    have p3 := hc.1.2.2.2.1
    have p4 := hc.1.2.2.2.2.1
    have p5 := hc.1.2.2.2.2.2.1
    have p6 := hc.1.2.2.2.2.2.2.1
    have p7 := hc.1.2.2.2.2.2.2.2.1
    have p8 := hc.1.2.2.2.2.2.2.2.2.1
    have p9 := hc.1.2.2.2.2.2.2.2.2.2.1
    have p10 := hc.1.2.2.2.2.2.2.2.2.2.2.1
    have p11 := hc.1.2.2.2.2.2.2.2.2.2.2.2.1
    have p12 := hc.1.2.2.2.2.2.2.2.2.2.2.2.2.1
    have p13 := hc.1.2.2.2.2.2.2.2.2.2.2.2.2.2
    clear hc
    go_simp
    refine hK.out _ _ ⟨_, _, _, _, ?_, Slot.new _ _ _, s1.keep rfl, s2.keep rfl, s3.keep rfl, O0.keep (Off.refl _ wr) rfl, O1.keep (Off.refl _ wr) rfl, hO⟩
    simp only [Act.put, List.setIfInBounds_toArray, List.set_cons_zero, List.set_cons_succ]
  · intro l a wr hI hl hd K' hK
    obtain ⟨u12, u13, u14, u15, ha, s0, s1, s2, s3, O0, O1, hO⟩ := hI
    simp only [Act.put, List.setIfInBounds_toArray, List.set_cons_zero, List.set_cons_succ] at ha
    subst ha
    go_simp
    refine hK.out _ _ ⟨_, _, _, _, ?_, s0.keep rfl, Slot.new _ _ _, s2.keep rfl, s3.keep rfl, O0.keep (Off.refl _ wr) rfl, O1.keep (Off.refl _ wr) rfl, hO⟩
    simp only [Act.put, List.setIfInBounds_toArray, List.set_cons_zero, List.set_cons_succ]
  · intro l a wr hI hl hd K' hK
    obtain ⟨u12, u13, u14, u15, ha, s0, s1, s2, s3, O0, O1, hO⟩ := hI
    simp only [Act.put, List.setIfInBounds_toArray, List.set_cons_zero, List.set_cons_succ] at ha
    have q1 := s1 (hd 1 (by decide))
    subst ha q1
    go_simp
    refine (held_inv (FI.out wr) hO).mono ?_
    rintro e w1 ⟨rfl, hO1, hOW⟩
    go_wp2_with fail
    refine hK.out _ _ ⟨_, _, _, _, ?_, s0.keep rfl, s1.keep rfl, Slot.new _ _ _, s3.keep rfl, O0.keep hOW rfl, O1.keep hOW rfl, hO1⟩
    simp only [Act.put, List.setIfInBounds_toArray, List.set_cons_zero, List.set_cons_succ]
  · intro l a wr hI hl hd K' hK
    obtain ⟨u12, u13, u14, u15, ha, s0, s1, s2, s3, O0, O1, hO⟩ := hI
    simp only [Act.put, List.setIfInBounds_toArray, List.set_cons_zero, List.set_cons_succ] at ha
    have q2 := s2 (hd 2 (by decide))
    subst ha q2
    go_simp
    refine (held_inv (FM.out wr) hO).mono ?_
    rintro e w1 ⟨rfl, hO1, hOW⟩
    go_wp2_with fail
    refine hK.out _ _ ⟨_, _, _, _, ?_, s0.keep rfl, s1.keep rfl, s2.keep rfl, Slot.new _ _ _, O0.keep hOW rfl, O1.keep hOW rfl, hO1⟩
    simp only [Act.put, List.setIfInBounds_toArray, List.set_cons_zero, List.set_cons_succ]
  · intro l a wr hI hl hd K' hK
    obtain ⟨u12, u13, u14, u15, ha, s0, s1, s2, s3, O0, O1, hO⟩ := hI
    simp only [Act.put, List.setIfInBounds_toArray, List.set_cons_zero, List.set_cons_succ] at ha
    have q0 := s0 (hd 0 (by decide))
    subst ha q0
    have fz := fun j => frozen_of_heap (O0.was hl) j
    have lt := heap_lt (O0.was hl)
    have hc := fv_cells (O0.was hl)
    have m0 := hc.1
    have m1 := hc.2.1
    have m2 := hc.2.2.1
    have m3 := hc.2.2.2.1
    have m4 := hc.2.2.2.2.1
    have m5 := hc.2.2.2.2.2.1
    have m6 := hc.2.2.2.2.2.2.1
    have m7 := hc.2.2.2.2.2.2.2.1
    have m8 := hc.2.2.2.2.2.2.2.2.1
    have m9 := hc.2.2.2.2.2.2.2.2.2.1
    have m10 := hc.2.2.2.2.2.2.2.2.2.2.1
    have m11 := hc.2.2.2.2.2.2.2.2.2.2.2.1
    have m12 := hc.2.2.2.2.2.2.2.2.2.2.2.2.1
    have m13 := hc.2.2.2.2.2.2.2.2.2.2.2.2.2
    clear hc
    go_simp
    refine hK.out _ _ ⟨_, _, _, _, ?_, s0.keep rfl, s1.keep rfl, s2.keep rfl, s3.keep rfl, O0.put hl rfl, O1.far (vs := [.int .i64 id, .int .u64 (wd p 0 : Int), .int .u64 (wd p 1 : Int), .int .u64 (wd p 2 : Int), .int .u64 (wd p 3 : Int), .int .u64 (i : Int), .int .u64 (wd r 0 : Int), .int .u64 (wd r 1 : Int), .int .u64 (wd r 2 : Int), .int .u64 (wd r 3 : Int), .int .u64 (wd s 0 : Int), .int .u64 (wd s 1 : Int), .int .u64 (wd s 2 : Int), .int .u64 (wd s 3 : Int)]) rfl (Ne.symm h01), setCells_in hO (fun _ => .inl rfl) [.int .i64 id, .int .u64 (wd p 0 : Int), .int .u64 (wd p 1 : Int), .int .u64 (wd p 2 : Int), .int .u64 (wd p 3 : Int), .int .u64 (i : Int), .int .u64 (wd r 0 : Int), .int .u64 (wd r 1 : Int), .int .u64 (wd r 2 : Int), .int .u64 (wd r 3 : Int), .int .u64 (wd s 0 : Int), .int .u64 (wd s 1 : Int), .int .u64 (wd s 2 : Int), .int .u64 (wd s 3 : Int)]⟩
    simp only [Act.put, List.setIfInBounds_toArray, List.set_cons_zero, List.set_cons_succ]
  · intro l a wr hI hl hd K' hK
    obtain ⟨u12, u13, u14, u15, ha, s0, s1, s2, s3, O0, O1, hO⟩ := hI
    simp only [Act.put, List.setIfInBounds_toArray, List.set_cons_zero, List.set_cons_succ] at ha
    have q3 := s3 (hd 3 (by decide))
    subst ha q3
    obtain ⟨⟨m0, m1, m2, m3⟩, fz, lt⟩ := zero_cells (O1.was hl)
    go_simp
    refine hK.out _ _ ⟨_, _, _, _, ?_, s0.keep rfl, s1.keep rfl, s2.keep rfl, s3.keep rfl, O0.far (vs := [.int .u64 (wd p 0 : Int), .int .u64 (wd p 1 : Int), .int .u64 (wd p 2 : Int), .int .u64 (wd p 3 : Int)]) rfl h01, O1.put hl rfl, setCells_in hO (fun _ => .inr (rfl)) [.int .u64 (wd p 0 : Int), .int .u64 (wd p 1 : Int), .int .u64 (wd p 2 : Int), .int .u64 (wd p 3 : Int)]⟩
    simp only [Act.put, List.setIfInBounds_toArray, List.set_cons_zero, List.set_cons_succ]
  · intro l a wc hI hd
    obtain ⟨u12, u13, u14, u15, ha, s0, s1, s2, s3, O0, O1, hO⟩ := hI
    simp only [Act.put, List.setIfInBounds_toArray, List.set_cons_zero, List.set_cons_succ] at ha
    have q0 := s0 (hd 0 (by decide))
    have q1 := s1 (hd 1 (by decide))
    have q2 := s2 (hd 2 (by decide))
    have q3 := s3 (hd 3 (by decide))
    have r0 : wc.heap[w.heap.size]? = some (.cells #[.int .i64 id, .int .u64 (wd p 0 : Int), .int .u64 (wd p 1 : Int), .int .u64 (wd p 2 : Int), .int .u64 (wd p 3 : Int), .int .u64 (i : Int), .int .u64 (wd r 0 : Int), .int .u64 (wd r 1 : Int), .int .u64 (wd r 2 : Int), .int .u64 (wd r 3 : Int), .int .u64 (wd s 0 : Int), .int .u64 (wd s 1 : Int), .int .u64 (wd s 2 : Int), .int .u64 (wd s 3 : Int)] 42) := O0.now (hd 4 (by decide))
    have r1 : wc.heap[(w.heap.size + 1)]? = some (.cells #[.int .u64 (wd p 0 : Int), .int .u64 (wd p 1 : Int), .int .u64 (wd p 2 : Int), .int .u64 (wd p 3 : Int)] 39) := O1.now (hd 5 (by decide))
    subst ha q0 q1 q2 q3
    clear hd s0 s1 s2 s3 O0 O1
    obtain ⟨f0, f1, f2, f3, f4, f5, f6, f7, f8, f9, f10, f11, f12, f13⟩ := fv_cells r0
    obtain ⟨g0, g1, g2, g3⟩ := cells4 r1
    have HOg := Lib.hid (HOf.out.trans hO (fun k hk e => by rcases e with e | e <;> omega))
    clear r0 r1 hO
    go_wp2
    exact bodyPost_ret (v := .tuple #[FV id p i r s, V p]) (by simp [results, Tryd.results15, go_sem, f0, f1, f2, f3, f4, f5, f6, f7, f8, f9, f10, f11, f12, f13, g0, g1, g2, g3]) rfl ⟨rfl, HOg.out⟩

theorem zeroCells_by (v : Value) (n : Nat) : (Builtin.zeroCells #[v] n).toList = List.replicate n v := by
  apply List.ext_getElem?
  intro k
  by_cases hk : k < n <;> simp [Builtin.zeroCells, hk, Nat.mod_one]
/-- 70 zeros put behind one byte. -/
theorem app_zeros70 {w : World} {g : Nat} {x : Nat} (hg : w.heap[g]? = some (.cells #[.int .u8 (x : Int)] 5 (0, 0))) :
    ∃ v' w', (Builtin.append_ #[22, 3] 22 #[.slice (some ⟨g, 0, none⟩) 1 1, .int .i64 70]).run Tryd.prog w = .ok v' w' ∧ SvAt w' v' (x :: List.replicate 70 0) ∧ Off (fun _ => False) w w' := by
  obtain ⟨i0, hi, hz0, hz1, hz2⟩ := info_parts byte_info
  have hold : (Builtin.firstCells i0.size 1 (.slice (some ⟨g, 0, none⟩) 1 1)).run Tryd.prog w.drew = .ok [Value.int .u8 (x : Int)].toArray w.drew := by
    rw [hz1]
    exact run_firstCells_some w.drew 1 1 ⟨g, 0, none⟩ 1 1 [Value.int .u8 (x : Int)] rfl (fun j u hj => by
      have h1 : j < 1 := (List.getElem?_eq_some_iff.1 hj).1
      obtain rfl : j = 0 := by omega
      rw [Addr.add_lit, Nat.zero_add]
      show w.cell? ⟨g, 0, none⟩ = some u
      rw [cell_of_heap hg]
      exact hj)
  have hr := run_append_grow_zeros (P := Tryd.prog) w 22 3 22 5 i0 _ .i64 .i64 Tryd.underlying22 Tryd.underlying3 hi hz0 (some ⟨g, 0, none⟩) 1 1 [Value.int .u8 (x : Int)] hold 70 (by omega) (by rw [hz1]; decide) (by omega) (by omega) (by rw [hz2]; omega) (growslice_fits (by omega) (by rw [hz2]; omega))
  refine ⟨_, _, hr, ⟨_, _, _, rfl, by simp, grownCap_ge w (1 + 70) 1 5, ?_⟩, ((Off.refl _ w).drew).alloc _⟩
  intro _
  refine ⟨w.heap.size, 0, rfl, trivial, fun j y hj => ?_⟩
  rw [Nat.zero_add]
  have hjl : j < 71 := by have := (List.getElem?_eq_some_iff.1 hj).1; simpa using this
  have hnew := heap_alloc_new w.drew (Obj.cells ([Value.int .u8 (x : Int)].toArray ++ Builtin.zeroCells (Value.int .u8 0).cells 70 ++ Builtin.zeroCells (Value.int .u8 0).cells (grownCap w (1 + 70) 1 5 - (1 + 70))) 5)
  have hc := cell_of_heap hnew j
  refine hc.trans ?_
  have hz := zeroCells_by (Value.int .u8 0) 70
  rw [show #[Value.int .u8 0] = (Value.int .u8 0).cells from rfl] at hz
  rw [← Array.getElem?_toList, Array.toList_append, Array.toList_append, hz, List.getElem?_append_left (by simp; omega)]
  have h0 : [Value.int .u8 (x : Int)].toArray.toList ++ List.replicate 70 (Value.int .u8 0) = (x :: List.replicate 70 0).map u8v := by simp [u8v]
  rw [h0, List.getElem?_map, hj]; rfl
theorem lit_by {W : World} {b : Nat} {T : TypeId} {xs : List Nat} (h : W.heap[b]? = some (.cells (xs.map u8v).toArray T (0, 0))) : BsAt W (some ⟨b, 0, none⟩) xs (fun j => j = b) := BsAt.of_blk (S := fun j => j = b) h rfl
/-- The first element of 1 and zeros. -/
theorem elem_one : elemV (1 :: List.replicate 70 0) = (1, 0, List.replicate 7 0) := by
  unfold elemV
  rw [if_pos (by decide), show elB (1 :: List.replicate 70 0) 0 = 1 by decide]
  rfl
theorem one_num : elB (1 :: List.replicate 70 0) 0 = 1 := by decide
theorem RowT.offB {T : TypeId} {f : Nat → Value} {B : Nat} {W W' : World} {v : Value} {xs : List Nat} {S : Nat → Prop} (h : RowT T f B W v xs) (ho : Off S W W') (hd : ∀ k, B ≤ k → ¬ S k) : RowT T f B W' v xs := h.off ho (fun k ek => hd k (World.ownsRow.lt h k ek).1)
/-- Equality of elements. -/
theorem eql_elem (a b c d : Int) (w : World) : (binOp .eql 40 (.agg #[.int .u64 a, .int .u64 b, .int .u64 c, .int .u64 d]) (.agg #[.int .u64 a, .int .u64 b, .int .u64 c, .int .u64 d])).run Tryd.prog w = .ok (.bool true) w := by
  rw [run_eql_struct, equalIn_elem]; simp
theorem row_sv14 {w : World} {B : Nat} {v : Value} {xs : List Nat} (h : RowY B w v xs) : SvAt w v xs := by
  obtain ⟨a, cap, hv, hc, hb⟩ := h.at
  exact ⟨a, _, cap, hv, rfl, hc, hb.mono fun _ _ _ => trivial⟩
set_option maxRecDepth 100000 in
set_option maxHeartbeats 4000000 in
theorem alive14_any (w : World) (hT : TabAt w) : Calls Tryd.prog 9 #[] w fun e w' => e = .returned (.bool true) ∧ Off (fun _ => False) w w' := by
  obtain ⟨id, p, i, r, s, hF, hid⟩ := fld_of false
  have FG := Lib.hid (get14_any false hF hid w hT)
  have HF := Lib.hid hF
  clear hF hid hT
  go_enter Tryd.func9, Tryd.ntmps9
  go_wp2_with fail
  refine FG.out.mono ?_
  rintro e u0 ⟨rfl, hO⟩
  have HO0 := Lib.hid hO
  clear hO FG
  have HK : Hid (∀ W, Off (fun j => u0.heap.size + 2 ≤ j) ((u0.alloc (.cells #[.int .i64 id, .int .u64 (wd p 0 : Int), .int .u64 (wd p 1 : Int), .int .u64 (wd p 2 : Int), .int .u64 (wd p 3 : Int), .int .u64 (i : Int), .int .u64 (wd r 0 : Int), .int .u64 (wd r 1 : Int), .int .u64 (wd r 2 : Int), .int .u64 (wd r 3 : Int), .int .u64 (wd s 0 : Int), .int .u64 (wd s 1 : Int), .int .u64 (wd s 2 : Int), .int .u64 (wd s 3 : Int)] 42)).alloc (.cells #[.int .u64 (wd p 0 : Int), .int .u64 (wd p 1 : Int), .int .u64 (wd p 2 : Int), .int .u64 (wd p 3 : Int)] 39)) W → W.heap[u0.heap.size]? = some (.cells #[.int .i64 id, .int .u64 (wd p 0 : Int), .int .u64 (wd p 1 : Int), .int .u64 (wd p 2 : Int), .int .u64 (wd p 3 : Int), .int .u64 (i : Int), .int .u64 (wd r 0 : Int), .int .u64 (wd r 1 : Int), .int .u64 (wd r 2 : Int), .int .u64 (wd r 3 : Int), .int .u64 (wd s 0 : Int), .int .u64 (wd s 1 : Int), .int .u64 (wd s 2 : Int), .int .u64 (wd s 3 : Int)] 42)) := Lib.hid (fun W h => h.heap (heap_old' (heap_new' rfl _) _) (by omega))
  obtain ⟨W0, hW0⟩ : ∃ W0, W0 = ((u0.alloc (.cells #[.int .i64 id, .int .u64 (wd p 0 : Int), .int .u64 (wd p 1 : Int), .int .u64 (wd p 2 : Int), .int .u64 (wd p 3 : Int), .int .u64 (i : Int), .int .u64 (wd r 0 : Int), .int .u64 (wd r 1 : Int), .int .u64 (wd r 2 : Int), .int .u64 (wd r 3 : Int), .int .u64 (wd s 0 : Int), .int .u64 (wd s 1 : Int), .int .u64 (wd s 2 : Int), .int .u64 (wd s 3 : Int)] 42)).alloc (.cells #[.int .u64 (wd p 0 : Int), .int .u64 (wd p 1 : Int), .int .u64 (wd p 2 : Int), .int .u64 (wd p 3 : Int)] 39)) := ⟨_, rfl⟩
  have hs0 : W0.heap.size = u0.heap.size + 2 := by rw [hW0]; simp
  have hOw : Off (fun _ => False) w W0 := by rw [hW0]; exact HO0.out.trans (((Off.refl _ u0).alloc _).alloc _) (fun _ _ c => c)
  rw [← hW0] at HK
  have HW0 := Lib.hid hW0
  have HS0 := Lib.hid hs0
  have HOw := Lib.hid hOw
  clear hW0 hs0 hOw
  have hA0 : (W0.alloc (.cells #[.int .u8 1, .int .u8 2, .int .u8 3] 5)).heap[W0.heap.size]? = some (.cells (([1, 2, 3] : List Nat).map u8v).toArray 5 (0, 0)) := heap_new' rfl _
  have FN1 := Lib.hid (new_any _ 3 3 _ _ _ (lit_by hA0) rfl (Nat.le_refl _) (by unfold Small; decide) (by decide))
  clear hA0
  go_wp2_with fail
  rw [← HW0.out]
  have hs0 := HS0.out
  rw [show u0.heap.size + 1 + 1 = W0.heap.size by omega]
  refine FN1.out.mono ?_
  rintro e u1 ⟨b1, S1, rfl, hP1, hS1, hO1⟩
  have HO1 := Lib.hid (((Off.refl (fun _ => False) W0).alloc _).trans hO1 (fun _ _ c => c))
  have HP1 := Lib.hid hP1
  have HS1 := Lib.hid (fun k (h : S1 k) => (by have := hS1 k h; simp at this; omega : W0.heap.size < k))
  clear hP1 hS1 hO1 FN1
  have hA1 : (u1.alloc (.cells #[.int .u8 1] 5)).heap[u1.heap.size]? = some (.cells #[.int .u8 ((1 : Nat) : Int)] 5 (0, 0)) := heap_new' rfl _
  obtain ⟨va, wa, hrun, ⟨aa, na, ca, rfl, hna, hca, hba⟩, hOa⟩ := app_zeros70 hA1
  have HRun := Lib.hid hrun
  have FN2 := Lib.hid (new_any aa na ca _ _ wa hba hna hca (by unfold Small; decide) (by rw [hna]; decide))
  have HOa := Lib.hid (((Off.refl (fun _ => False) u1).alloc _).trans hOa (fun _ _ c => c))
  clear hA1 hrun hba hna hca hOa
  go_wp2_with first | (at_builtin; refine Go.Lib.wpList_append_run _ rfl _ _ _ _ rfl _ _ rfl rfl _ _ HRun.out ?_) | fail
  refine FN2.out.mono ?_
  rintro e u2 ⟨b2, S2, rfl, hP2, hS2, hO2⟩
  have hO12 := HOa.out.trans hO2 (fun _ _ c => c)
  have HP12 := Lib.hid (HP1.out.keep hO12)
  have HP2 := Lib.hid hP2
  have HO2 := Lib.hid (HO1.out.trans hO12 (fun _ _ c => c))
  have HD := Lib.hid (fun k (h1 : S1 k) (h2 : S2 k) => (by have := HP1.out.lt k h1; have := hS2 k h2; have := HOa.out.size; omega : False))
  have HS2 := Lib.hid (fun k (h : S2 k) => (by have := hS2 k h; have := HOa.out.size; have := HO1.out.size; omega : W0.heap.size ≤ k))
  clear hP2 hS2 hO2 hO12 FN2 HRun HOa
  go_wp2_with fail
  refine (take_any b1 [1, 2, 3] S1 2 (by decide) _ HP12.out (by decide)).mono ?_
  rw [show takeV [1, 2, 3] 2 = ([1, 2], 0, [3]) from rfl]
  rintro e u3 ⟨v3, rfl, hR3, hP3, hO3⟩
  dsimp only at hR3 hP3
  have HR3 := Lib.hid hR3
  have HP3 := Lib.hid hP3
  have HP23 := Lib.hid (HP2.out.off hO3 (fun k _ h e => HD.out k (e ▸ HP12.out.mem) h))
  have HO3 := Lib.hid ((HO2.out.mono (S' := fun j => u0.heap.size + 2 ≤ j) (fun _ _ c => c.elim)).trans hO3 (fun k hk e => by have := HS1.out b1 HP12.out.mem; have := HS0.out; omega))
  clear hR3 hP3 hO3
  go_wp2_with fail
  refine (take_any b1 [3] S1 2 (by decide) _ HP3.out (by decide)).mono ?_
  rw [show takeV [3] 2 = ([], 7, [3]) from rfl]
  rintro e u4 ⟨v4, rfl, hR4, hP4, hO4⟩
  have HP24 := Lib.hid (HP23.out.off hO4 (fun k _ h e => HD.out k (e ▸ HP12.out.mem) h))
  have HR34 := Lib.hid (RowT.offB HR3.out hO4 (fun k h e => by have := HP12.out.lt b1 HP12.out.mem; omega))
  have HO4 := Lib.hid (HO3.out.trans hO4 (fun k hk e => by have := HS1.out b1 HP12.out.mem; have := HS0.out; omega))
  clear hR4 hP4 hO4
  obtain ⟨f0, f1, f2, f3, f4, f5, f6, f7, f8, f9, f10, f11, f12, f13⟩ := fv_cells (HK.out _ HO4.out)
  have hlt := heap_lt (HK.out _ HO4.out)
  go_wp2_with fail
  refine (elem_any HF.out b2 _ S2 _ HP24.out (by decide)).mono ?_
  rw [elem_one]
  rintro e u5 ⟨rfl, hP5, hO5⟩
  dsimp only at hP5
  have hr1 : fm p 1 = r := by unfold fm; rw [Nat.mul_one, HF.out.rr]; unfold radV; exact Nat.mod_mod _ _
  rw [hr1]
  have HP5 := Lib.hid hP5
  have HR35 := Lib.hid (row_sv14 (RowT.offB HR34.out hO5 (fun k h e => by have := HP2.out.lt b2 HP2.out.mem; omega)))
  have HO5 := Lib.hid (HO4.out.trans hO5 (fun k hk e => by have := HS2.out b2 HP2.out.mem; omega))
  clear hP5 hO5 hr1
  have hB : ((u5.alloc (.cells #[.int .u64 (wd r 0 : Int), .int .u64 (wd r 1 : Int), .int .u64 (wd r 2 : Int), .int .u64 (wd r 3 : Int)] 40)).alloc (.cells #[.int .u8 1, .int .u8 2] 5)).heap[u5.heap.size + 1]? = some (.cells (([1, 2] : List Nat).map u8v).toArray 5 (0, 0)) := heap_new' (by simp) _
  have FE := Lib.hid (bequal_sv (HR35.out.off (((Off.refl _ u5).alloc _).alloc _)) ⟨_, _, 2, rfl, rfl, Nat.le_refl _, (lit_by hB).mono (fun _ _ _ => trivial)⟩)
  clear hB
  go_wp2_with fail
  refine FE.out.mono ?_
  rintro e u6 ⟨rfl, hO6⟩
  have h5 : u6.heap[u5.heap.size]? = some (.cells #[.int .u64 (wd r 0 : Int), .int .u64 (wd r 1 : Int), .int .u64 (wd r 2 : Int), .int .u64 (wd r 3 : Int)] 40) := hO6.heap (heap_old' (heap_new' rfl _) _) (fun c => c)
  obtain ⟨x0, x1, x2, x3⟩ := cells4 h5
  have HO6 := Lib.hid (HO5.out.trans ((((Off.refl (fun _ => False) u5).alloc _).alloc _).trans hO6 (fun _ _ c => c)) (fun _ _ c => c.elim))
  have HP6 := Lib.hid (HP5.out.keep ((((Off.refl (fun _ => False) u5).alloc _).alloc _).trans hO6 (fun _ _ c => c)))
  clear f0 f1 f2 f3 f4 f5 f6 f7 f8 f9 f10 f11 f12 f13 hlt
  obtain ⟨f0, f1, f2, f3, f4, f5, f6, f7, f8, f9, f10, f11, f12, f13⟩ := fv_cells (HK.out _ HO6.out)
  have hlt := heap_lt (HK.out _ HO6.out)
  have hlt5 := heap_lt h5
  clear h5 hO6 FE
  have he := fun W => eql_elem (wd r 0 : Int) (wd r 1 : Int) (wd r 2 : Int) (wd r 3 : Int) W
  go_wp2_with fail
  refine (left_any b2 _ S2 _ HP6.out).mono ?_
  rintro e u7 ⟨rfl, hO7⟩
  have HO7 := Lib.hid (HO6.out.trans hO7 (fun _ _ c => c.elim))
  clear hO7
  go_wp2
  go_ret
  exact ⟨rfl, HOw.out.trans HO7.out (fun k hk h => by have := HOw.out.size; have := HS0.out; omega)⟩
end Go.Proofs.YtpiialjnjfkfeaaDoor
