/-
  The statements' own get and same of layer 13 over this seat's translation. Conditions: the table of fields lies in memory as it was laid; the numbers are numbers of four words.
-/
import Derived.Test.YtllhfkcgocbblaaDoorElRows
import Derived.Test.YtllhfkcgocbblaaDoorFieldGet
import Derived.Test.YtllhfkcgocbblaaDoorMontRef
namespace Go.Proofs.YtllhfkcgocbblaaDoor
open Go.RowKit
attribute [local go_sem ↓] Go.wp_at_zero Go.wp_at_succ
set_option maxRecDepth 100000 in
set_option maxHeartbeats 4000000 in
theorem get13_any (t : Bool) {id : Int} {p i r s : Nat} (hF : Fld id p i r s) (hid : id = idB t) (w : World) (hT : TabAt w) :
    Calls Tryd.prog 12 #[.bool t] w fun e w' => e = .returned (.tuple #[FV id p i r s, V p]) ∧ Off (fun _ => False) w w' := by
  have qI := fun W => id_any t W
  rw [← hid] at qI
  have qG := fun W hT => fget_in id p hF.mp.lt hF.mp.one hF.mod W hT
  rw [← hF.ss, ← hF.ii, ← hF.rr] at qG
  have qM := fun W => mod_modulus id W
  rw [hF.mod] at qM
  have FI := Lib.hid qI
  have FG := Lib.hid qG
  have FM := Lib.hid qM
  have HT := Lib.hid hT
  clear qI qG qM hF hid hT
  go_enter Tryd.func12, Tryd.ntmps12
  go_wp2_with fail
  refine (FI.out _).mono ?_
  rintro e u0 ⟨rfl, hO0⟩
  have hA0 : Off (fun _ => False) w u0 := ((Off.refl _ w).alloc _).alloc _ |>.trans hO0 (fun _ _ c => c)
  have H0 := Lib.hid (show u0.heap[w.heap.size]? = some (.cells #[.int .i64 0, .int .u64 0, .int .u64 0, .int .u64 0, .int .u64 0, .int .u64 0, .int .u64 0, .int .u64 0, .int .u64 0, .int .u64 0, .int .u64 0, .int .u64 0, .int .u64 0, .int .u64 0] 30) from hO0.heap (heap_old' (heap_new' rfl _) _) (fun c => c))
  have H1 := Lib.hid (show u0.heap[w.heap.size + 1]? = some (.cells #[.int .u64 0, .int .u64 0, .int .u64 0, .int .u64 0] 27) from hO0.heap (heap_new' (by simp) _) (fun c => c))
  have HT0 := Lib.hid (HT.out.off hA0)
  have HO0 := Lib.hid hA0
  clear hA0 hO0 HT
  go_wp2_with fail
  refine (FG.out _ HT0.out).mono ?_
  rintro e u1 ⟨rfl, hO1⟩
  obtain ⟨W1, hW1⟩ : ∃ W1, W1 = u1.alloc (.cells #[.int .i64 id, .int .u64 (wd p 0 : Int), .int .u64 (wd p 1 : Int), .int .u64 (wd p 2 : Int), .int .u64 (wd p 3 : Int), .int .u64 (i : Int), .int .u64 (wd r 0 : Int), .int .u64 (wd r 1 : Int), .int .u64 (wd r 2 : Int), .int .u64 (wd r 3 : Int), .int .u64 (wd s 0 : Int), .int .u64 (wd s 1 : Int), .int .u64 (wd s 2 : Int), .int .u64 (wd s 3 : Int)] 30) := ⟨_, rfl⟩
  have hOW : Off (fun _ => False) u1 W1 := by rw [hW1]; exact (Off.refl _ u1).alloc _
  have HR0 := Lib.hid (hOW.heap (hO1.heap H0.out (fun c => c)) (fun c => c))
  have HR1 := Lib.hid (hOW.heap (hO1.heap H1.out (fun c => c)) (fun c => c))
  have hFn : W1.heap[u1.heap.size]? = some (.cells #[.int .i64 id, .int .u64 (wd p 0 : Int), .int .u64 (wd p 1 : Int), .int .u64 (wd p 2 : Int), .int .u64 (wd p 3 : Int), .int .u64 (i : Int), .int .u64 (wd r 0 : Int), .int .u64 (wd r 1 : Int), .int .u64 (wd r 2 : Int), .int .u64 (wd r 3 : Int), .int .u64 (wd s 0 : Int), .int .u64 (wd s 1 : Int), .int .u64 (wd s 2 : Int), .int .u64 (wd s 3 : Int)] 30) := by rw [hW1]; exact heap_new' rfl _
  have l1 := heap_lt (hO1.heap H1.out (fun c => c))
  have h01 : w.heap.size ≠ w.heap.size + 1 := by omega
  have HK : Hid (∀ W, Off (fun k => k = w.heap.size ∨ k = (w.heap.size + 1)) W1 W → (W.cell? ⟨u1.heap.size, 0, none⟩ = some (.int .i64 id) ∧ W.cell? ⟨u1.heap.size, 1, none⟩ = some (.int .u64 (wd p 0 : Int)) ∧ W.cell? ⟨u1.heap.size, 2, none⟩ = some (.int .u64 (wd p 1 : Int)) ∧ W.cell? ⟨u1.heap.size, 3, none⟩ = some (.int .u64 (wd p 2 : Int)) ∧ W.cell? ⟨u1.heap.size, 4, none⟩ = some (.int .u64 (wd p 3 : Int)) ∧ W.cell? ⟨u1.heap.size, 5, none⟩ = some (.int .u64 (i : Int)) ∧ W.cell? ⟨u1.heap.size, 6, none⟩ = some (.int .u64 (wd r 0 : Int)) ∧ W.cell? ⟨u1.heap.size, 7, none⟩ = some (.int .u64 (wd r 1 : Int)) ∧ W.cell? ⟨u1.heap.size, 8, none⟩ = some (.int .u64 (wd r 2 : Int)) ∧ W.cell? ⟨u1.heap.size, 9, none⟩ = some (.int .u64 (wd r 3 : Int)) ∧ W.cell? ⟨u1.heap.size, 10, none⟩ = some (.int .u64 (wd s 0 : Int)) ∧ W.cell? ⟨u1.heap.size, 11, none⟩ = some (.int .u64 (wd s 1 : Int)) ∧ W.cell? ⟨u1.heap.size, 12, none⟩ = some (.int .u64 (wd s 2 : Int)) ∧ W.cell? ⟨u1.heap.size, 13, none⟩ = some (.int .u64 (wd s 3 : Int))) ∧ Off (fun k => k = w.heap.size ∨ k = (w.heap.size + 1)) W1 W) := Lib.hid (fun W h => ⟨fv_cells (h.heap hFn (by omega)), h⟩)
  have HOf := Lib.hid ((HO0.out.trans hO1 (fun _ _ c => c)).trans hOW (fun _ _ c => c))
  have HW1 := Lib.hid hW1
  clear hO1 hOW hFn hW1 H0 H1 HT0 HO0 FG
  go_upto_region 2 with fail
  rw [← HW1.out]
  refine wp_region_inv (fun a0 l a' w' => ∃ (u12 : Value) (u13 : Value) (u14 : Value) (u15 : Value), a' = (Act.put (Act.put (Act.put (Act.put a0 (some 12) u12) (some 13) u13) (some 14) u14) (some 15) u15) ∧ Slot l 0 u12 (FV id p i r s) ∧ Slot l 1 u13 (.bool t) ∧ Slot l 2 u14 (.int .i64 id) ∧ Slot l 3 u15 (V p) ∧ Old l 4 w.heap.size W1 w' (.cells #[.int .i64 0, .int .u64 0, .int .u64 0, .int .u64 0, .int .u64 0, .int .u64 0, .int .u64 0, .int .u64 0, .int .u64 0, .int .u64 0, .int .u64 0, .int .u64 0, .int .u64 0, .int .u64 0] 30) (.cells #[.int .i64 id, .int .u64 (wd p 0 : Int), .int .u64 (wd p 1 : Int), .int .u64 (wd p 2 : Int), .int .u64 (wd p 3 : Int), .int .u64 (i : Int), .int .u64 (wd r 0 : Int), .int .u64 (wd r 1 : Int), .int .u64 (wd r 2 : Int), .int .u64 (wd r 3 : Int), .int .u64 (wd s 0 : Int), .int .u64 (wd s 1 : Int), .int .u64 (wd s 2 : Int), .int .u64 (wd s 3 : Int)] 30) ∧ Old l 5 (w.heap.size + 1) W1 w' (.cells #[.int .u64 0, .int .u64 0, .int .u64 0, .int .u64 0] 27) (.cells #[.int .u64 (wd p 0 : Int), .int .u64 (wd p 1 : Int), .int .u64 (wd p 2 : Int), .int .u64 (wd p 3 : Int)] 27) ∧ Off (fun k => k = w.heap.size ∨ k = (w.heap.size + 1)) W1 w') (by kernel_rfl) (by kernel_rfl) ?_ ⟨?_, ?_, ?_, ?_, ?_, ?_, trivial⟩ ?_
  · refine ⟨?z12, ?z13, ?z14, ?z15, ?fr, Slot.start _ _ _, Slot.start _ _ _, Slot.start _ _ _, Slot.start _ _ _, Old.start HR0.out _ _, Old.start HR1.out _ _, (Off.refl _ W1).drew⟩
    case fr => first | (simp only [Act.put, List.setIfInBounds_toArray, List.set_cons_zero, List.set_cons_succ]; rfl) | simp only [Act.put, List.setIfInBounds_toArray, List.set_cons_zero, List.set_cons_succ]
  · intro l a wr hI hl hd K' hK
    obtain ⟨u12, u13, u14, u15, ha, s0, s1, s2, s3, O0, O1, hO⟩ := hI
    simp only [Act.put, List.setIfInBounds_toArray, List.set_cons_zero, List.set_cons_succ] at ha
    subst ha
    have hc := HK.out wr hO
    have p0 := hc.1.1
    have p1 := hc.1.2.1
    have p2 := hc.1.2.2.1
    have p3 := hc.1.2.2.2.1
    have p4 := hc.1.2.2.2.2.1
    have p5 := hc.1.2.2.2.2.2.1
    have p6 := hc.1.2.2.2.2.2.2.1
    have p7 := hc.1.2.2.2.2.2.2.2.1
    have p8 := hc.1.2.2.2.2.2.2.2.2.1
    have p9 := hc.1.2.2.2.2.2.2.2.2.2.1
    have p10 := hc.1.2.2.2.2.2.2.2.2.2.2.1
    have p11 := hc.1.2.2.2.2.2.2.2.2.2.2.2.1
    have p12 := hc.1.2.2.2.2.2.2.2.2.2.2.2.2.1
    have p13 := hc.1.2.2.2.2.2.2.2.2.2.2.2.2.2
    clear hc
    go_simp
    refine hK.out _ _ ⟨_, _, _, _, ?_, Slot.new _ _ _, s1.keep rfl, s2.keep rfl, s3.keep rfl, O0.keep (Off.refl _ wr) rfl, O1.keep (Off.refl _ wr) rfl, hO⟩
    simp only [Act.put, List.setIfInBounds_toArray, List.set_cons_zero, List.set_cons_succ]
  · intro l a wr hI hl hd K' hK
    obtain ⟨u12, u13, u14, u15, ha, s0, s1, s2, s3, O0, O1, hO⟩ := hI
    simp only [Act.put, List.setIfInBounds_toArray, List.set_cons_zero, List.set_cons_succ] at ha
    subst ha
    go_simp
    refine hK.out _ _ ⟨_, _, _, _, ?_, s0.keep rfl, Slot.new _ _ _, s2.keep rfl, s3.keep rfl, O0.keep (Off.refl _ wr) rfl, O1.keep (Off.refl _ wr) rfl, hO⟩
    simp only [Act.put, List.setIfInBounds_toArray, List.set_cons_zero, List.set_cons_succ]
  · intro l a wr hI hl hd K' hK
    obtain ⟨u12, u13, u14, u15, ha, s0, s1, s2, s3, O0, O1, hO⟩ := hI
    simp only [Act.put, List.setIfInBounds_toArray, List.set_cons_zero, List.set_cons_succ] at ha
    have q1 := s1 (hd 1 (by decide))
    subst ha q1
    go_simp
    refine (held_inv (FI.out wr) hO).mono ?_
    rintro e w1 ⟨rfl, hO1, hOW⟩
    go_wp2_with fail
    refine hK.out _ _ ⟨_, _, _, _, ?_, s0.keep rfl, s1.keep rfl, Slot.new _ _ _, s3.keep rfl, O0.keep hOW rfl, O1.keep hOW rfl, hO1⟩
    simp only [Act.put, List.setIfInBounds_toArray, List.set_cons_zero, List.set_cons_succ]
  · intro l a wr hI hl hd K' hK
    obtain ⟨u12, u13, u14, u15, ha, s0, s1, s2, s3, O0, O1, hO⟩ := hI
    simp only [Act.put, List.setIfInBounds_toArray, List.set_cons_zero, List.set_cons_succ] at ha
    have q2 := s2 (hd 2 (by decide))
    subst ha q2
    go_simp
    refine (held_inv (FM.out wr) hO).mono ?_
    rintro e w1 ⟨rfl, hO1, hOW⟩
    go_wp2_with fail
    refine hK.out _ _ ⟨_, _, _, _, ?_, s0.keep rfl, s1.keep rfl, s2.keep rfl, Slot.new _ _ _, O0.keep hOW rfl, O1.keep hOW rfl, hO1⟩
    simp only [Act.put, List.setIfInBounds_toArray, List.set_cons_zero, List.set_cons_succ]
  · intro l a wr hI hl hd K' hK
    obtain ⟨u12, u13, u14, u15, ha, s0, s1, s2, s3, O0, O1, hO⟩ := hI
    simp only [Act.put, List.setIfInBounds_toArray, List.set_cons_zero, List.set_cons_succ] at ha
    have q0 := s0 (hd 0 (by decide))
    subst ha q0
    have fz := fun j => frozen_of_heap (O0.was hl) j
    have lt := heap_lt (O0.was hl)
    have hc := fv_cells (O0.was hl)
    have m0 := hc.1
    have m1 := hc.2.1
    have m2 := hc.2.2.1
    have m3 := hc.2.2.2.1
    have m4 := hc.2.2.2.2.1
    have m5 := hc.2.2.2.2.2.1
    have m6 := hc.2.2.2.2.2.2.1
    have m7 := hc.2.2.2.2.2.2.2.1
    have m8 := hc.2.2.2.2.2.2.2.2.1
    have m9 := hc.2.2.2.2.2.2.2.2.2.1
    have m10 := hc.2.2.2.2.2.2.2.2.2.2.1
    have m11 := hc.2.2.2.2.2.2.2.2.2.2.2.1
    have m12 := hc.2.2.2.2.2.2.2.2.2.2.2.2.1
    have m13 := hc.2.2.2.2.2.2.2.2.2.2.2.2.2
    clear hc
    go_simp
    refine hK.out _ _ ⟨_, _, _, _, ?_, s0.keep rfl, s1.keep rfl, s2.keep rfl, s3.keep rfl, O0.put hl rfl, O1.far (vs := [.int .i64 id, .int .u64 (wd p 0 : Int), .int .u64 (wd p 1 : Int), .int .u64 (wd p 2 : Int), .int .u64 (wd p 3 : Int), .int .u64 (i : Int), .int .u64 (wd r 0 : Int), .int .u64 (wd r 1 : Int), .int .u64 (wd r 2 : Int), .int .u64 (wd r 3 : Int), .int .u64 (wd s 0 : Int), .int .u64 (wd s 1 : Int), .int .u64 (wd s 2 : Int), .int .u64 (wd s 3 : Int)]) rfl (Ne.symm h01), setCells_in hO (fun _ => .inl rfl) [.int .i64 id, .int .u64 (wd p 0 : Int), .int .u64 (wd p 1 : Int), .int .u64 (wd p 2 : Int), .int .u64 (wd p 3 : Int), .int .u64 (i : Int), .int .u64 (wd r 0 : Int), .int .u64 (wd r 1 : Int), .int .u64 (wd r 2 : Int), .int .u64 (wd r 3 : Int), .int .u64 (wd s 0 : Int), .int .u64 (wd s 1 : Int), .int .u64 (wd s 2 : Int), .int .u64 (wd s 3 : Int)]⟩
    simp only [Act.put, List.setIfInBounds_toArray, List.set_cons_zero, List.set_cons_succ]
  · intro l a wr hI hl hd K' hK
    obtain ⟨u12, u13, u14, u15, ha, s0, s1, s2, s3, O0, O1, hO⟩ := hI
    simp only [Act.put, List.setIfInBounds_toArray, List.set_cons_zero, List.set_cons_succ] at ha
    have q3 := s3 (hd 3 (by decide))
    subst ha q3
    obtain ⟨⟨m0, m1, m2, m3⟩, fz, lt⟩ := zero_cells (O1.was hl)
    go_simp
    refine hK.out _ _ ⟨_, _, _, _, ?_, s0.keep rfl, s1.keep rfl, s2.keep rfl, s3.keep rfl, O0.far (vs := [.int .u64 (wd p 0 : Int), .int .u64 (wd p 1 : Int), .int .u64 (wd p 2 : Int), .int .u64 (wd p 3 : Int)]) rfl h01, O1.put hl rfl, setCells_in hO (fun _ => .inr (rfl)) [.int .u64 (wd p 0 : Int), .int .u64 (wd p 1 : Int), .int .u64 (wd p 2 : Int), .int .u64 (wd p 3 : Int)]⟩
    simp only [Act.put, List.setIfInBounds_toArray, List.set_cons_zero, List.set_cons_succ]
  · intro l a wc hI hd
    obtain ⟨u12, u13, u14, u15, ha, s0, s1, s2, s3, O0, O1, hO⟩ := hI
    simp only [Act.put, List.setIfInBounds_toArray, List.set_cons_zero, List.set_cons_succ] at ha
    have q0 := s0 (hd 0 (by decide))
    have q1 := s1 (hd 1 (by decide))
    have q2 := s2 (hd 2 (by decide))
    have q3 := s3 (hd 3 (by decide))
    have r0 : wc.heap[w.heap.size]? = some (.cells #[.int .i64 id, .int .u64 (wd p 0 : Int), .int .u64 (wd p 1 : Int), .int .u64 (wd p 2 : Int), .int .u64 (wd p 3 : Int), .int .u64 (i : Int), .int .u64 (wd r 0 : Int), .int .u64 (wd r 1 : Int), .int .u64 (wd r 2 : Int), .int .u64 (wd r 3 : Int), .int .u64 (wd s 0 : Int), .int .u64 (wd s 1 : Int), .int .u64 (wd s 2 : Int), .int .u64 (wd s 3 : Int)] 30) := O0.now (hd 4 (by decide))
    have r1 : wc.heap[(w.heap.size + 1)]? = some (.cells #[.int .u64 (wd p 0 : Int), .int .u64 (wd p 1 : Int), .int .u64 (wd p 2 : Int), .int .u64 (wd p 3 : Int)] 27) := O1.now (hd 5 (by decide))
    subst ha q0 q1 q2 q3
    clear hd s0 s1 s2 s3 O0 O1
    obtain ⟨f0, f1, f2, f3, f4, f5, f6, f7, f8, f9, f10, f11, f12, f13⟩ := fv_cells r0
    obtain ⟨g0, g1, g2, g3⟩ := cells4 r1
    have HOg := Lib.hid (HOf.out.trans hO (fun k hk e => by rcases e with e | e <;> omega))
    clear r0 r1 hO
    go_wp2
    exact bodyPost_ret (v := .tuple #[FV id p i r s, V p]) (by simp [results, Tryd.results12, go_sem, f0, f1, f2, f3, f4, f5, f6, f7, f8, f9, f10, f11, f12, f13, g0, g1, g2, g3]) rfl ⟨rfl, HOg.out⟩
set_option maxRecDepth 100000 in
set_option maxHeartbeats 4000000 in
theorem same13_any {p : Nat} (hp : p < R256) (h1 : 1 < p) (xs : List Nat) (hx : ∀ v ∈ xs, v < R256) (u v : Value) (w : World) (hU : Ls w u (xs.map (fm p))) (hV : Ls w v xs) :
    Calls Tryd.prog 16 #[V p, u, v] w fun e w' => e = .returned (.bool true) ∧ Off (fun _ => False) w w' := by
  obtain ⟨a, cap, rfl, hL⟩ := hU.open
  obtain ⟨a2, cap2, rfl, hM⟩ := hV.open
  clear hU hV
  rw [List.length_map] at hL ⊢
  obtain ⟨n, hn⟩ : ∃ n, n = xs.length := ⟨_, rfl⟩
  rw [← hn] at hL hM ⊢
  have HF := Lib.hid (fun c hc W => form_any p c hp h1 hc W : ∀ c, c < R256 → ∀ W, _)
  have HN := Lib.hid hn
  have HL := Lib.hid hL
  have HM := Lib.hid hM
  have hn2 := hL.len.2
  have e1 := equalIn_elem_same
  have HI := Lib.hid (show ∀ W, W = w.alloc (.cells #[.int .u64 (wd p 0 : Int), .int .u64 (wd p 1 : Int), .int .u64 (wd p 2 : Int), .int .u64 (wd p 3 : Int)] 27) → W.heap[w.heap.size]? = some (.cells #[.int .u64 (wd p 0 : Int), .int .u64 (wd p 1 : Int), .int .u64 (wd p 2 : Int), .int .u64 (wd p 3 : Int)] 27 (0, 0)) ∧ Off (fun _ => False) w W from by
    rintro W rfl
    exact ⟨heap_new' rfl _, (Off.refl _ w).alloc _⟩)
  clear hn hL hM
  go_enter Tryd.func16, Tryd.ntmps16
  go_wp2_with fail
  obtain ⟨bp, hbp⟩ : ∃ bp, bp = w.heap.size := ⟨_, rfl⟩
  rw [← hbp]
  rw [← hbp] at HI
  have HB := Lib.hid hbp
  clear hbp
  go_loopw [15] (fun i wr => ∃ k : Nat, k ≤ n ∧ i = .int .i64 (k : Int) ∧ wr.heap[bp]? = some (.cells #[.int .u64 (wd p 0 : Int), .int .u64 (wd p 1 : Int), .int .u64 (wd p 2 : Int), .int .u64 (wd p 3 : Int)] 27 (0, 0)) ∧ Off (fun _ => False) w wr) (fun i _ => n - (intOf i).toNat)
  case atStart => exact ⟨0, Nat.zero_le _, rfl, HI.out _ rfl⟩
  case round =>
    obtain ⟨k, hk, rfl, hP, hO⟩ := hrel
    by_cases hlt : k < n
    · obtain ⟨z, b, off, hzk, rfl, c0, c1, c2, c3⟩ := (HL.out.off hO (fun _ _ _ c => c)).at hlt
      obtain ⟨c, b2, off2, hck, rfl, d0, d1, d2, d3⟩ := (HM.out.off hO (fun _ _ _ c => c)).at hlt
      have hz : z = fm p c := by rw [List.getElem?_map, hck] at hzk; simpa using hzk.symm
      have HFo := Lib.hid (show ∀ W, Calls Tryd.prog 30 #[V p, V c] W fun e w' => e = .returned (V z) ∧ Off (fun _ => False) W w' from fun W => by rw [hz]; exact HF.out c (hx c (List.mem_of_getElem? hck)) W)
      have HK : Hid (∀ W', Off (fun _ => False) wr W' → (W'.cell? ⟨bp, 0, none⟩ = some (.int .u64 (wd p 0 : Int)) ∧ W'.cell? ⟨bp, 1, none⟩ = some (.int .u64 (wd p 1 : Int)) ∧ W'.cell? ⟨bp, 2, none⟩ = some (.int .u64 (wd p 2 : Int)) ∧ W'.cell? ⟨bp, 3, none⟩ = some (.int .u64 (wd p 3 : Int))) ∧ (W'.cell? ⟨b, off + k * 4, none⟩ = some (.int .u64 (wd z 0 : Int)) ∧ W'.cell? ⟨b, off + k * 4 + 1, none⟩ = some (.int .u64 (wd z 1 : Int)) ∧ W'.cell? ⟨b, off + k * 4 + 2, none⟩ = some (.int .u64 (wd z 2 : Int)) ∧ W'.cell? ⟨b, off + k * 4 + 3, none⟩ = some (.int .u64 (wd z 3 : Int))) ∧ (W'.cell? ⟨b2, off2 + k * 4, none⟩ = some (.int .u64 (wd c 0 : Int)) ∧ W'.cell? ⟨b2, off2 + k * 4 + 1, none⟩ = some (.int .u64 (wd c 1 : Int)) ∧ W'.cell? ⟨b2, off2 + k * 4 + 2, none⟩ = some (.int .u64 (wd c 2 : Int)) ∧ W'.cell? ⟨b2, off2 + k * 4 + 3, none⟩ = some (.int .u64 (wd c 3 : Int))) ∧ Off (fun _ => False) wr W') := Lib.hid (fun W' h => ⟨cells4 (h.heap hP (fun c => c)), ⟨h.cell c0 (fun c => c), h.cell c1 (fun c => c), h.cell c2 (fun c => c), h.cell c3 (fun c => c)⟩, ⟨h.cell d0 (fun c => c), h.cell d1 (fun c => c), h.cell d2 (fun c => c), h.cell d3 (fun c => c)⟩, h⟩)
      have HP := Lib.hid hP
      have HO := Lib.hid hO
      have hkn : (k : Int) < (n : Int) := by omega
      have hwk : IntKind.i64.wrap ((k : Int) + 1) = (k : Int) + 1 := by rw [IntKind.wrap_i64]; omega
      clear hP hO hzk hck hz c0 c1 c2 c3 d0 d1 d2 d3
      go_upto_region 6 with fail
      refine wp_region_inv (fun a0 l a' w' => ∃ (u18 : Value) (u19 : Value) (u20 : Value) (u21 : Value) (u22 : Value) (u23 : Value) (u24 : Value) (u25 : Value) (u26 : Value) (u27 : Value) (u28 : Value), a' = (Act.put (Act.put (Act.put (Act.put (Act.put (Act.put (Act.put (Act.put (Act.put (Act.put (Act.put a0 (some 18) u18) (some 19) u19) (some 20) u20) (some 21) u21) (some 22) u22) (some 23) u23) (some 24) u24) (some 25) u25) (some 26) u26) (some 27) u27) (some 28) u28) ∧ Slot l 0 u18 (.slice (some ⟨b, off, none⟩) n cap) ∧ Slot l 1 u19 (.int .i64 (k : Int)) ∧ Slot l 2 u20 (.pointer (some ⟨b, off + k * 4, none⟩)) ∧ Slot l 3 u21 (V z) ∧ Slot l 4 u22 (V p) ∧ Slot l 5 u23 (.slice (some ⟨b2, off2, none⟩) n cap2) ∧ Slot l 6 u24 (.int .i64 (k : Int)) ∧ Slot l 7 u25 (.pointer (some ⟨b2, off2 + k * 4, none⟩)) ∧ Slot l 8 u26 (V c) ∧ Slot l 9 u27 (V z) ∧ Slot l 10 u28 (.bool false) ∧ Off (fun _ => False) wr w') (by kernel_rfl) (by kernel_rfl) ?_ ⟨?_, ?_, ?_, ?_, ?_, ?_, ?_, ?_, ?_, ?_, ?_, trivial⟩ ?_
      · refine ⟨?z18, ?z19, ?z20, ?z21, ?z22, ?z23, ?z24, ?z25, ?z26, ?z27, ?z28, ?fr, Slot.start _ _ _, Slot.start _ _ _, Slot.start _ _ _, Slot.start _ _ _, Slot.start _ _ _, Slot.start _ _ _, Slot.start _ _ _, Slot.start _ _ _, Slot.start _ _ _, Slot.start _ _ _, Slot.start _ _ _, (Off.refl _ wr).drew⟩
        case fr => first | (simp only [Act.put, List.setIfInBounds_toArray, List.set_cons_zero, List.set_cons_succ]; rfl) | simp only [Act.put, List.setIfInBounds_toArray, List.set_cons_zero, List.set_cons_succ]
      · intro l a wr hI hl hd K' hK
        obtain ⟨u18, u19, u20, u21, u22, u23, u24, u25, u26, u27, u28, ha, s0, s1, s2, s3, s4, s5, s6, s7, s8, s9, s10, hO⟩ := hI
        simp only [Act.put, List.setIfInBounds_toArray, List.set_cons_zero, List.set_cons_succ] at ha
        subst ha
        go_simp
        refine hK.out _ _ ⟨_, _, _, _, _, _, _, _, _, _, _, ?_, Slot.new _ _ _, s1.keep rfl, s2.keep rfl, s3.keep rfl, s4.keep rfl, s5.keep rfl, s6.keep rfl, s7.keep rfl, s8.keep rfl, s9.keep rfl, s10.keep rfl, hO⟩
        simp only [Act.put, List.setIfInBounds_toArray, List.set_cons_zero, List.set_cons_succ]
      · intro l a wr hI hl hd K' hK
        obtain ⟨u18, u19, u20, u21, u22, u23, u24, u25, u26, u27, u28, ha, s0, s1, s2, s3, s4, s5, s6, s7, s8, s9, s10, hO⟩ := hI
        simp only [Act.put, List.setIfInBounds_toArray, List.set_cons_zero, List.set_cons_succ] at ha
        subst ha
        go_simp
        refine hK.out _ _ ⟨_, _, _, _, _, _, _, _, _, _, _, ?_, s0.keep rfl, Slot.new _ _ _, s2.keep rfl, s3.keep rfl, s4.keep rfl, s5.keep rfl, s6.keep rfl, s7.keep rfl, s8.keep rfl, s9.keep rfl, s10.keep rfl, hO⟩
        simp only [Act.put, List.setIfInBounds_toArray, List.set_cons_zero, List.set_cons_succ]
      · intro l a wr hI hl hd K' hK
        obtain ⟨u18, u19, u20, u21, u22, u23, u24, u25, u26, u27, u28, ha, s0, s1, s2, s3, s4, s5, s6, s7, s8, s9, s10, hO⟩ := hI
        simp only [Act.put, List.setIfInBounds_toArray, List.set_cons_zero, List.set_cons_succ] at ha
        have q0 := s0 (hd 0 (by decide))
        have q1 := s1 (hd 1 (by decide))
        subst ha q0 q1
        go_simp
        refine hK.out _ _ ⟨_, _, _, _, _, _, _, _, _, _, _, ?_, s0.keep rfl, s1.keep rfl, Slot.new _ _ _, s3.keep rfl, s4.keep rfl, s5.keep rfl, s6.keep rfl, s7.keep rfl, s8.keep rfl, s9.keep rfl, s10.keep rfl, hO⟩
        simp only [Act.put, List.setIfInBounds_toArray, List.set_cons_zero, List.set_cons_succ]
      · intro l a wr hI hl hd K' hK
        obtain ⟨u18, u19, u20, u21, u22, u23, u24, u25, u26, u27, u28, ha, s0, s1, s2, s3, s4, s5, s6, s7, s8, s9, s10, hO⟩ := hI
        simp only [Act.put, List.setIfInBounds_toArray, List.set_cons_zero, List.set_cons_succ] at ha
        have q2 := s2 (hd 2 (by decide))
        subst ha q2
        have hc := HK.out wr hO
        have p0 := hc.2.1.1
        have p1 := hc.2.1.2.1
        have p2 := hc.2.1.2.2.1
        have p3 := hc.2.1.2.2.2
        clear hc
        go_simp
        refine hK.out _ _ ⟨_, _, _, _, _, _, _, _, _, _, _, ?_, s0.keep rfl, s1.keep rfl, s2.keep rfl, Slot.new _ _ _, s4.keep rfl, s5.keep rfl, s6.keep rfl, s7.keep rfl, s8.keep rfl, s9.keep rfl, s10.keep rfl, hO⟩
        simp only [Act.put, List.setIfInBounds_toArray, List.set_cons_zero, List.set_cons_succ]
      · intro l a wr hI hl hd K' hK
        obtain ⟨u18, u19, u20, u21, u22, u23, u24, u25, u26, u27, u28, ha, s0, s1, s2, s3, s4, s5, s6, s7, s8, s9, s10, hO⟩ := hI
        simp only [Act.put, List.setIfInBounds_toArray, List.set_cons_zero, List.set_cons_succ] at ha
        subst ha
        have hc := HK.out wr hO
        have p0 := hc.1.1
        have p1 := hc.1.2.1
        have p2 := hc.1.2.2.1
        have p3 := hc.1.2.2.2
        clear hc
        go_simp
        refine hK.out _ _ ⟨_, _, _, _, _, _, _, _, _, _, _, ?_, s0.keep rfl, s1.keep rfl, s2.keep rfl, s3.keep rfl, Slot.new _ _ _, s5.keep rfl, s6.keep rfl, s7.keep rfl, s8.keep rfl, s9.keep rfl, s10.keep rfl, hO⟩
        simp only [Act.put, List.setIfInBounds_toArray, List.set_cons_zero, List.set_cons_succ]
      · intro l a wr hI hl hd K' hK
        obtain ⟨u18, u19, u20, u21, u22, u23, u24, u25, u26, u27, u28, ha, s0, s1, s2, s3, s4, s5, s6, s7, s8, s9, s10, hO⟩ := hI
        simp only [Act.put, List.setIfInBounds_toArray, List.set_cons_zero, List.set_cons_succ] at ha
        subst ha
        go_simp
        refine hK.out _ _ ⟨_, _, _, _, _, _, _, _, _, _, _, ?_, s0.keep rfl, s1.keep rfl, s2.keep rfl, s3.keep rfl, s4.keep rfl, Slot.new _ _ _, s6.keep rfl, s7.keep rfl, s8.keep rfl, s9.keep rfl, s10.keep rfl, hO⟩
        simp only [Act.put, List.setIfInBounds_toArray, List.set_cons_zero, List.set_cons_succ]
      · intro l a wr hI hl hd K' hK
        obtain ⟨u18, u19, u20, u21, u22, u23, u24, u25, u26, u27, u28, ha, s0, s1, s2, s3, s4, s5, s6, s7, s8, s9, s10, hO⟩ := hI
        simp only [Act.put, List.setIfInBounds_toArray, List.set_cons_zero, List.set_cons_succ] at ha
        subst ha
        go_simp
        refine hK.out _ _ ⟨_, _, _, _, _, _, _, _, _, _, _, ?_, s0.keep rfl, s1.keep rfl, s2.keep rfl, s3.keep rfl, s4.keep rfl, s5.keep rfl, Slot.new _ _ _, s7.keep rfl, s8.keep rfl, s9.keep rfl, s10.keep rfl, hO⟩
        simp only [Act.put, List.setIfInBounds_toArray, List.set_cons_zero, List.set_cons_succ]
      · intro l a wr hI hl hd K' hK
        obtain ⟨u18, u19, u20, u21, u22, u23, u24, u25, u26, u27, u28, ha, s0, s1, s2, s3, s4, s5, s6, s7, s8, s9, s10, hO⟩ := hI
        simp only [Act.put, List.setIfInBounds_toArray, List.set_cons_zero, List.set_cons_succ] at ha
        have q5 := s5 (hd 5 (by decide))
        have q6 := s6 (hd 6 (by decide))
        subst ha q5 q6
        go_simp
        refine hK.out _ _ ⟨_, _, _, _, _, _, _, _, _, _, _, ?_, s0.keep rfl, s1.keep rfl, s2.keep rfl, s3.keep rfl, s4.keep rfl, s5.keep rfl, s6.keep rfl, Slot.new _ _ _, s8.keep rfl, s9.keep rfl, s10.keep rfl, hO⟩
        simp only [Act.put, List.setIfInBounds_toArray, List.set_cons_zero, List.set_cons_succ]
      · intro l a wr hI hl hd K' hK
        obtain ⟨u18, u19, u20, u21, u22, u23, u24, u25, u26, u27, u28, ha, s0, s1, s2, s3, s4, s5, s6, s7, s8, s9, s10, hO⟩ := hI
        simp only [Act.put, List.setIfInBounds_toArray, List.set_cons_zero, List.set_cons_succ] at ha
        have q7 := s7 (hd 7 (by decide))
        subst ha q7
        have hc := HK.out wr hO
        have p0 := hc.2.2.1.1
        have p1 := hc.2.2.1.2.1
        have p2 := hc.2.2.1.2.2.1
        have p3 := hc.2.2.1.2.2.2
        clear hc
        go_simp
        refine hK.out _ _ ⟨_, _, _, _, _, _, _, _, _, _, _, ?_, s0.keep rfl, s1.keep rfl, s2.keep rfl, s3.keep rfl, s4.keep rfl, s5.keep rfl, s6.keep rfl, s7.keep rfl, Slot.new _ _ _, s9.keep rfl, s10.keep rfl, hO⟩
        simp only [Act.put, List.setIfInBounds_toArray, List.set_cons_zero, List.set_cons_succ]
      · intro l a wr hI hl hd K' hK
        obtain ⟨u18, u19, u20, u21, u22, u23, u24, u25, u26, u27, u28, ha, s0, s1, s2, s3, s4, s5, s6, s7, s8, s9, s10, hO⟩ := hI
        simp only [Act.put, List.setIfInBounds_toArray, List.set_cons_zero, List.set_cons_succ] at ha
        have q4 := s4 (hd 4 (by decide))
        have q8 := s8 (hd 8 (by decide))
        subst ha q4 q8
        go_simp
        refine (held_inv (HFo.out wr) hO).mono ?_
        rintro e w1 ⟨rfl, hO1, hOW⟩
        go_wp2_with fail
        refine hK.out _ _ ⟨_, _, _, _, _, _, _, _, _, _, _, ?_, s0.keep rfl, s1.keep rfl, s2.keep rfl, s3.keep rfl, s4.keep rfl, s5.keep rfl, s6.keep rfl, s7.keep rfl, s8.keep rfl, Slot.new _ _ _, s10.keep rfl, hO1⟩
        simp only [Act.put, List.setIfInBounds_toArray, List.set_cons_zero, List.set_cons_succ]
      · intro l a wr hI hl hd K' hK
        obtain ⟨u18, u19, u20, u21, u22, u23, u24, u25, u26, u27, u28, ha, s0, s1, s2, s3, s4, s5, s6, s7, s8, s9, s10, hO⟩ := hI
        simp only [Act.put, List.setIfInBounds_toArray, List.set_cons_zero, List.set_cons_succ] at ha
        have q3 := s3 (hd 3 (by decide))
        have q9 := s9 (hd 9 (by decide))
        subst ha q3 q9
        go_simp
        refine hK.out _ _ ⟨_, _, _, _, _, _, _, _, _, _, _, ?_, s0.keep rfl, s1.keep rfl, s2.keep rfl, s3.keep rfl, s4.keep rfl, s5.keep rfl, s6.keep rfl, s7.keep rfl, s8.keep rfl, s9.keep rfl, Slot.new _ _ _, hO⟩
        simp only [Act.put, List.setIfInBounds_toArray, List.set_cons_zero, List.set_cons_succ]
      · intro l a wc hI hd
        obtain ⟨u18, u19, u20, u21, u22, u23, u24, u25, u26, u27, u28, ha, s0, s1, s2, s3, s4, s5, s6, s7, s8, s9, s10, hO⟩ := hI
        simp only [Act.put, List.setIfInBounds_toArray, List.set_cons_zero, List.set_cons_succ] at ha
        have q0 := s0 (hd 0 (by decide))
        have q1 := s1 (hd 1 (by decide))
        have q2 := s2 (hd 2 (by decide))
        have q3 := s3 (hd 3 (by decide))
        have q4 := s4 (hd 4 (by decide))
        have q5 := s5 (hd 5 (by decide))
        have q6 := s6 (hd 6 (by decide))
        have q7 := s7 (hd 7 (by decide))
        have q8 := s8 (hd 8 (by decide))
        have q9 := s9 (hd 9 (by decide))
        have q10 := s10 (hd 10 (by decide))
        subst ha q0 q1 q2 q3 q4 q5 q6 q7 q8 q9 q10
        clear hd s0 s1 s2 s3 s4 s5 s6 s7 s8 s9 s10
        have hP2 := hO.heap HP.out (fun c => c)
        have hO2 := HO.out.trans hO (fun _ _ c => c)
        have HP2 := Lib.hid hP2
        have HO2 := Lib.hid hO2
        clear hO hP2 hO2
        go_wp2
        go_roundw
        case rel => exact ⟨k + 1, by omega, by simp, HP2.out, HO2.out⟩
        case measure => simp [intOf] <;> omega
    · obtain rfl : k = n := by omega
      have HO := Lib.hid hO
      clear hO hP
      go_wp2
      go_ret
      exact ⟨rfl, HO.out⟩
end Go.Proofs.YtllhfkcgocbblaaDoor
