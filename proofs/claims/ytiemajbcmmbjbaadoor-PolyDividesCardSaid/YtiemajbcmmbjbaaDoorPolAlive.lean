/-
  The examples of the chapter that the statements of layer 8 hold: alive. Condition: the table of fields lies in memory as it was laid.
-/
import Derived.Test.YtiemajbcmmbjbaaDoorPolNil
import Derived.Test.YtiemajbcmmbjbaaDoorPolLists
namespace Go.Proofs.YtiemajbcmmbjbaaDoor
open Go.RowKit
attribute [local go_sem ↓] Go.wp_at_zero Go.wp_at_succ
set_option linter.unusedSimpArgs false
theorem build121 (w : World) : Ls (w.alloc (.cells #[.int .u64 1, .int .u64 0, .int .u64 0, .int .u64 0, .int .u64 2, .int .u64 0, .int .u64 0, .int .u64 0, .int .u64 1, .int .u64 0, .int .u64 0, .int .u64 0] 24 (0, 0))) (.slice (some ⟨w.heap.size, 0, none⟩) 3 3) [1, 2, 1] := by
  have h := ls_build w [1, 2, 1] (by decide) 24
  rw [show (flat4 [1, 2, 1]).toArray = #[.int .u64 1, .int .u64 0, .int .u64 0, .int .u64 0, .int .u64 2, .int .u64 0, .int .u64 0, .int .u64 0, .int .u64 1, .int .u64 0, .int .u64 0, .int .u64 0] from by kernel_rfl] at h
  exact h
theorem build323 (w : World) : Ls (w.alloc (.cells #[.int .u64 32, .int .u64 0, .int .u64 0, .int .u64 0, .int .u64 3, .int .u64 0, .int .u64 0, .int .u64 0] 24 (0, 0))) (.slice (some ⟨w.heap.size, 0, none⟩) 2 2) [32, 3] := by
  have h := ls_build w [32, 3] (by decide) 24
  rw [show (flat4 [32, 3]).toArray = #[.int .u64 32, .int .u64 0, .int .u64 0, .int .u64 0, .int .u64 3, .int .u64 0, .int .u64 0, .int .u64 0] from by kernel_rfl] at h
  exact h
theorem build123 (w : World) : Ls (w.alloc (.cells #[.int .u64 1, .int .u64 0, .int .u64 0, .int .u64 0, .int .u64 2, .int .u64 0, .int .u64 0, .int .u64 0, .int .u64 3, .int .u64 0, .int .u64 0, .int .u64 0] 24 (0, 0))) (.slice (some ⟨w.heap.size, 0, none⟩) 3 3) [1, 2, 3] := by
  have h := ls_build w [1, 2, 3] (by decide) 24
  rw [show (flat4 [1, 2, 3]).toArray = #[.int .u64 1, .int .u64 0, .int .u64 0, .int .u64 0, .int .u64 2, .int .u64 0, .int .u64 0, .int .u64 0, .int .u64 3, .int .u64 0, .int .u64 0, .int .u64 0] from by kernel_rfl] at h
  exact h
theorem build11 (w : World) : Ls (w.alloc (.cells #[.int .u64 1, .int .u64 0, .int .u64 0, .int .u64 0, .int .u64 1, .int .u64 0, .int .u64 0, .int .u64 0] 24 (0, 0))) (.slice (some ⟨w.heap.size, 0, none⟩) 2 2) [1, 1] := by
  have h := ls_build w [1, 1] (by decide) 24
  rw [show (flat4 [1, 1]).toArray = #[.int .u64 1, .int .u64 0, .int .u64 0, .int .u64 0, .int .u64 1, .int .u64 0, .int .u64 0, .int .u64 0] from by kernel_rfl] at h
  exact h
set_option maxRecDepth 100000 in
set_option maxHeartbeats 4000000 in
theorem alive_p {id : Int} {p i r s : Nat} (hF : Fld id p i r s) (hid : id = idB true) (v1 : [1, 2, 3].map (· % p) = [1, 2, 3]) (v2 : [1, 1].map (· % p) = [1, 1]) (v3 : mulL p [1, 1] [1, 1] = [1, 2, 1]) (v4 : quoL p [1, 2, 3] 10 = [32, 3]) (v5 : pv [1, 2, 3] 10 % p = 321) (w : World) (hT : TabAt w) :
    Calls Tryd.prog 9 #[] w fun e w' => e = .returned (.bool true) ∧ Off (fun _ => False) w w' := by
  have hp := hF.mp.lt
  have h1 := hF.mp.one
  have FG := Lib.hid (fun W hT => get8_any true hF hid W hT)
  obtain ⟨l123, hl1⟩ : ∃ l, l = [1, 2, 3] := ⟨_, rfl⟩
  obtain ⟨l11, hl2⟩ : ∃ l, l = [1, 1] := ⟨_, rfl⟩
  obtain ⟨y, hy⟩ : ∃ y, y = fm p 10 := ⟨_, rfl⟩
  obtain ⟨rr, hrr⟩ : ∃ rr, rr = fm p 321 := ⟨_, rfl⟩
  have FV1 := Lib.hid (show ∀ W v, Ls W v l123 → Calls Tryd.prog 11 #[V p, v] W fun e w' => ∃ z1 z2, e = .returned (.tuple #[z1, z2]) ∧ Ls w' z2 (l123.map (fm p)) ∧ Off (fun _ => False) W w' from fun W v h => (values_any hp h1 l123 (by rw [hl1]; decide +kernel) (by rw [hl1]; decide) v W h).mono (fun e w' ⟨z1, z2, he, _, h2, hO⟩ => ⟨z1, z2, he, by rw [hl1, v1, ← hl1] at h2; exact h2, hO⟩))
  have FV2 := Lib.hid (show ∀ W v, Ls W v l11 → Calls Tryd.prog 11 #[V p, v] W fun e w' => ∃ z1 z2, e = .returned (.tuple #[z1, z2]) ∧ Ls w' z2 (l11.map (fm p)) ∧ Off (fun _ => False) W w' from fun W v h => (values_any hp h1 l11 (by rw [hl2]; decide +kernel) (by rw [hl2]; decide) v W h).mono (fun e w' ⟨z1, z2, he, _, h2, hO⟩ => ⟨z1, z2, he, by rw [hl2, v2, ← hl2] at h2; exact h2, hO⟩))
  have FM := Lib.hid (show ∀ W v, Ls W v (l11.map (fm p)) → Calls Tryd.prog 19 #[.pointer none, FV id p i r s, v, v] W fun e w' => ∃ z, e = .returned z ∧ Ls w' z ([1, 2, 1].map (fm p)) ∧ Off (fun _ => False) W w' from fun W v h => (mul_ls hF l11 l11 (by rw [hl2]; decide) (by rw [hl2]; decide) v v W h h).mono (fun e w' ⟨z, he, h2, hO⟩ => ⟨z, he, by rw [hl2, v3] at h2; exact h2, hO⟩))
  have FQ := Lib.hid (show ∀ W v, Ls W v (l123.map (fm p)) → Calls Tryd.prog 23 #[.pointer none, FV id p i r s, v, V y] W fun e w' => ∃ z, e = .returned (.tuple #[z, V rr]) ∧ LsAt w' z ([32, 3].map (fm p)) (fun k => W.heap.size ≤ k) ∧ Off (fun _ => False) W w' from fun W v h => by
    rw [hy, hrr, ← v5, ← v4, ← hl1]; exact quotient_ls hF l123 (by rw [hl1]; decide) 10 v W h)
  have FE := Lib.hid (show ∀ W v, Ls W v (l123.map (fm p)) → Calls Tryd.prog 13 #[.pointer none, FV id p i r s, v, V y] W fun e w' => e = .returned (V rr) ∧ Off (fun _ => False) W w' from fun W v h => by
    rw [hy, hrr, ← v5, ← hl1]; exact eval_ls hF l123 (by rw [hl1]; decide) 10 v W h)
  have FF10 := Lib.hid (show ∀ W, Calls Tryd.prog 14 #[V p, .agg #[.int .u64 10, .int .u64 0, .int .u64 0, .int .u64 0]] W fun e w' => e = .returned (V y) ∧ Off (fun _ => False) W w' from fun W => by
    have h := form8_any p 10 hp h1 (by decide +kernel) W
    rw [lit_small 10 (by decide), ← hy] at h; exact h)
  have FF321 := Lib.hid (show ∀ W, Calls Tryd.prog 14 #[V p, .agg #[.int .u64 321, .int .u64 0, .int .u64 0, .int .u64 0]] W fun e w' => e = .returned (V rr) ∧ Off (fun _ => False) W w' from fun W => by
    have h := form8_any p 321 hp h1 (by decide +kernel) W
    rw [lit_small 321 (by decide), ← hrr] at h; exact h)
  have FS1 := Lib.hid (show ∀ W u v, Ls W u ([1, 2, 1].map (fm p)) → Ls W v [1, 2, 1] → Calls Tryd.prog 16 #[V p, u, v] W fun e w' => e = .returned (.bool true) ∧ Off (fun _ => False) W w' from fun W u v h k => same8_any hp h1 [1, 2, 1] (by decide +kernel) u v W h k)
  have FS2 := Lib.hid (show ∀ W u v, Ls W u ([32, 3].map (fm p)) → Ls W v [32, 3] → Calls Tryd.prog 16 #[V p, u, v] W fun e w' => e = .returned (.bool true) ∧ Off (fun _ => False) W w' from fun W u v h k => same8_any hp h1 [32, 3] (by decide +kernel) u v W h k)
  have e1 := equalIn_elem_same
  have B1 := Lib.hid (show ∀ (W : World) n, n = W.heap.size → Ls (W.alloc (.cells #[.int .u64 1, .int .u64 0, .int .u64 0, .int .u64 0, .int .u64 2, .int .u64 0, .int .u64 0, .int .u64 0, .int .u64 3, .int .u64 0, .int .u64 0, .int .u64 0] 24 (0, 0))) (.slice (some ⟨n, 0, none⟩) 3 3) l123 from fun W n e => by rw [e, hl1]; exact build123 W)
  have B2 := Lib.hid (show ∀ (W : World) n, n = W.heap.size → Ls (W.alloc (.cells #[.int .u64 1, .int .u64 0, .int .u64 0, .int .u64 0, .int .u64 1, .int .u64 0, .int .u64 0, .int .u64 0] 24 (0, 0))) (.slice (some ⟨n, 0, none⟩) 2 2) l11 from fun W n e => by rw [e, hl2]; exact build11 W)
  clear v1 v2 v3 v4 v5 hl1 hl2 hy hrr hF hid hp h1
  go_enter Tryd.func9, Tryd.ntmps9
  go_wp2_with fail
  refine (FG.out _ hT).mono ?_
  rintro e u0 ⟨rfl, hO0⟩
  obtain ⟨fb, hfb⟩ : ∃ fb, fb = u0.heap.size := ⟨_, rfl⟩
  obtain ⟨pb, hpb⟩ : ∃ pb, pb = u0.heap.size + 1 := ⟨_, rfl⟩
  have HI := Lib.hid (show ∀ W o, W = ((u0.alloc (.cells #[.int .i64 id, .int .u64 (wd p 0 : Int), .int .u64 (wd p 1 : Int), .int .u64 (wd p 2 : Int), .int .u64 (wd p 3 : Int), .int .u64 (i : Int), .int .u64 (wd r 0 : Int), .int .u64 (wd r 1 : Int), .int .u64 (wd r 2 : Int), .int .u64 (wd r 3 : Int), .int .u64 (wd s 0 : Int), .int .u64 (wd s 1 : Int), .int .u64 (wd s 2 : Int), .int .u64 (wd s 3 : Int)] 28)).alloc (.cells #[.int .u64 (wd p 0 : Int), .int .u64 (wd p 1 : Int), .int .u64 (wd p 2 : Int), .int .u64 (wd p 3 : Int)] 24)).alloc o → W.heap[fb]? = some (.cells #[.int .i64 id, .int .u64 (wd p 0 : Int), .int .u64 (wd p 1 : Int), .int .u64 (wd p 2 : Int), .int .u64 (wd p 3 : Int), .int .u64 (i : Int), .int .u64 (wd r 0 : Int), .int .u64 (wd r 1 : Int), .int .u64 (wd r 2 : Int), .int .u64 (wd r 3 : Int), .int .u64 (wd s 0 : Int), .int .u64 (wd s 1 : Int), .int .u64 (wd s 2 : Int), .int .u64 (wd s 3 : Int)] 28 (0, 0)) ∧ W.heap[pb]? = some (.cells #[.int .u64 (wd p 0 : Int), .int .u64 (wd p 1 : Int), .int .u64 (wd p 2 : Int), .int .u64 (wd p 3 : Int)] 24 (0, 0)) ∧ Off (fun _ => False) w W from fun W o e => by
    subst e
    exact ⟨by rw [hfb]; exact heap_old' (heap_old' (heap_new' rfl _) _) _, by rw [hpb]; exact heap_old' (heap_new' (by simp) _) _, ((hO0.alloc _).alloc _).alloc _⟩)
  go_wp2_with fail
  refine (FV1.out _ _ (B1.out _ _ (by simp))).mono ?_
  rintro e u1 ⟨z3, z4, rfl, h4, hO1⟩
  rw [← hpb, ← hfb]
  obtain ⟨i1, i2, i3⟩ := HI.out _ _ rfl
  have j1 := hO1.heap i1 (fun c => c)
  have j2 := hO1.heap i2 (fun c => c)
  have j3 := i3.trans hO1 (fun _ _ c => c)
  have J1 := Lib.hid j1
  have J2 := Lib.hid j2
  have J3 := Lib.hid j3
  have H4 := Lib.hid h4
  obtain ⟨p0, p1, p2, p3⟩ := cells4 j2
  have hlp := heap_lt j2
  clear HI i1 i2 i3 j1 j2 j3 h4 hO0 hO1 hfb hpb
  go_wp2_with fail
  clear p0 p1 p2 p3
  refine (FV2.out _ _ (B2.out _ _ (by simp))).mono ?_
  rintro e u2 ⟨z5, z6, rfl, h6, hO2⟩
  have hOa : Off (fun _ => False) u1 u2 := ((Off.refl _ u1).alloc _).trans hO2 (fun _ _ c => c)
  have k1 := hOa.heap J1.out (fun c => c)
  have k2 := hOa.heap J2.out (fun c => c)
  have K1 := Lib.hid k1
  have K2 := Lib.hid k2
  have K3 := Lib.hid (J3.out.trans hOa (fun _ _ c => c))
  have K4 := Lib.hid (H4.out.off hOa)
  have H6 := Lib.hid h6
  obtain ⟨f0, f1, f2, f3, f4, f5, f6, f7, f8, f9, f10, f11, f12, f13⟩ := fv_cells k1
  clear k1 k2 h6 hO2 hOa J1 J2 J3 H4
  go_wp2_with fail
  clear f0 f1 f2 f3 f4 f5 f6 f7 f8 f9 f10 f11 f12 f13
  refine (FM.out _ _ H6.out).mono ?_
  rintro e u3 ⟨zm, rfl, hm, hO3⟩
  have k1 := hO3.heap K1.out (fun c => c)
  have k2 := hO3.heap K2.out (fun c => c)
  have L1 := Lib.hid k1
  have L2 := Lib.hid k2
  have L3 := Lib.hid (K3.out.trans hO3 (fun _ _ c => c))
  have L4 := Lib.hid (K4.out.off hO3)
  have HM := Lib.hid hm
  have FQu := Lib.hid (show ∀ W, Off (fun _ => False) u3 W → _ from fun W h => FQ.out W z4 (L4.out.off h))
  have HK5 : Hid (∀ W', Off (fun _ => False) u3 W' → (W'.cell? ⟨fb, 0, none⟩ = some (.int .i64 id) ∧ W'.cell? ⟨fb, 1, none⟩ = some (.int .u64 (wd p 0 : Int)) ∧ W'.cell? ⟨fb, 2, none⟩ = some (.int .u64 (wd p 1 : Int)) ∧ W'.cell? ⟨fb, 3, none⟩ = some (.int .u64 (wd p 2 : Int)) ∧ W'.cell? ⟨fb, 4, none⟩ = some (.int .u64 (wd p 3 : Int)) ∧ W'.cell? ⟨fb, 5, none⟩ = some (.int .u64 (i : Int)) ∧ W'.cell? ⟨fb, 6, none⟩ = some (.int .u64 (wd r 0 : Int)) ∧ W'.cell? ⟨fb, 7, none⟩ = some (.int .u64 (wd r 1 : Int)) ∧ W'.cell? ⟨fb, 8, none⟩ = some (.int .u64 (wd r 2 : Int)) ∧ W'.cell? ⟨fb, 9, none⟩ = some (.int .u64 (wd r 3 : Int)) ∧ W'.cell? ⟨fb, 10, none⟩ = some (.int .u64 (wd s 0 : Int)) ∧ W'.cell? ⟨fb, 11, none⟩ = some (.int .u64 (wd s 1 : Int)) ∧ W'.cell? ⟨fb, 12, none⟩ = some (.int .u64 (wd s 2 : Int)) ∧ W'.cell? ⟨fb, 13, none⟩ = some (.int .u64 (wd s 3 : Int))) ∧ (W'.cell? ⟨pb, 0, none⟩ = some (.int .u64 (wd p 0 : Int)) ∧ W'.cell? ⟨pb, 1, none⟩ = some (.int .u64 (wd p 1 : Int)) ∧ W'.cell? ⟨pb, 2, none⟩ = some (.int .u64 (wd p 2 : Int)) ∧ W'.cell? ⟨pb, 3, none⟩ = some (.int .u64 (wd p 3 : Int))) ∧ Off (fun _ => False) u3 W') := Lib.hid (fun W' h => ⟨fv_cells (h.heap k1 (fun c => c)), cells4 (h.heap k2 (fun c => c)), h⟩)
  clear k1 k2 hm hO3 K1 K2 K3 K4 hT
  go_upto_region 5 with fail
  refine wp_region_inv (fun a0 l a' w' => ∃ (u36 : Value) (u37 : Value) (u38 : Value) (u39 : Value) (u40 : Value) (u41 : Value) (u35 : Value) (u42 : Value) (u43 : Value) (u9 : Value) (u8 : Value) (v41 : Value) (b9 : Nat), a' = (Act.put (Act.put (Act.put (Act.put (Act.put (Act.put (Act.put (Act.put (Act.put (Act.put (Act.put a0 (some 36) u36) (some 37) u37) (some 38) u38) (some 39) u39) (some 40) u40) (some 41) u41) (some 35) u35) (some 42) u42) (some 43) u43) (some 9) u9) (some 8) u8) ∧ Slot l 0 u36 (FV id p i r s) ∧ Slot l 1 u37 (z4) ∧ Slot l 2 u38 (V p) ∧ Slot l 3 u39 (.agg #[.int .u64 10, .int .u64 0, .int .u64 0, .int .u64 0]) ∧ Slot l 4 u40 (V y) ∧ Slot l 5 u41 (.tuple #[v41, V rr]) ∧ Slot l 6 u35 (.tuple #[v41, V rr]) ∧ Slot l 7 u42 (v41) ∧ Slot l 8 u43 (V rr) ∧ Slot l 10 u8 (v41) ∧ Blk l 9 11 u9 b9 u3 w' (.cells #[.int .u64 0, .int .u64 0, .int .u64 0, .int .u64 0] 26) (.cells #[.int .u64 (wd rr 0 : Int), .int .u64 (wd rr 1 : Int), .int .u64 (wd rr 2 : Int), .int .u64 (wd rr 3 : Int)] 26) ∧ Lx l 5 9 v41 b9 w' ([32, 3].map (fm p)) ∧ Dep l 5 6 ∧ Dep l 5 7 ∧ Dep l 5 10 ∧ Off (fun _ => False) u3 w') (by kernel_rfl) (by kernel_rfl) ?_ ⟨?_, ?_, ?_, ?_, ?_, ?_, ?_, ?_, ?_, ?_, ?_, ?_, trivial⟩ ?_
  · refine ⟨?z36, ?z37, ?z38, ?z39, ?z40, ?z41, ?z35, ?z42, ?z43, ?z9, ?z8, undef, 0, ?fr, Slot.start _ _ _, Slot.start _ _ _, Slot.start _ _ _, Slot.start _ _ _, Slot.start _ _ _, Slot.start _ _ _, Slot.start _ _ _, Slot.start _ _ _, Slot.start _ _ _, Slot.start _ _ _, Blk.start _ _ _ _ _ _ _ _, Lx.start _ _ _ _ _ _, Dep.start _ _, Dep.start _ _, Dep.start _ _, (Off.refl _ u3).drew⟩
    case fr => first | (simp only [Act.put, List.setIfInBounds_toArray, List.set_cons_zero, List.set_cons_succ]; rfl) | simp only [Act.put, List.setIfInBounds_toArray, List.set_cons_zero, List.set_cons_succ]
  · intro l a wr hI hl hd K' hK
    obtain ⟨u36, u37, u38, u39, u40, u41, u35, u42, u43, u9, u8, v41, b9, ha, s0, s1, s2, s3, s4, s5, s6, s7, s8, s10, B9, M5, V5_6, V5_7, V5_10, hO⟩ := hI
    simp only [Act.put, List.setIfInBounds_toArray, List.set_cons_zero, List.set_cons_succ] at ha
    subst ha
    have hc := HK5.out wr hO
    have p0 := hc.1.1
    have p1 := hc.1.2.1
    have p2 := hc.1.2.2.1
    have p3 := hc.1.2.2.2.1
    have p4 := hc.1.2.2.2.2.1
    have p5 := hc.1.2.2.2.2.2.1
    have p6 := hc.1.2.2.2.2.2.2.1
    have p7 := hc.1.2.2.2.2.2.2.2.1
    have p8 := hc.1.2.2.2.2.2.2.2.2.1
    have p9 := hc.1.2.2.2.2.2.2.2.2.2.1
    have p10 := hc.1.2.2.2.2.2.2.2.2.2.2.1
    have p11 := hc.1.2.2.2.2.2.2.2.2.2.2.2.1
    have p12 := hc.1.2.2.2.2.2.2.2.2.2.2.2.2.1
    have p13 := hc.1.2.2.2.2.2.2.2.2.2.2.2.2.2
    clear hc
    go_simp
    refine hK.out _ _ ⟨_, _, _, _, _, _, _, _, _, _, _, v41, _, ?_, Slot.new _ _ _, s1.keep rfl, s2.keep rfl, s3.keep rfl, s4.keep rfl, s5.keep rfl, s6.keep rfl, s7.keep rfl, s8.keep rfl, s10.keep rfl, B9.keep (Off.refl _ wr) rfl rfl, M5.keep (Off.refl _ wr) rfl rfl, V5_6.keep rfl, V5_7.keep rfl, V5_10.keep rfl, hO⟩
    simp only [Act.put, List.setIfInBounds_toArray, List.set_cons_zero, List.set_cons_succ]
  · intro l a wr hI hl hd K' hK
    obtain ⟨u36, u37, u38, u39, u40, u41, u35, u42, u43, u9, u8, v41, b9, ha, s0, s1, s2, s3, s4, s5, s6, s7, s8, s10, B9, M5, V5_6, V5_7, V5_10, hO⟩ := hI
    simp only [Act.put, List.setIfInBounds_toArray, List.set_cons_zero, List.set_cons_succ] at ha
    subst ha
    go_simp
    refine hK.out _ _ ⟨_, _, _, _, _, _, _, _, _, _, _, v41, _, ?_, s0.keep rfl, Slot.new _ _ _, s2.keep rfl, s3.keep rfl, s4.keep rfl, s5.keep rfl, s6.keep rfl, s7.keep rfl, s8.keep rfl, s10.keep rfl, B9.keep (Off.refl _ wr) rfl rfl, M5.keep (Off.refl _ wr) rfl rfl, V5_6.keep rfl, V5_7.keep rfl, V5_10.keep rfl, hO⟩
    simp only [Act.put, List.setIfInBounds_toArray, List.set_cons_zero, List.set_cons_succ]
  · intro l a wr hI hl hd K' hK
    obtain ⟨u36, u37, u38, u39, u40, u41, u35, u42, u43, u9, u8, v41, b9, ha, s0, s1, s2, s3, s4, s5, s6, s7, s8, s10, B9, M5, V5_6, V5_7, V5_10, hO⟩ := hI
    simp only [Act.put, List.setIfInBounds_toArray, List.set_cons_zero, List.set_cons_succ] at ha
    subst ha
    have hc := HK5.out wr hO
    have p0 := hc.2.1.1
    have p1 := hc.2.1.2.1
    have p2 := hc.2.1.2.2.1
    have p3 := hc.2.1.2.2.2
    clear hc
    go_simp
    refine hK.out _ _ ⟨_, _, _, _, _, _, _, _, _, _, _, v41, _, ?_, s0.keep rfl, s1.keep rfl, Slot.new _ _ _, s3.keep rfl, s4.keep rfl, s5.keep rfl, s6.keep rfl, s7.keep rfl, s8.keep rfl, s10.keep rfl, B9.keep (Off.refl _ wr) rfl rfl, M5.keep (Off.refl _ wr) rfl rfl, V5_6.keep rfl, V5_7.keep rfl, V5_10.keep rfl, hO⟩
    simp only [Act.put, List.setIfInBounds_toArray, List.set_cons_zero, List.set_cons_succ]
  · intro l a wr hI hl hd K' hK
    obtain ⟨u36, u37, u38, u39, u40, u41, u35, u42, u43, u9, u8, v41, b9, ha, s0, s1, s2, s3, s4, s5, s6, s7, s8, s10, B9, M5, V5_6, V5_7, V5_10, hO⟩ := hI
    simp only [Act.put, List.setIfInBounds_toArray, List.set_cons_zero, List.set_cons_succ] at ha
    subst ha
    go_simp
    refine hK.out _ _ ⟨_, _, _, _, _, _, _, _, _, _, _, v41, _, ?_, s0.keep rfl, s1.keep rfl, s2.keep rfl, Slot.new _ _ _, s4.keep rfl, s5.keep rfl, s6.keep rfl, s7.keep rfl, s8.keep rfl, s10.keep rfl, B9.keep (Off.refl _ wr) rfl rfl, M5.keep (Off.refl _ wr) rfl rfl, V5_6.keep rfl, V5_7.keep rfl, V5_10.keep rfl, hO⟩
    simp only [Act.put, List.setIfInBounds_toArray, List.set_cons_zero, List.set_cons_succ]
  · intro l a wr hI hl hd K' hK
    obtain ⟨u36, u37, u38, u39, u40, u41, u35, u42, u43, u9, u8, v41, b9, ha, s0, s1, s2, s3, s4, s5, s6, s7, s8, s10, B9, M5, V5_6, V5_7, V5_10, hO⟩ := hI
    simp only [Act.put, List.setIfInBounds_toArray, List.set_cons_zero, List.set_cons_succ] at ha
    have q2 := s2 (hd 2 (by decide))
    have q3 := s3 (hd 3 (by decide))
    subst ha q2 q3
    go_simp
    refine (held_inv (FF10.out wr) hO).mono ?_
    rintro e w1 ⟨rfl, hO1, hOW⟩
    go_wp2_with fail
    refine hK.out _ _ ⟨_, _, _, _, _, _, _, _, _, _, _, v41, _, ?_, s0.keep rfl, s1.keep rfl, s2.keep rfl, s3.keep rfl, Slot.new _ _ _, s5.keep rfl, s6.keep rfl, s7.keep rfl, s8.keep rfl, s10.keep rfl, B9.keep hOW rfl rfl, M5.keep hOW rfl rfl, V5_6.keep rfl, V5_7.keep rfl, V5_10.keep rfl, hO1⟩
    simp only [Act.put, List.setIfInBounds_toArray, List.set_cons_zero, List.set_cons_succ]
  · intro l a wr hI hl hd K' hK
    obtain ⟨u36, u37, u38, u39, u40, u41, u35, u42, u43, u9, u8, v41, b9, ha, s0, s1, s2, s3, s4, s5, s6, s7, s8, s10, B9, M5, V5_6, V5_7, V5_10, hO⟩ := hI
    simp only [Act.put, List.setIfInBounds_toArray, List.set_cons_zero, List.set_cons_succ] at ha
    have q0 := s0 (hd 0 (by decide))
    have q1 := (s1 (hd 1 (by decide))).symm
    have q4 := s4 (hd 4 (by decide))
    subst ha q0 q1 q4
    go_simp
    refine (FQu.out wr hO).mono ?_
    rintro e w1 ⟨uv, rfl, hm, hOW⟩
    have hO1 := hO.trans hOW (fun _ _ c => c.elim)
    go_wp2_with fail
    refine hK.out _ _ ⟨_, _, _, _, _, _, _, _, _, _, _, uv, _, ?_, s0.keep rfl, s1.keep rfl, s2.keep rfl, s3.keep rfl, s4.keep rfl, Slot.new _ _ _, Slot.void (u := u35) (V5_6 hl) rfl, Slot.void (u := u42) (V5_7 hl) rfl, s8.keep rfl, Slot.void (u := u8) (V5_10 hl) rfl, B9.keep hOW rfl rfl, Lx.new hm (fun h => B9.lt h) rfl, V5_6.keep rfl, V5_7.keep rfl, V5_10.keep rfl, hO1⟩
    simp only [Act.put, List.setIfInBounds_toArray, List.set_cons_zero, List.set_cons_succ]
  · intro l a wr hI hl hd K' hK
    obtain ⟨u36, u37, u38, u39, u40, u41, u35, u42, u43, u9, u8, v41, b9, ha, s0, s1, s2, s3, s4, s5, s6, s7, s8, s10, B9, M5, V5_6, V5_7, V5_10, hO⟩ := hI
    simp only [Act.put, List.setIfInBounds_toArray, List.set_cons_zero, List.set_cons_succ] at ha
    have q5 := s5 (hd 5 (by decide))
    subst ha q5
    go_simp
    refine hK.out _ _ ⟨_, _, _, _, _, _, _, _, _, _, _, v41, _, ?_, s0.keep rfl, s1.keep rfl, s2.keep rfl, s3.keep rfl, s4.keep rfl, s5.keep rfl, Slot.new _ _ _, s7.keep rfl, s8.keep rfl, s10.keep rfl, B9.keep (Off.refl _ wr) rfl rfl, M5.keep (Off.refl _ wr) rfl rfl, Dep.at (hd 5 (by decide)), V5_7.keep rfl, V5_10.keep rfl, hO⟩
    simp only [Act.put, List.setIfInBounds_toArray, List.set_cons_zero, List.set_cons_succ]
  · intro l a wr hI hl hd K' hK
    obtain ⟨u36, u37, u38, u39, u40, u41, u35, u42, u43, u9, u8, v41, b9, ha, s0, s1, s2, s3, s4, s5, s6, s7, s8, s10, B9, M5, V5_6, V5_7, V5_10, hO⟩ := hI
    simp only [Act.put, List.setIfInBounds_toArray, List.set_cons_zero, List.set_cons_succ] at ha
    have q6 := s6 (hd 6 (by decide))
    subst ha q6
    go_simp
    refine hK.out _ _ ⟨_, _, _, _, _, _, _, _, _, _, _, v41, _, ?_, s0.keep rfl, s1.keep rfl, s2.keep rfl, s3.keep rfl, s4.keep rfl, s5.keep rfl, s6.keep rfl, Slot.new _ _ _, s8.keep rfl, s10.keep rfl, B9.keep (Off.refl _ wr) rfl rfl, M5.keep (Off.refl _ wr) rfl rfl, V5_6.keep rfl, Dep.at (V5_6.via (hd 6 (by decide))), V5_10.keep rfl, hO⟩
    simp only [Act.put, List.setIfInBounds_toArray, List.set_cons_zero, List.set_cons_succ]
  · intro l a wr hI hl hd K' hK
    obtain ⟨u36, u37, u38, u39, u40, u41, u35, u42, u43, u9, u8, v41, b9, ha, s0, s1, s2, s3, s4, s5, s6, s7, s8, s10, B9, M5, V5_6, V5_7, V5_10, hO⟩ := hI
    simp only [Act.put, List.setIfInBounds_toArray, List.set_cons_zero, List.set_cons_succ] at ha
    have q6 := s6 (hd 6 (by decide))
    subst ha q6
    go_simp
    refine hK.out _ _ ⟨_, _, _, _, _, _, _, _, _, _, _, v41, _, ?_, s0.keep rfl, s1.keep rfl, s2.keep rfl, s3.keep rfl, s4.keep rfl, s5.keep rfl, s6.keep rfl, s7.keep rfl, Slot.new _ _ _, s10.keep rfl, B9.keep (Off.refl _ wr) rfl rfl, M5.keep (Off.refl _ wr) rfl rfl, V5_6.keep rfl, V5_7.keep rfl, V5_10.keep rfl, hO⟩
    simp only [Act.put, List.setIfInBounds_toArray, List.set_cons_zero, List.set_cons_succ]
  · intro l a wr hI hl hd K' hK
    obtain ⟨u36, u37, u38, u39, u40, u41, u35, u42, u43, u9, u8, v41, b9, ha, s0, s1, s2, s3, s4, s5, s6, s7, s8, s10, B9, M5, V5_6, V5_7, V5_10, hO⟩ := hI
    simp only [Act.put, List.setIfInBounds_toArray, List.set_cons_zero, List.set_cons_succ] at ha
    subst ha
    go_simp
    refine hK.out _ _ ⟨_, _, _, _, _, _, _, _, _, _, _, v41, _, ?_, s0.keep rfl, s1.keep rfl, s2.keep rfl, s3.keep rfl, s4.keep rfl, s5.keep rfl, s6.keep rfl, s7.keep rfl, s8.keep rfl, s10.keep rfl, B9.make hl rfl hO, Lx.made M5 rfl, V5_6.keep rfl, V5_7.keep rfl, V5_10.keep rfl, hO.alloc _⟩
    simp only [Act.put, List.setIfInBounds_toArray, List.set_cons_zero, List.set_cons_succ]
  · intro l a wr hI hl hd K' hK
    obtain ⟨u36, u37, u38, u39, u40, u41, u35, u42, u43, u9, u8, v41, b9, ha, s0, s1, s2, s3, s4, s5, s6, s7, s8, s10, B9, M5, V5_6, V5_7, V5_10, hO⟩ := hI
    simp only [Act.put, List.setIfInBounds_toArray, List.set_cons_zero, List.set_cons_succ] at ha
    have q7 := (s7 (hd 7 (by decide))).symm
    subst ha q7
    go_simp
    refine hK.out _ _ ⟨_, _, _, _, _, _, _, _, _, _, _, v41, _, ?_, s0.keep rfl, s1.keep rfl, s2.keep rfl, s3.keep rfl, s4.keep rfl, s5.keep rfl, s6.keep rfl, s7.keep rfl, s8.keep rfl, Slot.new _ _ _, B9.keep (Off.refl _ wr) rfl rfl, M5.keep (Off.refl _ wr) rfl rfl, V5_6.keep rfl, V5_7.keep rfl, Dep.at (V5_7.via (hd 7 (by decide))), hO⟩
    simp only [Act.put, List.setIfInBounds_toArray, List.set_cons_zero, List.set_cons_succ]
  · intro l a wr hI hl hd K' hK
    obtain ⟨u36, u37, u38, u39, u40, u41, u35, u42, u43, u9, u8, v41, b9, ha, s0, s1, s2, s3, s4, s5, s6, s7, s8, s10, B9, M5, V5_6, V5_7, V5_10, hO⟩ := hI
    simp only [Act.put, List.setIfInBounds_toArray, List.set_cons_zero, List.set_cons_succ] at ha
    have h9 := hd 9 (by decide)
    have q9 := B9.ptr h9
    have q8 := s8 (hd 8 (by decide))
    subst ha q9 q8
    obtain ⟨⟨m0, m1, m2, m3⟩, fz, lt⟩ := zero_cells (B9.was h9 hl)
    go_simp
    refine hK.out _ _ ⟨_, _, _, _, _, _, _, _, _, _, _, v41, _, ?_, s0.keep rfl, s1.keep rfl, s2.keep rfl, s3.keep rfl, s4.keep rfl, s5.keep rfl, s6.keep rfl, s7.keep rfl, s8.keep rfl, s10.keep rfl, B9.put hl h9 rfl rfl, Lx.stored (vs := [.int .u64 (wd rr 0 : Int), .int .u64 (wd rr 1 : Int), .int .u64 (wd rr 2 : Int), .int .u64 (wd rr 3 : Int)]) M5 h9 rfl rfl, V5_6.keep rfl, V5_7.keep rfl, V5_10.keep rfl, setCells_in hO (fun c => absurd c (Nat.not_lt.2 (B9.new h9))) [.int .u64 (wd rr 0 : Int), .int .u64 (wd rr 1 : Int), .int .u64 (wd rr 2 : Int), .int .u64 (wd rr 3 : Int)]⟩
    simp only [Act.put, List.setIfInBounds_toArray, List.set_cons_zero, List.set_cons_succ]
  · intro l a wc hI hd
    obtain ⟨u36, u37, u38, u39, u40, u41, u35, u42, u43, u9, u8, v41, b9, ha, s0, s1, s2, s3, s4, s5, s6, s7, s8, s10, B9, M5, V5_6, V5_7, V5_10, hO⟩ := hI
    simp only [Act.put, List.setIfInBounds_toArray, List.set_cons_zero, List.set_cons_succ] at ha
    have q0 := s0 (hd 0 (by decide))
    have q1 := (s1 (hd 1 (by decide))).symm
    have q2 := s2 (hd 2 (by decide))
    have q3 := s3 (hd 3 (by decide))
    have q4 := s4 (hd 4 (by decide))
    have q5 := s5 (hd 5 (by decide))
    have q6 := s6 (hd 6 (by decide))
    have q7 := (s7 (hd 7 (by decide))).symm
    have q8 := s8 (hd 8 (by decide))
    have q10 := (s10 (hd 10 (by decide))).symm
    have q9 := B9.ptr (hd 9 (by decide))
    have n9 : wc.heap[b9]? = some (.cells #[.int .u64 (wd rr 0 : Int), .int .u64 (wd rr 1 : Int), .int .u64 (wd rr 2 : Int), .int .u64 (wd rr 3 : Int)] 26) := B9.now (hd 9 (by decide)) (hd 11 (by decide))
    have v9 := B9.new (hd 9 (by decide))
    have m41 := M5 (hd 5 (by decide))
    subst ha q0 q1 q2 q3 q4 q5 q6 q7 q8 q9 q10
    clear hd s0 s1 s2 s3 s4 s5 s6 s7 s8 s10 B9 M5 V5_6 V5_7 V5_10
    obtain ⟨zq, hzq⟩ : ∃ zq, zq = v41 := ⟨_, rfl⟩
    subst hzq
    obtain ⟨u4, hu4⟩ : ∃ u4, u4 = wc := ⟨_, rfl⟩
    subst hu4
    have k1 := hO.heap L1.out (fun c => c)
    have k2 := hO.heap L2.out (fun c => c)
    have hz4 := L4.out.off hO
    have hzm := HM.out.off hO
    have hzq := Ls.of m41
    have FEv := Lib.hid (show ∀ W, Off (fun _ => False) u4 W → _ from fun W h => FE.out W z4 (hz4.off h))
    have FSm := Lib.hid (show ∀ W v, Off (fun _ => False) u4 W → Ls W v [1, 2, 1] → _ from fun W v h k => FS1.out W zm v (hzm.off h) k)
    have FSq := Lib.hid (show ∀ W v, Off (fun _ => False) u4 W → Ls W v [32, 3] → _ from fun W v h k => FS2.out W zq v (hzq.off h) k)
    have HK6 : Hid (∀ W', Off (fun _ => False) u4 W' → (W'.cell? ⟨fb, 0, none⟩ = some (.int .i64 id) ∧ W'.cell? ⟨fb, 1, none⟩ = some (.int .u64 (wd p 0 : Int)) ∧ W'.cell? ⟨fb, 2, none⟩ = some (.int .u64 (wd p 1 : Int)) ∧ W'.cell? ⟨fb, 3, none⟩ = some (.int .u64 (wd p 2 : Int)) ∧ W'.cell? ⟨fb, 4, none⟩ = some (.int .u64 (wd p 3 : Int)) ∧ W'.cell? ⟨fb, 5, none⟩ = some (.int .u64 (i : Int)) ∧ W'.cell? ⟨fb, 6, none⟩ = some (.int .u64 (wd r 0 : Int)) ∧ W'.cell? ⟨fb, 7, none⟩ = some (.int .u64 (wd r 1 : Int)) ∧ W'.cell? ⟨fb, 8, none⟩ = some (.int .u64 (wd r 2 : Int)) ∧ W'.cell? ⟨fb, 9, none⟩ = some (.int .u64 (wd r 3 : Int)) ∧ W'.cell? ⟨fb, 10, none⟩ = some (.int .u64 (wd s 0 : Int)) ∧ W'.cell? ⟨fb, 11, none⟩ = some (.int .u64 (wd s 1 : Int)) ∧ W'.cell? ⟨fb, 12, none⟩ = some (.int .u64 (wd s 2 : Int)) ∧ W'.cell? ⟨fb, 13, none⟩ = some (.int .u64 (wd s 3 : Int))) ∧ (W'.cell? ⟨pb, 0, none⟩ = some (.int .u64 (wd p 0 : Int)) ∧ W'.cell? ⟨pb, 1, none⟩ = some (.int .u64 (wd p 1 : Int)) ∧ W'.cell? ⟨pb, 2, none⟩ = some (.int .u64 (wd p 2 : Int)) ∧ W'.cell? ⟨pb, 3, none⟩ = some (.int .u64 (wd p 3 : Int))) ∧ (W'.cell? ⟨b9, 0, none⟩ = some (.int .u64 (wd rr 0 : Int)) ∧ W'.cell? ⟨b9, 1, none⟩ = some (.int .u64 (wd rr 1 : Int)) ∧ W'.cell? ⟨b9, 2, none⟩ = some (.int .u64 (wd rr 2 : Int)) ∧ W'.cell? ⟨b9, 3, none⟩ = some (.int .u64 (wd rr 3 : Int))) ∧ Off (fun _ => False) u4 W') := Lib.hid (fun W' h => ⟨fv_cells (h.heap k1 (fun c => c)), cells4 (h.heap k2 (fun c => c)), cells4 (h.heap n9 (fun c => c)), h⟩)
    have HOf := Lib.hid (L3.out.trans hO (fun _ _ c => c))
    clear k1 k2 hz4 hzm hzq hO n9 v9 m41 FQu
    go_upto_region 6 with fail
    obtain ⟨x44, hx⟩ : ∃ x : Value, x = FV id p i r s := ⟨_, rfl⟩
    have X44 := Lib.hid hx
    clear hx
    obtain ⟨x45, hx⟩ : ∃ x : Value, x = z4 := ⟨_, rfl⟩
    have X45 := Lib.hid hx
    clear hx
    obtain ⟨x46, hx⟩ : ∃ x : Value, x = V p := ⟨_, rfl⟩
    have X46 := Lib.hid hx
    clear hx
    obtain ⟨x47, hx⟩ : ∃ x : Value, x = .agg #[.int .u64 10, .int .u64 0, .int .u64 0, .int .u64 0] := ⟨_, rfl⟩
    have X47 := Lib.hid hx
    clear hx
    obtain ⟨x48, hx⟩ : ∃ x : Value, x = V y := ⟨_, rfl⟩
    have X48 := Lib.hid hx
    clear hx
    obtain ⟨x49, hx⟩ : ∃ x : Value, x = V rr := ⟨_, rfl⟩
    have X49 := Lib.hid hx
    clear hx
    obtain ⟨x50, hx⟩ : ∃ x : Value, x = V p := ⟨_, rfl⟩
    have X50 := Lib.hid hx
    clear hx
    obtain ⟨x51, hx⟩ : ∃ x : Value, x = .agg #[.int .u64 321, .int .u64 0, .int .u64 0, .int .u64 0] := ⟨_, rfl⟩
    have X51 := Lib.hid hx
    clear hx
    obtain ⟨x52, hx⟩ : ∃ x : Value, x = V rr := ⟨_, rfl⟩
    have X52 := Lib.hid hx
    clear hx
    obtain ⟨x53, hx⟩ : ∃ x : Value, x = .bool true := ⟨_, rfl⟩
    have X53 := Lib.hid hx
    clear hx
    obtain ⟨x54, hx⟩ : ∃ x : Value, x = .bool true := ⟨_, rfl⟩
    have X54 := Lib.hid hx
    clear hx
    obtain ⟨x55, hx⟩ : ∃ x : Value, x = V p := ⟨_, rfl⟩
    have X55 := Lib.hid hx
    clear hx
    obtain ⟨x56, hx⟩ : ∃ x : Value, x = zm := ⟨_, rfl⟩
    have X56 := Lib.hid hx
    clear hx
    obtain ⟨x57, hx⟩ : ∃ x : Value, x = .agg #[.int .u64 1, .int .u64 0, .int .u64 0, .int .u64 0] := ⟨_, rfl⟩
    have X57 := Lib.hid hx
    clear hx
    obtain ⟨x58, hx⟩ : ∃ x : Value, x = .agg #[.int .u64 2, .int .u64 0, .int .u64 0, .int .u64 0] := ⟨_, rfl⟩
    have X58 := Lib.hid hx
    clear hx
    obtain ⟨x59, hx⟩ : ∃ x : Value, x = .agg #[.int .u64 1, .int .u64 0, .int .u64 0, .int .u64 0] := ⟨_, rfl⟩
    have X59 := Lib.hid hx
    clear hx
    obtain ⟨x61, hx⟩ : ∃ x : Value, x = .bool true := ⟨_, rfl⟩
    have X61 := Lib.hid hx
    clear hx
    obtain ⟨x62, hx⟩ : ∃ x : Value, x = .bool true := ⟨_, rfl⟩
    have X62 := Lib.hid hx
    clear hx
    obtain ⟨x63, hx⟩ : ∃ x : Value, x = .bool true := ⟨_, rfl⟩
    have X63 := Lib.hid hx
    clear hx
    obtain ⟨x64, hx⟩ : ∃ x : Value, x = V p := ⟨_, rfl⟩
    have X64 := Lib.hid hx
    clear hx
    obtain ⟨x65, hx⟩ : ∃ x : Value, x = zq := ⟨_, rfl⟩
    have X65 := Lib.hid hx
    clear hx
    obtain ⟨x66, hx⟩ : ∃ x : Value, x = .agg #[.int .u64 32, .int .u64 0, .int .u64 0, .int .u64 0] := ⟨_, rfl⟩
    have X66 := Lib.hid hx
    clear hx
    obtain ⟨x67, hx⟩ : ∃ x : Value, x = .agg #[.int .u64 3, .int .u64 0, .int .u64 0, .int .u64 0] := ⟨_, rfl⟩
    have X67 := Lib.hid hx
    clear hx
    obtain ⟨x69, hx⟩ : ∃ x : Value, x = .bool true := ⟨_, rfl⟩
    have X69 := Lib.hid hx
    clear hx
    obtain ⟨x70, hx⟩ : ∃ x : Value, x = .bool true := ⟨_, rfl⟩
    have X70 := Lib.hid hx
    clear hx
    obtain ⟨x71, hx⟩ : ∃ x : Value, x = .bool true := ⟨_, rfl⟩
    have X71 := Lib.hid hx
    clear hx
    obtain ⟨x72, hx⟩ : ∃ x : Value, x = V rr := ⟨_, rfl⟩
    have X72 := Lib.hid hx
    clear hx
    obtain ⟨x73, hx⟩ : ∃ x : Value, x = V p := ⟨_, rfl⟩
    have X73 := Lib.hid hx
    clear hx
    obtain ⟨x74, hx⟩ : ∃ x : Value, x = .agg #[.int .u64 321, .int .u64 0, .int .u64 0, .int .u64 0] := ⟨_, rfl⟩
    have X74 := Lib.hid hx
    clear hx
    obtain ⟨x75, hx⟩ : ∃ x : Value, x = V rr := ⟨_, rfl⟩
    have X75 := Lib.hid hx
    clear hx
    obtain ⟨x76, hx⟩ : ∃ x : Value, x = .bool true := ⟨_, rfl⟩
    have X76 := Lib.hid hx
    clear hx
    obtain ⟨x77, hx⟩ : ∃ x : Value, x = .bool true := ⟨_, rfl⟩
    have X77 := Lib.hid hx
    clear hx
    obtain ⟨x0, hx⟩ : ∃ x : Value, x = .bool true := ⟨_, rfl⟩
    have X0 := Lib.hid hx
    clear hx
    refine wp_region_inv (fun a0 l a' w' => ∃ (u60 : Value), ∃ (u68 : Value), a' = (Act.put (fill a0 44 [sel (l 0) x44 undef, sel (l 1) x45 undef, sel (l 2) x46 undef, sel (l 3) x47 undef, sel (l 4) x48 undef, sel (l 5) x49 undef, sel (l 6) x50 undef, sel (l 7) x51 undef, sel (l 8) x52 undef, sel (l 9) x53 undef, sel (l 10) x54 undef, sel (l 11) x55 undef, sel (l 12) x56 undef, sel (l 13) x57 undef, sel (l 14) x58 undef, sel (l 15) x59 undef, sel (l 16) u60 undef, sel (l 17) x61 undef, sel (l 18) x62 undef, sel (l 19) x63 undef, sel (l 20) x64 undef, sel (l 21) x65 undef, sel (l 22) x66 undef, sel (l 23) x67 undef, sel (l 24) u68 undef, sel (l 25) x69 undef, sel (l 26) x70 undef, sel (l 27) x71 undef, sel (l 28) x72 undef, sel (l 29) x73 undef, sel (l 30) x74 undef, sel (l 31) x75 undef, sel (l 32) x76 undef, sel (l 33) x77 undef]) (some 0) (sel (l 34) x0 (.bool false))) ∧ Lk l 16 u60 w' ([1, 2, 1]) ∧ Lk l 24 u68 w' ([32, 3]) ∧ Off (fun _ => False) u4 w') (by kernel_rfl) (by kernel_rfl) ?_ ⟨?_, ?_, ?_, ?_, ?_, ?_, ?_, ?_, ?_, ?_, ?_, ?_, ?_, ?_, ?_, ?_, ?_, ?_, ?_, ?_, ?_, ?_, ?_, ?_, ?_, ?_, ?_, ?_, ?_, ?_, ?_, ?_, ?_, ?_, ?_, trivial⟩ ?_
    · refine ⟨undef, undef, ?_, Lk.start _ _ _ _, Lk.start _ _ _ _, (Off.refl _ u4).drew⟩
      simp only [fill_eq, List.take_succ_cons, List.take_zero, List.cons_append, List.nil_append, Act.put, List.setIfInBounds_toArray, List.set_cons_zero, List.set_cons_succ, sel_start]
    · as_aux_lemma =>
        rintro l a wr ⟨u60, u68, ha, M16, M24, hO⟩ hl hd K' hK
        have hx := X44.out; subst hx
        simp only [fill_eq, List.take_succ_cons, List.take_zero, List.cons_append, List.nil_append, Act.put, List.setIfInBounds_toArray, List.set_cons_zero, List.set_cons_succ] at ha
        subst ha
        have hc := HK6.out wr hO
        have p0 := hc.1.1
        have p1 := hc.1.2.1
        have p2 := hc.1.2.2.1
        have p3 := hc.1.2.2.2.1
        have p4 := hc.1.2.2.2.2.1
        have p5 := hc.1.2.2.2.2.2.1
        have p6 := hc.1.2.2.2.2.2.2.1
        have p7 := hc.1.2.2.2.2.2.2.2.1
        have p8 := hc.1.2.2.2.2.2.2.2.2.1
        have p9 := hc.1.2.2.2.2.2.2.2.2.2.1
        have p10 := hc.1.2.2.2.2.2.2.2.2.2.2.1
        have p11 := hc.1.2.2.2.2.2.2.2.2.2.2.2.1
        have p12 := hc.1.2.2.2.2.2.2.2.2.2.2.2.2.1
        have p13 := hc.1.2.2.2.2.2.2.2.2.2.2.2.2.2
        clear hc
        rw [if_pos (by rfl)]
        go_simp
        refine hK.out _ _ ⟨u60, u68, ?_, M16.keep (Off.refl _ wr) rfl, M24.keep (Off.refl _ wr) rfl, hO⟩
        simp only [fill_eq, List.take_succ_cons, List.take_zero, List.cons_append, List.nil_append, Act.put, List.setIfInBounds_toArray, List.set_cons_zero, List.set_cons_succ, sel_new]
        rfl
    · as_aux_lemma =>
        rintro l a wr ⟨u60, u68, ha, M16, M24, hO⟩ hl hd K' hK
        have hx := X45.out; subst hx
        simp only [fill_eq, List.take_succ_cons, List.take_zero, List.cons_append, List.nil_append, Act.put, List.setIfInBounds_toArray, List.set_cons_zero, List.set_cons_succ] at ha
        subst ha
        rw [if_pos (by rfl)]
        go_simp
        refine hK.out _ _ ⟨u60, u68, ?_, M16.keep (Off.refl _ wr) rfl, M24.keep (Off.refl _ wr) rfl, hO⟩
        simp only [fill_eq, List.take_succ_cons, List.take_zero, List.cons_append, List.nil_append, Act.put, List.setIfInBounds_toArray, List.set_cons_zero, List.set_cons_succ, sel_new]
        rfl
    · as_aux_lemma =>
        rintro l a wr ⟨u60, u68, ha, M16, M24, hO⟩ hl hd K' hK
        have hx := X46.out; subst hx
        simp only [fill_eq, List.take_succ_cons, List.take_zero, List.cons_append, List.nil_append, Act.put, List.setIfInBounds_toArray, List.set_cons_zero, List.set_cons_succ] at ha
        subst ha
        have hc := HK6.out wr hO
        have p0 := hc.2.1.1
        have p1 := hc.2.1.2.1
        have p2 := hc.2.1.2.2.1
        have p3 := hc.2.1.2.2.2
        clear hc
        rw [if_pos (by rfl)]
        go_simp
        refine hK.out _ _ ⟨u60, u68, ?_, M16.keep (Off.refl _ wr) rfl, M24.keep (Off.refl _ wr) rfl, hO⟩
        simp only [fill_eq, List.take_succ_cons, List.take_zero, List.cons_append, List.nil_append, Act.put, List.setIfInBounds_toArray, List.set_cons_zero, List.set_cons_succ, sel_new]
        rfl
    · as_aux_lemma =>
        rintro l a wr ⟨u60, u68, ha, M16, M24, hO⟩ hl hd K' hK
        have hx := X47.out; subst hx
        simp only [fill_eq, List.take_succ_cons, List.take_zero, List.cons_append, List.nil_append, Act.put, List.setIfInBounds_toArray, List.set_cons_zero, List.set_cons_succ] at ha
        subst ha
        rw [if_pos (by rfl)]
        go_simp
        refine hK.out _ _ ⟨u60, u68, ?_, M16.keep (Off.refl _ wr) rfl, M24.keep (Off.refl _ wr) rfl, hO⟩
        simp only [fill_eq, List.take_succ_cons, List.take_zero, List.cons_append, List.nil_append, Act.put, List.setIfInBounds_toArray, List.set_cons_zero, List.set_cons_succ, sel_new]
        rfl
    · as_aux_lemma =>
        rintro l a wr ⟨u60, u68, ha, M16, M24, hO⟩ hl hd K' hK
        have d2 := hd 2 (by decide)
        have d3 := hd 3 (by decide)
        have hx := X46.out; subst hx
        have hx := X47.out; subst hx
        have hx := X48.out; subst hx
        simp only [fill_eq, List.take_succ_cons, List.take_zero, List.cons_append, List.nil_append, Act.put, List.setIfInBounds_toArray, List.set_cons_zero, List.set_cons_succ, sel_of d2, sel_of d3] at ha
        subst ha
        rw [if_pos (by rfl)]
        go_simp
        refine (held_inv (FF10.out wr) hO).mono ?_
        rintro e w1 ⟨rfl, hO1, hOW⟩
        go_wp2_with fail
        refine hK.out _ _ ⟨u60, u68, ?_, M16.keep hOW rfl, M24.keep hOW rfl, hO1⟩
        simp only [fill_eq, List.take_succ_cons, List.take_zero, List.cons_append, List.nil_append, Act.put, List.setIfInBounds_toArray, List.set_cons_zero, List.set_cons_succ, sel_new, sel_dep d2, sel_dep d3]
        rfl
    · as_aux_lemma =>
        rintro l a wr ⟨u60, u68, ha, M16, M24, hO⟩ hl hd K' hK
        have d0 := hd 0 (by decide)
        have d1 := hd 1 (by decide)
        have d4 := hd 4 (by decide)
        have hx := X44.out; subst hx
        have hx := X45.out; subst hx
        have hx := X48.out; subst hx
        have hx := X49.out; subst hx
        simp only [fill_eq, List.take_succ_cons, List.take_zero, List.cons_append, List.nil_append, Act.put, List.setIfInBounds_toArray, List.set_cons_zero, List.set_cons_succ, sel_of d0, sel_of d1, sel_of d4] at ha
        subst ha
        rw [if_pos (by rfl)]
        go_simp
        refine (held_inv (FEv.out wr hO) hO).mono ?_
        rintro e w1 ⟨rfl, hO1, hOW⟩
        go_wp2_with fail
        refine hK.out _ _ ⟨u60, u68, ?_, M16.keep hOW rfl, M24.keep hOW rfl, hO1⟩
        simp only [fill_eq, List.take_succ_cons, List.take_zero, List.cons_append, List.nil_append, Act.put, List.setIfInBounds_toArray, List.set_cons_zero, List.set_cons_succ, sel_new, sel_dep d0, sel_dep d1, sel_dep d4]
        rfl
    · as_aux_lemma =>
        rintro l a wr ⟨u60, u68, ha, M16, M24, hO⟩ hl hd K' hK
        have hx := X50.out; subst hx
        simp only [fill_eq, List.take_succ_cons, List.take_zero, List.cons_append, List.nil_append, Act.put, List.setIfInBounds_toArray, List.set_cons_zero, List.set_cons_succ] at ha
        subst ha
        have hc := HK6.out wr hO
        have p0 := hc.2.1.1
        have p1 := hc.2.1.2.1
        have p2 := hc.2.1.2.2.1
        have p3 := hc.2.1.2.2.2
        clear hc
        rw [if_pos (by rfl)]
        go_simp
        refine hK.out _ _ ⟨u60, u68, ?_, M16.keep (Off.refl _ wr) rfl, M24.keep (Off.refl _ wr) rfl, hO⟩
        simp only [fill_eq, List.take_succ_cons, List.take_zero, List.cons_append, List.nil_append, Act.put, List.setIfInBounds_toArray, List.set_cons_zero, List.set_cons_succ, sel_new]
        rfl
    · as_aux_lemma =>
        rintro l a wr ⟨u60, u68, ha, M16, M24, hO⟩ hl hd K' hK
        have hx := X51.out; subst hx
        simp only [fill_eq, List.take_succ_cons, List.take_zero, List.cons_append, List.nil_append, Act.put, List.setIfInBounds_toArray, List.set_cons_zero, List.set_cons_succ] at ha
        subst ha
        rw [if_pos (by rfl)]
        go_simp
        refine hK.out _ _ ⟨u60, u68, ?_, M16.keep (Off.refl _ wr) rfl, M24.keep (Off.refl _ wr) rfl, hO⟩
        simp only [fill_eq, List.take_succ_cons, List.take_zero, List.cons_append, List.nil_append, Act.put, List.setIfInBounds_toArray, List.set_cons_zero, List.set_cons_succ, sel_new]
        rfl
    · as_aux_lemma =>
        rintro l a wr ⟨u60, u68, ha, M16, M24, hO⟩ hl hd K' hK
        have d6 := hd 6 (by decide)
        have d7 := hd 7 (by decide)
        have hx := X50.out; subst hx
        have hx := X51.out; subst hx
        have hx := X52.out; subst hx
        simp only [fill_eq, List.take_succ_cons, List.take_zero, List.cons_append, List.nil_append, Act.put, List.setIfInBounds_toArray, List.set_cons_zero, List.set_cons_succ, sel_of d6, sel_of d7] at ha
        subst ha
        rw [if_pos (by rfl)]
        go_simp
        refine (held_inv (FF321.out wr) hO).mono ?_
        rintro e w1 ⟨rfl, hO1, hOW⟩
        go_wp2_with fail
        refine hK.out _ _ ⟨u60, u68, ?_, M16.keep hOW rfl, M24.keep hOW rfl, hO1⟩
        simp only [fill_eq, List.take_succ_cons, List.take_zero, List.cons_append, List.nil_append, Act.put, List.setIfInBounds_toArray, List.set_cons_zero, List.set_cons_succ, sel_new, sel_dep d6, sel_dep d7]
        rfl
    · as_aux_lemma =>
        rintro l a wr ⟨u60, u68, ha, M16, M24, hO⟩ hl hd K' hK
        have d5 := hd 5 (by decide)
        have d8 := hd 8 (by decide)
        have hx := X49.out; subst hx
        have hx := X52.out; subst hx
        have hx := X53.out; subst hx
        simp only [fill_eq, List.take_succ_cons, List.take_zero, List.cons_append, List.nil_append, Act.put, List.setIfInBounds_toArray, List.set_cons_zero, List.set_cons_succ, sel_of d5, sel_of d8] at ha
        subst ha
        rw [if_pos (by rfl)]
        go_simp
        refine hK.out _ _ ⟨u60, u68, ?_, M16.keep (Off.refl _ wr) rfl, M24.keep (Off.refl _ wr) rfl, hO⟩
        simp only [fill_eq, List.take_succ_cons, List.take_zero, List.cons_append, List.nil_append, Act.put, List.setIfInBounds_toArray, List.set_cons_zero, List.set_cons_succ, sel_new, sel_dep d5, sel_dep d8]
        rfl
    · as_aux_lemma =>
        rintro l a wr ⟨u60, u68, ha, M16, M24, hO⟩ hl hd K' hK
        have d9 := hd 9 (by decide)
        have hx := X53.out; subst hx
        have hx := X54.out; subst hx
        simp only [fill_eq, List.take_succ_cons, List.take_zero, List.cons_append, List.nil_append, Act.put, List.setIfInBounds_toArray, List.set_cons_zero, List.set_cons_succ, sel_of d9] at ha
        subst ha
        rw [if_pos (by rfl)]
        go_simp
        refine hK.out _ _ ⟨u60, u68, ?_, M16.keep (Off.refl _ wr) rfl, M24.keep (Off.refl _ wr) rfl, hO⟩
        simp only [fill_eq, List.take_succ_cons, List.take_zero, List.cons_append, List.nil_append, Act.put, List.setIfInBounds_toArray, List.set_cons_zero, List.set_cons_succ, sel_new, sel_dep d9]
        rfl
    · as_aux_lemma =>
        rintro l a wr ⟨u60, u68, ha, M16, M24, hO⟩ hl hd K' hK
        have d10 := hd 10 (by decide)
        have hx := X54.out; subst hx
        have hx := X55.out; subst hx
        simp only [fill_eq, List.take_succ_cons, List.take_zero, List.cons_append, List.nil_append, Act.put, List.setIfInBounds_toArray, List.set_cons_zero, List.set_cons_succ, sel_of d10] at ha
        subst ha
        have hc := HK6.out wr hO
        have p0 := hc.2.1.1
        have p1 := hc.2.1.2.1
        have p2 := hc.2.1.2.2.1
        have p3 := hc.2.1.2.2.2
        clear hc
        rw [if_pos (by rfl)]
        go_simp
        refine hK.out _ _ ⟨u60, u68, ?_, M16.keep (Off.refl _ wr) rfl, M24.keep (Off.refl _ wr) rfl, hO⟩
        simp only [fill_eq, List.take_succ_cons, List.take_zero, List.cons_append, List.nil_append, Act.put, List.setIfInBounds_toArray, List.set_cons_zero, List.set_cons_succ, sel_new, sel_dep d10]
        rfl
    · as_aux_lemma =>
        rintro l a wr ⟨u60, u68, ha, M16, M24, hO⟩ hl hd K' hK
        have d10 := hd 10 (by decide)
        have hx := X54.out; subst hx
        have hx := X56.out; subst hx
        simp only [fill_eq, List.take_succ_cons, List.take_zero, List.cons_append, List.nil_append, Act.put, List.setIfInBounds_toArray, List.set_cons_zero, List.set_cons_succ, sel_of d10] at ha
        subst ha
        rw [if_pos (by rfl)]
        go_simp
        refine hK.out _ _ ⟨u60, u68, ?_, M16.keep (Off.refl _ wr) rfl, M24.keep (Off.refl _ wr) rfl, hO⟩
        simp only [fill_eq, List.take_succ_cons, List.take_zero, List.cons_append, List.nil_append, Act.put, List.setIfInBounds_toArray, List.set_cons_zero, List.set_cons_succ, sel_new, sel_dep d10]
        rfl
    · as_aux_lemma =>
        rintro l a wr ⟨u60, u68, ha, M16, M24, hO⟩ hl hd K' hK
        have d10 := hd 10 (by decide)
        have hx := X54.out; subst hx
        have hx := X57.out; subst hx
        simp only [fill_eq, List.take_succ_cons, List.take_zero, List.cons_append, List.nil_append, Act.put, List.setIfInBounds_toArray, List.set_cons_zero, List.set_cons_succ, sel_of d10] at ha
        subst ha
        rw [if_pos (by rfl)]
        go_simp
        refine hK.out _ _ ⟨u60, u68, ?_, M16.keep (Off.refl _ wr) rfl, M24.keep (Off.refl _ wr) rfl, hO⟩
        simp only [fill_eq, List.take_succ_cons, List.take_zero, List.cons_append, List.nil_append, Act.put, List.setIfInBounds_toArray, List.set_cons_zero, List.set_cons_succ, sel_new, sel_dep d10]
        rfl
    · as_aux_lemma =>
        rintro l a wr ⟨u60, u68, ha, M16, M24, hO⟩ hl hd K' hK
        have d10 := hd 10 (by decide)
        have hx := X54.out; subst hx
        have hx := X58.out; subst hx
        simp only [fill_eq, List.take_succ_cons, List.take_zero, List.cons_append, List.nil_append, Act.put, List.setIfInBounds_toArray, List.set_cons_zero, List.set_cons_succ, sel_of d10] at ha
        subst ha
        rw [if_pos (by rfl)]
        go_simp
        refine hK.out _ _ ⟨u60, u68, ?_, M16.keep (Off.refl _ wr) rfl, M24.keep (Off.refl _ wr) rfl, hO⟩
        simp only [fill_eq, List.take_succ_cons, List.take_zero, List.cons_append, List.nil_append, Act.put, List.setIfInBounds_toArray, List.set_cons_zero, List.set_cons_succ, sel_new, sel_dep d10]
        rfl
    · as_aux_lemma =>
        rintro l a wr ⟨u60, u68, ha, M16, M24, hO⟩ hl hd K' hK
        have d10 := hd 10 (by decide)
        have hx := X54.out; subst hx
        have hx := X59.out; subst hx
        simp only [fill_eq, List.take_succ_cons, List.take_zero, List.cons_append, List.nil_append, Act.put, List.setIfInBounds_toArray, List.set_cons_zero, List.set_cons_succ, sel_of d10] at ha
        subst ha
        rw [if_pos (by rfl)]
        go_simp
        refine hK.out _ _ ⟨u60, u68, ?_, M16.keep (Off.refl _ wr) rfl, M24.keep (Off.refl _ wr) rfl, hO⟩
        simp only [fill_eq, List.take_succ_cons, List.take_zero, List.cons_append, List.nil_append, Act.put, List.setIfInBounds_toArray, List.set_cons_zero, List.set_cons_succ, sel_new, sel_dep d10]
        rfl
    · (
        rintro l a wr ⟨u60, u68, ha, M16, M24, hO⟩ hl hd K' hK
        have d10 := hd 10 (by decide)
        have d13 := hd 13 (by decide)
        have d14 := hd 14 (by decide)
        have d15 := hd 15 (by decide)
        have hx := X54.out; subst hx
        have hx := X57.out; subst hx
        have hx := X58.out; subst hx
        have hx := X59.out; subst hx
        simp only [fill_eq, List.take_succ_cons, List.take_zero, List.cons_append, List.nil_append, Act.put, List.setIfInBounds_toArray, List.set_cons_zero, List.set_cons_succ, sel_of d10, sel_of d13, sel_of d14, sel_of d15] at ha
        subst ha
        rw [if_pos (by rfl)]
        go_simp
        refine hK.out _ _ ⟨_, u68, ?_, fun _ => build121 wr, M24.keep ((Off.refl _ wr).alloc _) rfl, hO.alloc _⟩
        simp only [fill_eq, List.take_succ_cons, List.take_zero, List.cons_append, List.nil_append, Act.put, List.setIfInBounds_toArray, List.set_cons_zero, List.set_cons_succ, sel_new, sel_dep d10, sel_dep d13, sel_dep d14, sel_dep d15]
        rfl)
    · as_aux_lemma =>
        rintro l a wr ⟨u60, u68, ha, M16, M24, hO⟩ hl hd K' hK
        have d10 := hd 10 (by decide)
        have d11 := hd 11 (by decide)
        have d12 := hd 12 (by decide)
        have d16 := hd 16 (by decide)
        have hx := X54.out; subst hx
        have hx := X55.out; subst hx
        have hx := X56.out; subst hx
        have m16 := M16 d16
        have hx := X61.out; subst hx
        simp only [fill_eq, List.take_succ_cons, List.take_zero, List.cons_append, List.nil_append, Act.put, List.setIfInBounds_toArray, List.set_cons_zero, List.set_cons_succ, sel_of d10, sel_of d11, sel_of d12, sel_of d16] at ha
        subst ha
        rw [if_pos (by rfl)]
        go_simp
        refine (held_inv (FSm.out wr u60 hO m16) hO).mono ?_
        rintro e w1 ⟨rfl, hO1, hOW⟩
        go_wp2_with fail
        refine hK.out _ _ ⟨u60, u68, ?_, M16.keep hOW rfl, M24.keep hOW rfl, hO1⟩
        simp only [fill_eq, List.take_succ_cons, List.take_zero, List.cons_append, List.nil_append, Act.put, List.setIfInBounds_toArray, List.set_cons_zero, List.set_cons_succ, sel_new, sel_dep d10, sel_dep d11, sel_dep d12, sel_dep d16]
        rfl
    · as_aux_lemma =>
        rintro l a wr ⟨u60, u68, ha, M16, M24, hO⟩ hl hd K' hK
        have d10 := hd 10 (by decide)
        have d17 := hd 17 (by decide)
        have hx := X54.out; subst hx
        have hx := X61.out; subst hx
        have hx := X62.out; subst hx
        simp only [fill_eq, List.take_succ_cons, List.take_zero, List.cons_append, List.nil_append, Act.put, List.setIfInBounds_toArray, List.set_cons_zero, List.set_cons_succ, sel_of d10, sel_of d17] at ha
        subst ha
        rw [if_pos (by rfl)]
        go_simp
        refine hK.out _ _ ⟨u60, u68, ?_, M16.keep (Off.refl _ wr) rfl, M24.keep (Off.refl _ wr) rfl, hO⟩
        simp only [fill_eq, List.take_succ_cons, List.take_zero, List.cons_append, List.nil_append, Act.put, List.setIfInBounds_toArray, List.set_cons_zero, List.set_cons_succ, sel_new, sel_dep d10, sel_dep d17]
        rfl
    · as_aux_lemma =>
        rintro l a wr ⟨u60, u68, ha, M16, M24, hO⟩ hl hd K' hK
        have d18 := hd 18 (by decide)
        have hx := X62.out; subst hx
        have hx := X63.out; subst hx
        simp only [fill_eq, List.take_succ_cons, List.take_zero, List.cons_append, List.nil_append, Act.put, List.setIfInBounds_toArray, List.set_cons_zero, List.set_cons_succ, sel_of d18] at ha
        subst ha
        rw [if_pos (by rfl)]
        go_simp
        refine hK.out _ _ ⟨u60, u68, ?_, M16.keep (Off.refl _ wr) rfl, M24.keep (Off.refl _ wr) rfl, hO⟩
        simp only [fill_eq, List.take_succ_cons, List.take_zero, List.cons_append, List.nil_append, Act.put, List.setIfInBounds_toArray, List.set_cons_zero, List.set_cons_succ, sel_new, sel_dep d18]
        rfl
    · as_aux_lemma =>
        rintro l a wr ⟨u60, u68, ha, M16, M24, hO⟩ hl hd K' hK
        have d19 := hd 19 (by decide)
        have hx := X63.out; subst hx
        have hx := X64.out; subst hx
        simp only [fill_eq, List.take_succ_cons, List.take_zero, List.cons_append, List.nil_append, Act.put, List.setIfInBounds_toArray, List.set_cons_zero, List.set_cons_succ, sel_of d19] at ha
        subst ha
        have hc := HK6.out wr hO
        have p0 := hc.2.1.1
        have p1 := hc.2.1.2.1
        have p2 := hc.2.1.2.2.1
        have p3 := hc.2.1.2.2.2
        clear hc
        rw [if_pos (by rfl)]
        go_simp
        refine hK.out _ _ ⟨u60, u68, ?_, M16.keep (Off.refl _ wr) rfl, M24.keep (Off.refl _ wr) rfl, hO⟩
        simp only [fill_eq, List.take_succ_cons, List.take_zero, List.cons_append, List.nil_append, Act.put, List.setIfInBounds_toArray, List.set_cons_zero, List.set_cons_succ, sel_new, sel_dep d19]
        rfl
    · as_aux_lemma =>
        rintro l a wr ⟨u60, u68, ha, M16, M24, hO⟩ hl hd K' hK
        have d19 := hd 19 (by decide)
        have hx := X63.out; subst hx
        have hx := X65.out; subst hx
        simp only [fill_eq, List.take_succ_cons, List.take_zero, List.cons_append, List.nil_append, Act.put, List.setIfInBounds_toArray, List.set_cons_zero, List.set_cons_succ, sel_of d19] at ha
        subst ha
        rw [if_pos (by rfl)]
        go_simp
        refine hK.out _ _ ⟨u60, u68, ?_, M16.keep (Off.refl _ wr) rfl, M24.keep (Off.refl _ wr) rfl, hO⟩
        simp only [fill_eq, List.take_succ_cons, List.take_zero, List.cons_append, List.nil_append, Act.put, List.setIfInBounds_toArray, List.set_cons_zero, List.set_cons_succ, sel_new, sel_dep d19]
        rfl
    · as_aux_lemma =>
        rintro l a wr ⟨u60, u68, ha, M16, M24, hO⟩ hl hd K' hK
        have d19 := hd 19 (by decide)
        have hx := X63.out; subst hx
        have hx := X66.out; subst hx
        simp only [fill_eq, List.take_succ_cons, List.take_zero, List.cons_append, List.nil_append, Act.put, List.setIfInBounds_toArray, List.set_cons_zero, List.set_cons_succ, sel_of d19] at ha
        subst ha
        rw [if_pos (by rfl)]
        go_simp
        refine hK.out _ _ ⟨u60, u68, ?_, M16.keep (Off.refl _ wr) rfl, M24.keep (Off.refl _ wr) rfl, hO⟩
        simp only [fill_eq, List.take_succ_cons, List.take_zero, List.cons_append, List.nil_append, Act.put, List.setIfInBounds_toArray, List.set_cons_zero, List.set_cons_succ, sel_new, sel_dep d19]
        rfl
    · as_aux_lemma =>
        rintro l a wr ⟨u60, u68, ha, M16, M24, hO⟩ hl hd K' hK
        have d19 := hd 19 (by decide)
        have hx := X63.out; subst hx
        have hx := X67.out; subst hx
        simp only [fill_eq, List.take_succ_cons, List.take_zero, List.cons_append, List.nil_append, Act.put, List.setIfInBounds_toArray, List.set_cons_zero, List.set_cons_succ, sel_of d19] at ha
        subst ha
        rw [if_pos (by rfl)]
        go_simp
        refine hK.out _ _ ⟨u60, u68, ?_, M16.keep (Off.refl _ wr) rfl, M24.keep (Off.refl _ wr) rfl, hO⟩
        simp only [fill_eq, List.take_succ_cons, List.take_zero, List.cons_append, List.nil_append, Act.put, List.setIfInBounds_toArray, List.set_cons_zero, List.set_cons_succ, sel_new, sel_dep d19]
        rfl
    · (
        rintro l a wr ⟨u60, u68, ha, M16, M24, hO⟩ hl hd K' hK
        have d19 := hd 19 (by decide)
        have d22 := hd 22 (by decide)
        have d23 := hd 23 (by decide)
        have hx := X63.out; subst hx
        have hx := X66.out; subst hx
        have hx := X67.out; subst hx
        simp only [fill_eq, List.take_succ_cons, List.take_zero, List.cons_append, List.nil_append, Act.put, List.setIfInBounds_toArray, List.set_cons_zero, List.set_cons_succ, sel_of d19, sel_of d22, sel_of d23] at ha
        subst ha
        rw [if_pos (by rfl)]
        go_simp
        refine hK.out _ _ ⟨u60, _, ?_, M16.keep ((Off.refl _ wr).alloc _) rfl, fun _ => build323 wr, hO.alloc _⟩
        simp only [fill_eq, List.take_succ_cons, List.take_zero, List.cons_append, List.nil_append, Act.put, List.setIfInBounds_toArray, List.set_cons_zero, List.set_cons_succ, sel_new, sel_dep d19, sel_dep d22, sel_dep d23]
        rfl)
    · as_aux_lemma =>
        rintro l a wr ⟨u60, u68, ha, M16, M24, hO⟩ hl hd K' hK
        have d19 := hd 19 (by decide)
        have d20 := hd 20 (by decide)
        have d21 := hd 21 (by decide)
        have d24 := hd 24 (by decide)
        have hx := X63.out; subst hx
        have hx := X64.out; subst hx
        have hx := X65.out; subst hx
        have m24 := M24 d24
        have hx := X69.out; subst hx
        simp only [fill_eq, List.take_succ_cons, List.take_zero, List.cons_append, List.nil_append, Act.put, List.setIfInBounds_toArray, List.set_cons_zero, List.set_cons_succ, sel_of d19, sel_of d20, sel_of d21, sel_of d24] at ha
        subst ha
        rw [if_pos (by rfl)]
        go_simp
        refine (held_inv (FSq.out wr u68 hO m24) hO).mono ?_
        rintro e w1 ⟨rfl, hO1, hOW⟩
        go_wp2_with fail
        refine hK.out _ _ ⟨u60, u68, ?_, M16.keep hOW rfl, M24.keep hOW rfl, hO1⟩
        simp only [fill_eq, List.take_succ_cons, List.take_zero, List.cons_append, List.nil_append, Act.put, List.setIfInBounds_toArray, List.set_cons_zero, List.set_cons_succ, sel_new, sel_dep d19, sel_dep d20, sel_dep d21, sel_dep d24]
        rfl
    · as_aux_lemma =>
        rintro l a wr ⟨u60, u68, ha, M16, M24, hO⟩ hl hd K' hK
        have d19 := hd 19 (by decide)
        have d25 := hd 25 (by decide)
        have hx := X63.out; subst hx
        have hx := X69.out; subst hx
        have hx := X70.out; subst hx
        simp only [fill_eq, List.take_succ_cons, List.take_zero, List.cons_append, List.nil_append, Act.put, List.setIfInBounds_toArray, List.set_cons_zero, List.set_cons_succ, sel_of d19, sel_of d25] at ha
        subst ha
        rw [if_pos (by rfl)]
        go_simp
        refine hK.out _ _ ⟨u60, u68, ?_, M16.keep (Off.refl _ wr) rfl, M24.keep (Off.refl _ wr) rfl, hO⟩
        simp only [fill_eq, List.take_succ_cons, List.take_zero, List.cons_append, List.nil_append, Act.put, List.setIfInBounds_toArray, List.set_cons_zero, List.set_cons_succ, sel_new, sel_dep d19, sel_dep d25]
        rfl
    · as_aux_lemma =>
        rintro l a wr ⟨u60, u68, ha, M16, M24, hO⟩ hl hd K' hK
        have d26 := hd 26 (by decide)
        have hx := X70.out; subst hx
        have hx := X71.out; subst hx
        simp only [fill_eq, List.take_succ_cons, List.take_zero, List.cons_append, List.nil_append, Act.put, List.setIfInBounds_toArray, List.set_cons_zero, List.set_cons_succ, sel_of d26] at ha
        subst ha
        rw [if_pos (by rfl)]
        go_simp
        refine hK.out _ _ ⟨u60, u68, ?_, M16.keep (Off.refl _ wr) rfl, M24.keep (Off.refl _ wr) rfl, hO⟩
        simp only [fill_eq, List.take_succ_cons, List.take_zero, List.cons_append, List.nil_append, Act.put, List.setIfInBounds_toArray, List.set_cons_zero, List.set_cons_succ, sel_new, sel_dep d26]
        rfl
    · as_aux_lemma =>
        rintro l a wr ⟨u60, u68, ha, M16, M24, hO⟩ hl hd K' hK
        have d27 := hd 27 (by decide)
        have hx := X71.out; subst hx
        have hx := X72.out; subst hx
        simp only [fill_eq, List.take_succ_cons, List.take_zero, List.cons_append, List.nil_append, Act.put, List.setIfInBounds_toArray, List.set_cons_zero, List.set_cons_succ, sel_of d27] at ha
        subst ha
        have hc := HK6.out wr hO
        have p0 := hc.2.2.1.1
        have p1 := hc.2.2.1.2.1
        have p2 := hc.2.2.1.2.2.1
        have p3 := hc.2.2.1.2.2.2
        clear hc
        rw [if_pos (by rfl)]
        go_simp
        refine hK.out _ _ ⟨u60, u68, ?_, M16.keep (Off.refl _ wr) rfl, M24.keep (Off.refl _ wr) rfl, hO⟩
        simp only [fill_eq, List.take_succ_cons, List.take_zero, List.cons_append, List.nil_append, Act.put, List.setIfInBounds_toArray, List.set_cons_zero, List.set_cons_succ, sel_new, sel_dep d27]
        rfl
    · as_aux_lemma =>
        rintro l a wr ⟨u60, u68, ha, M16, M24, hO⟩ hl hd K' hK
        have d27 := hd 27 (by decide)
        have hx := X71.out; subst hx
        have hx := X73.out; subst hx
        simp only [fill_eq, List.take_succ_cons, List.take_zero, List.cons_append, List.nil_append, Act.put, List.setIfInBounds_toArray, List.set_cons_zero, List.set_cons_succ, sel_of d27] at ha
        subst ha
        have hc := HK6.out wr hO
        have p0 := hc.2.1.1
        have p1 := hc.2.1.2.1
        have p2 := hc.2.1.2.2.1
        have p3 := hc.2.1.2.2.2
        clear hc
        rw [if_pos (by rfl)]
        go_simp
        refine hK.out _ _ ⟨u60, u68, ?_, M16.keep (Off.refl _ wr) rfl, M24.keep (Off.refl _ wr) rfl, hO⟩
        simp only [fill_eq, List.take_succ_cons, List.take_zero, List.cons_append, List.nil_append, Act.put, List.setIfInBounds_toArray, List.set_cons_zero, List.set_cons_succ, sel_new, sel_dep d27]
        rfl
    · as_aux_lemma =>
        rintro l a wr ⟨u60, u68, ha, M16, M24, hO⟩ hl hd K' hK
        have d27 := hd 27 (by decide)
        have hx := X71.out; subst hx
        have hx := X74.out; subst hx
        simp only [fill_eq, List.take_succ_cons, List.take_zero, List.cons_append, List.nil_append, Act.put, List.setIfInBounds_toArray, List.set_cons_zero, List.set_cons_succ, sel_of d27] at ha
        subst ha
        rw [if_pos (by rfl)]
        go_simp
        refine hK.out _ _ ⟨u60, u68, ?_, M16.keep (Off.refl _ wr) rfl, M24.keep (Off.refl _ wr) rfl, hO⟩
        simp only [fill_eq, List.take_succ_cons, List.take_zero, List.cons_append, List.nil_append, Act.put, List.setIfInBounds_toArray, List.set_cons_zero, List.set_cons_succ, sel_new, sel_dep d27]
        rfl
    · as_aux_lemma =>
        rintro l a wr ⟨u60, u68, ha, M16, M24, hO⟩ hl hd K' hK
        have d27 := hd 27 (by decide)
        have d29 := hd 29 (by decide)
        have d30 := hd 30 (by decide)
        have hx := X71.out; subst hx
        have hx := X73.out; subst hx
        have hx := X74.out; subst hx
        have hx := X75.out; subst hx
        simp only [fill_eq, List.take_succ_cons, List.take_zero, List.cons_append, List.nil_append, Act.put, List.setIfInBounds_toArray, List.set_cons_zero, List.set_cons_succ, sel_of d27, sel_of d29, sel_of d30] at ha
        subst ha
        rw [if_pos (by rfl)]
        go_simp
        refine (held_inv (FF321.out wr) hO).mono ?_
        rintro e w1 ⟨rfl, hO1, hOW⟩
        go_wp2_with fail
        refine hK.out _ _ ⟨u60, u68, ?_, M16.keep hOW rfl, M24.keep hOW rfl, hO1⟩
        simp only [fill_eq, List.take_succ_cons, List.take_zero, List.cons_append, List.nil_append, Act.put, List.setIfInBounds_toArray, List.set_cons_zero, List.set_cons_succ, sel_new, sel_dep d27, sel_dep d29, sel_dep d30]
        rfl
    · as_aux_lemma =>
        rintro l a wr ⟨u60, u68, ha, M16, M24, hO⟩ hl hd K' hK
        have d27 := hd 27 (by decide)
        have d28 := hd 28 (by decide)
        have d31 := hd 31 (by decide)
        have hx := X71.out; subst hx
        have hx := X72.out; subst hx
        have hx := X75.out; subst hx
        have hx := X76.out; subst hx
        simp only [fill_eq, List.take_succ_cons, List.take_zero, List.cons_append, List.nil_append, Act.put, List.setIfInBounds_toArray, List.set_cons_zero, List.set_cons_succ, sel_of d27, sel_of d28, sel_of d31] at ha
        subst ha
        rw [if_pos (by rfl)]
        go_simp
        refine hK.out _ _ ⟨u60, u68, ?_, M16.keep (Off.refl _ wr) rfl, M24.keep (Off.refl _ wr) rfl, hO⟩
        simp only [fill_eq, List.take_succ_cons, List.take_zero, List.cons_append, List.nil_append, Act.put, List.setIfInBounds_toArray, List.set_cons_zero, List.set_cons_succ, sel_new, sel_dep d27, sel_dep d28, sel_dep d31]
        rfl
    · as_aux_lemma =>
        rintro l a wr ⟨u60, u68, ha, M16, M24, hO⟩ hl hd K' hK
        have d27 := hd 27 (by decide)
        have d32 := hd 32 (by decide)
        have hx := X71.out; subst hx
        have hx := X76.out; subst hx
        have hx := X77.out; subst hx
        simp only [fill_eq, List.take_succ_cons, List.take_zero, List.cons_append, List.nil_append, Act.put, List.setIfInBounds_toArray, List.set_cons_zero, List.set_cons_succ, sel_of d27, sel_of d32] at ha
        subst ha
        rw [if_pos (by rfl)]
        go_simp
        refine hK.out _ _ ⟨u60, u68, ?_, M16.keep (Off.refl _ wr) rfl, M24.keep (Off.refl _ wr) rfl, hO⟩
        simp only [fill_eq, List.take_succ_cons, List.take_zero, List.cons_append, List.nil_append, Act.put, List.setIfInBounds_toArray, List.set_cons_zero, List.set_cons_succ, sel_new, sel_dep d27, sel_dep d32]
        rfl
    · as_aux_lemma =>
        rintro l a wr ⟨u60, u68, ha, M16, M24, hO⟩ hl hd K' hK
        have d33 := hd 33 (by decide)
        have hx := X77.out; subst hx
        have hx := X0.out; subst hx
        simp only [fill_eq, List.take_succ_cons, List.take_zero, List.cons_append, List.nil_append, Act.put, List.setIfInBounds_toArray, List.set_cons_zero, List.set_cons_succ, sel_of d33] at ha
        subst ha
        rw [if_pos (by rfl)]
        go_simp
        refine hK.out _ _ ⟨u60, u68, ?_, M16.keep (Off.refl _ wr) rfl, M24.keep (Off.refl _ wr) rfl, hO⟩
        simp only [fill_eq, List.take_succ_cons, List.take_zero, List.cons_append, List.nil_append, Act.put, List.setIfInBounds_toArray, List.set_cons_zero, List.set_cons_succ, sel_new, sel_dep d33]
        rfl
    · rintro l a wc ⟨u60, u68, ha, M16, M24, hO⟩ hd
      simp only [fill_eq, List.take_succ_cons, List.take_zero, List.cons_append, List.nil_append, Act.put, List.setIfInBounds_toArray, List.set_cons_zero, List.set_cons_succ, sel_of (hd 0 (by decide)), sel_of (hd 1 (by decide)), sel_of (hd 2 (by decide)), sel_of (hd 3 (by decide)), sel_of (hd 4 (by decide)), sel_of (hd 5 (by decide)), sel_of (hd 6 (by decide)), sel_of (hd 7 (by decide)), sel_of (hd 8 (by decide)), sel_of (hd 9 (by decide)), sel_of (hd 10 (by decide)), sel_of (hd 11 (by decide)), sel_of (hd 12 (by decide)), sel_of (hd 13 (by decide)), sel_of (hd 14 (by decide)), sel_of (hd 15 (by decide)), sel_of (hd 16 (by decide)), sel_of (hd 17 (by decide)), sel_of (hd 18 (by decide)), sel_of (hd 19 (by decide)), sel_of (hd 20 (by decide)), sel_of (hd 21 (by decide)), sel_of (hd 22 (by decide)), sel_of (hd 23 (by decide)), sel_of (hd 24 (by decide)), sel_of (hd 25 (by decide)), sel_of (hd 26 (by decide)), sel_of (hd 27 (by decide)), sel_of (hd 28 (by decide)), sel_of (hd 29 (by decide)), sel_of (hd 30 (by decide)), sel_of (hd 31 (by decide)), sel_of (hd 32 (by decide)), sel_of (hd 33 (by decide)), sel_of (hd 34 (by decide))] at ha
      subst ha
      have hx := X0.out; subst hx
      have HOg := Lib.hid (HOf.out.trans hO (fun _ _ c => c))
      clear hO hd
      go_wp2
      go_ret
      exact ⟨rfl, HOg.out⟩
theorem alive8_any (w : World) (hT : TabAt w) : Calls Tryd.prog 9 #[] w fun e w' => e = .returned (.bool true) ∧ Off (fun _ => False) w w' :=
  alive_p fld2 rfl (by decide +kernel) (by decide +kernel) (by decide +kernel) (by decide +kernel) (by decide +kernel) w hT
end Go.Proofs.YtiemajbcmmbjbaaDoor
