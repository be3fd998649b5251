/-
  The statements' own form, get and same of layer 10 over this seat's translation. Conditions: the table of fields lies in memory as it was laid; the numbers are numbers of four words.
-/
import Derived.Test.YtggebccgiigboaaDoorPolRefer
import Derived.Test.YtggebccgiigboaaDoorFieldGet
import Derived.Test.YtggebccgiigboaaDoorMontRef
namespace Go.Proofs.YtggebccgiigboaaDoor
open Go.RowKit
set_option maxRecDepth 100000 in
set_option maxHeartbeats 4000000 in
theorem get10_any (t : Bool) {id : Int} {p i r s : Nat} (hF : Fld id p i r s) (hid : id = idB t) (w : World) (hT : TabAt w) :
  Calls Tryd.prog 9 #[.bool t] w fun e w' => e = .returned (.tuple #[FV id p i r s,V p]) /\ Off (fun _ => False) w w' := by
 have qI := fun W => id_any t W
 rw [<- hid] at qI
 have qG := fun W hT => fget_in id p hF.mp.lt hF.mp.one hF.mod W hT
 rw [<- hF.ss,<- hF.ii,<- hF.rr] at qG
 have qM := fun W => mod_modulus id W
 rw [hF.mod] at qM
 have FI := Lib.hid qI
 have FG := Lib.hid qG
 have FM := Lib.hid qM
 have HT := Lib.hid hT
 clear qI qG qM hF hid hT
 go_enter Tryd.func9,Tryd.ntmps9
 go_wp2_with fail
 refine (FI.out _).mono ?_
 rintro e u0 ⟨rfl,hO0⟩
 have hA0 : Off (fun _ => False) w u0 := ((Off.refl _ w).alloc _).alloc _ |>.trans hO0 (fun _ _ c => c)
 have H0 := Lib.hid (show u0.heap[w.heap.size]? = some (.cells #[.int .i64 0,.int .u64 0,.int .u64 0,.int .u64 0,.int .u64 0,.int .u64 0,.int .u64 0,.int .u64 0,.int .u64 0,.int .u64 0,.int .u64 0,.int .u64 0,.int .u64 0,.int .u64 0] 31) from hO0.heap (heap_old' (heap_new' rfl _) _) (fun c => c))
 have H1 := Lib.hid (show u0.heap[w.heap.size + 1]? = some (.cells #[.int .u64 0,.int .u64 0,.int .u64 0,.int .u64 0] 28) from hO0.heap (heap_new' (by simp) _) (fun c => c))
 have HT0 := Lib.hid (HT.out.off hA0)
 have HO0 := Lib.hid hA0
 clear hA0 hO0 HT
 go_wp2_with fail
 refine (FG.out _ HT0.out).mono ?_
 rintro e u1 ⟨rfl,hO1⟩
 obtain ⟨W1,hW1⟩ : ∃ W1,W1 = u1.alloc (.cells #[.int .i64 id,.int .u64 (wd p 0 : Int),.int .u64 (wd p 1 : Int),.int .u64 (wd p 2 : Int),.int .u64 (wd p 3 : Int),.int .u64 (i : Int),.int .u64 (wd r 0 : Int),.int .u64 (wd r 1 : Int),.int .u64 (wd r 2 : Int),.int .u64 (wd r 3 : Int),.int .u64 (wd s 0 : Int),.int .u64 (wd s 1 : Int),.int .u64 (wd s 2 : Int),.int .u64 (wd s 3 : Int)] 31) := ⟨_,rfl⟩
 have hOW : Off (fun _ => False) u1 W1 := by rw [hW1]; exact (Off.refl _ u1).alloc _
 have HR0 := Lib.hid (hOW.heap (hO1.heap H0.out (fun c => c)) (fun c => c))
 have HR1 := Lib.hid (hOW.heap (hO1.heap H1.out (fun c => c)) (fun c => c))
 have hFn : W1.heap[u1.heap.size]? = some (.cells #[.int .i64 id,.int .u64 (wd p 0 : Int),.int .u64 (wd p 1 : Int),.int .u64 (wd p 2 : Int),.int .u64 (wd p 3 : Int),.int .u64 (i : Int),.int .u64 (wd r 0 : Int),.int .u64 (wd r 1 : Int),.int .u64 (wd r 2 : Int),.int .u64 (wd r 3 : Int),.int .u64 (wd s 0 : Int),.int .u64 (wd s 1 : Int),.int .u64 (wd s 2 : Int),.int .u64 (wd s 3 : Int)] 31) := by rw [hW1]; exact heap_new' rfl _
 have l1 := heap_lt (hO1.heap H1.out (fun c => c))
 have h01 : w.heap.size ≠ w.heap.size + 1 := by omega
 have HK : Hid (∀ W,Off (fun k => k = w.heap.size ∨ k = (w.heap.size + 1)) W1 W -> (W.cell? ⟨u1.heap.size,0,none⟩ = some (.int .i64 id) /\ W.cell? ⟨u1.heap.size,1,none⟩ = some (.int .u64 (wd p 0 : Int)) /\ W.cell? ⟨u1.heap.size,2,none⟩ = some (.int .u64 (wd p 1 : Int)) /\ W.cell? ⟨u1.heap.size,3,none⟩ = some (.int .u64 (wd p 2 : Int)) /\ W.cell? ⟨u1.heap.size,4,none⟩ = some (.int .u64 (wd p 3 : Int)) /\ W.cell? ⟨u1.heap.size,5,none⟩ = some (.int .u64 (i : Int)) /\ W.cell? ⟨u1.heap.size,6,none⟩ = some (.int .u64 (wd r 0 : Int)) /\ W.cell? ⟨u1.heap.size,7,none⟩ = some (.int .u64 (wd r 1 : Int)) /\ W.cell? ⟨u1.heap.size,8,none⟩ = some (.int .u64 (wd r 2 : Int)) /\ W.cell? ⟨u1.heap.size,9,none⟩ = some (.int .u64 (wd r 3 : Int)) /\ W.cell? ⟨u1.heap.size,10,none⟩ = some (.int .u64 (wd s 0 : Int)) /\ W.cell? ⟨u1.heap.size,11,none⟩ = some (.int .u64 (wd s 1 : Int)) /\ W.cell? ⟨u1.heap.size,12,none⟩ = some (.int .u64 (wd s 2 : Int)) /\ W.cell? ⟨u1.heap.size,13,none⟩ = some (.int .u64 (wd s 3 : Int))) /\ Off (fun k => k = w.heap.size ∨ k = (w.heap.size + 1)) W1 W) := Lib.hid (fun W h => ⟨fv_cells (h.heap hFn (by omega)),h⟩)
 have HOf := Lib.hid ((HO0.out.trans hO1 (fun _ _ c => c)).trans hOW (fun _ _ c => c))
 have HW1 := Lib.hid hW1
 clear hO1 hOW hFn hW1 H0 H1 HT0 HO0 FG
 go_upto_region 2 with fail
 rw [<- HW1.out]
 refine wp_region_inv (fun a0 l a' w' => ∃ (u12 : Value) (u13 : Value) (u14 : Value) (u15 : Value),a' = (Act.put (Act.put (Act.put (Act.put a0 (some 12) u12) (some 13) u13) (some 14) u14) (some 15) u15) /\ Slot l 0 u12 (FV id p i r s) /\ Slot l 1 u13 (.bool t) /\ Slot l 2 u14 (.int .i64 id) /\ Slot l 3 u15 (V p) /\ Old l 4 w.heap.size W1 w' (.cells #[.int .i64 0,.int .u64 0,.int .u64 0,.int .u64 0,.int .u64 0,.int .u64 0,.int .u64 0,.int .u64 0,.int .u64 0,.int .u64 0,.int .u64 0,.int .u64 0,.int .u64 0,.int .u64 0] 31) (.cells #[.int .i64 id,.int .u64 (wd p 0 : Int),.int .u64 (wd p 1 : Int),.int .u64 (wd p 2 : Int),.int .u64 (wd p 3 : Int),.int .u64 (i : Int),.int .u64 (wd r 0 : Int),.int .u64 (wd r 1 : Int),.int .u64 (wd r 2 : Int),.int .u64 (wd r 3 : Int),.int .u64 (wd s 0 : Int),.int .u64 (wd s 1 : Int),.int .u64 (wd s 2 : Int),.int .u64 (wd s 3 : Int)] 31) /\ Old l 5 (w.heap.size + 1) W1 w' (.cells #[.int .u64 0,.int .u64 0,.int .u64 0,.int .u64 0] 28) (.cells #[.int .u64 (wd p 0 : Int),.int .u64 (wd p 1 : Int),.int .u64 (wd p 2 : Int),.int .u64 (wd p 3 : Int)] 28) /\ Off (fun k => k = w.heap.size ∨ k = (w.heap.size + 1)) W1 w') (by kernel_rfl) (by kernel_rfl) ?_ ⟨?_,?_,?_,?_,?_,?_,trivial⟩ ?_
 ·refine ⟨?z12,?z13,?z14,?z15,?fr,Slot.start _ _ _,Slot.start _ _ _,Slot.start _ _ _,Slot.start _ _ _,Old.start HR0.out _ _,Old.start HR1.out _ _,(Off.refl _ W1).drew⟩
  case fr => first | (simp only [Act.put,List.setIfInBounds_toArray,List.set_cons_zero,List.set_cons_succ]; rfl) | simp only [Act.put,List.setIfInBounds_toArray,List.set_cons_zero,List.set_cons_succ]
 ·intro l a wr hI hl hd K' hK
  obtain ⟨u12,u13,u14,u15,ha,s0,s1,s2,s3,O0,O1,hO⟩ := hI
  simp only [Act.put,List.setIfInBounds_toArray,List.set_cons_zero,List.set_cons_succ] at ha
  subst ha
  have hc := HK.out wr hO
  have p0 := hc.1.1
  have p1 := hc.1.2.1
  have p2 := hc.1.2.2.1
  have p3 := hc.1.2.2.2.1
  have p4 := hc.1.2.2.2.2.1
  have p5 := hc.1.2.2.2.2.2.1
  have p6 := hc.1.2.2.2.2.2.2.1
  have p7 := hc.1.2.2.2.2.2.2.2.1
  have p8 := hc.1.2.2.2.2.2.2.2.2.1
  have p9 := hc.1.2.2.2.2.2.2.2.2.2.1
  have p10 := hc.1.2.2.2.2.2.2.2.2.2.2.1
  have p11 := hc.1.2.2.2.2.2.2.2.2.2.2.2.1
  have p12 := hc.1.2.2.2.2.2.2.2.2.2.2.2.2.1
  have p13 := hc.1.2.2.2.2.2.2.2.2.2.2.2.2.2
  clear hc
  go_simp
  refine hK.out _ _ ⟨_,_,_,_,?_,Slot.new _ _ _,s1.keep rfl,s2.keep rfl,s3.keep rfl,O0.keep (Off.refl _ wr) rfl,O1.keep (Off.refl _ wr) rfl,hO⟩
  simp only [Act.put,List.setIfInBounds_toArray,List.set_cons_zero,List.set_cons_succ]
 ·intro l a wr hI hl hd K' hK
  obtain ⟨u12,u13,u14,u15,ha,s0,s1,s2,s3,O0,O1,hO⟩ := hI
  simp only [Act.put,List.setIfInBounds_toArray,List.set_cons_zero,List.set_cons_succ] at ha
  subst ha
  go_simp
  refine hK.out _ _ ⟨_,_,_,_,?_,s0.keep rfl,Slot.new _ _ _,s2.keep rfl,s3.keep rfl,O0.keep (Off.refl _ wr) rfl,O1.keep (Off.refl _ wr) rfl,hO⟩
  simp only [Act.put,List.setIfInBounds_toArray,List.set_cons_zero,List.set_cons_succ]
 ·intro l a wr hI hl hd K' hK
  obtain ⟨u12,u13,u14,u15,ha,s0,s1,s2,s3,O0,O1,hO⟩ := hI
  simp only [Act.put,List.setIfInBounds_toArray,List.set_cons_zero,List.set_cons_succ] at ha
  have q1 := s1 (hd 1 (by decide))
  subst ha q1
  go_simp
  refine (held_inv (FI.out wr) hO).mono ?_
  rintro e w1 ⟨rfl,hO1,hOW⟩
  go_wp2_with fail
  refine hK.out _ _ ⟨_,_,_,_,?_,s0.keep rfl,s1.keep rfl,Slot.new _ _ _,s3.keep rfl,O0.keep hOW rfl,O1.keep hOW rfl,hO1⟩
  simp only [Act.put,List.setIfInBounds_toArray,List.set_cons_zero,List.set_cons_succ]
 ·intro l a wr hI hl hd K' hK
  obtain ⟨u12,u13,u14,u15,ha,s0,s1,s2,s3,O0,O1,hO⟩ := hI
  simp only [Act.put,List.setIfInBounds_toArray,List.set_cons_zero,List.set_cons_succ] at ha
  have q2 := s2 (hd 2 (by decide))
  subst ha q2
  go_simp
  refine (held_inv (FM.out wr) hO).mono ?_
  rintro e w1 ⟨rfl,hO1,hOW⟩
  go_wp2_with fail
  refine hK.out _ _ ⟨_,_,_,_,?_,s0.keep rfl,s1.keep rfl,s2.keep rfl,Slot.new _ _ _,O0.keep hOW rfl,O1.keep hOW rfl,hO1⟩
  simp only [Act.put,List.setIfInBounds_toArray,List.set_cons_zero,List.set_cons_succ]
 ·intro l a wr hI hl hd K' hK
  obtain ⟨u12,u13,u14,u15,ha,s0,s1,s2,s3,O0,O1,hO⟩ := hI
  simp only [Act.put,List.setIfInBounds_toArray,List.set_cons_zero,List.set_cons_succ] at ha
  have q0 := s0 (hd 0 (by decide))
  subst ha q0
  have fz := fun j => frozen_of_heap (O0.was hl) j
  have lt := heap_lt (O0.was hl)
  have hc := fv_cells (O0.was hl)
  have m0 := hc.1
  have m1 := hc.2.1
  have m2 := hc.2.2.1
  have m3 := hc.2.2.2.1
  have m4 := hc.2.2.2.2.1
  have m5 := hc.2.2.2.2.2.1
  have m6 := hc.2.2.2.2.2.2.1
  have m7 := hc.2.2.2.2.2.2.2.1
  have m8 := hc.2.2.2.2.2.2.2.2.1
  have m9 := hc.2.2.2.2.2.2.2.2.2.1
  have m10 := hc.2.2.2.2.2.2.2.2.2.2.1
  have m11 := hc.2.2.2.2.2.2.2.2.2.2.2.1
  have m12 := hc.2.2.2.2.2.2.2.2.2.2.2.2.1
  have m13 := hc.2.2.2.2.2.2.2.2.2.2.2.2.2
  clear hc
  go_simp
  refine hK.out _ _ ⟨_,_,_,_,?_,s0.keep rfl,s1.keep rfl,s2.keep rfl,s3.keep rfl,O0.put hl rfl,O1.far (vs := [.int .i64 id,.int .u64 (wd p 0 : Int),.int .u64 (wd p 1 : Int),.int .u64 (wd p 2 : Int),.int .u64 (wd p 3 : Int),.int .u64 (i : Int),.int .u64 (wd r 0 : Int),.int .u64 (wd r 1 : Int),.int .u64 (wd r 2 : Int),.int .u64 (wd r 3 : Int),.int .u64 (wd s 0 : Int),.int .u64 (wd s 1 : Int),.int .u64 (wd s 2 : Int),.int .u64 (wd s 3 : Int)]) rfl (Ne.symm h01),setCells_in hO (fun _ => .inl rfl) [.int .i64 id,.int .u64 (wd p 0 : Int),.int .u64 (wd p 1 : Int),.int .u64 (wd p 2 : Int),.int .u64 (wd p 3 : Int),.int .u64 (i : Int),.int .u64 (wd r 0 : Int),.int .u64 (wd r 1 : Int),.int .u64 (wd r 2 : Int),.int .u64 (wd r 3 : Int),.int .u64 (wd s 0 : Int),.int .u64 (wd s 1 : Int),.int .u64 (wd s 2 : Int),.int .u64 (wd s 3 : Int)]⟩
  simp only [Act.put,List.setIfInBounds_toArray,List.set_cons_zero,List.set_cons_succ]
 ·intro l a wr hI hl hd K' hK
  obtain ⟨u12,u13,u14,u15,ha,s0,s1,s2,s3,O0,O1,hO⟩ := hI
  simp only [Act.put,List.setIfInBounds_toArray,List.set_cons_zero,List.set_cons_succ] at ha
  have q3 := s3 (hd 3 (by decide))
  subst ha q3
  obtain ⟨⟨m0,m1,m2,m3⟩,fz,lt⟩ := zero_cells (O1.was hl)
  go_simp
  refine hK.out _ _ ⟨_,_,_,_,?_,s0.keep rfl,s1.keep rfl,s2.keep rfl,s3.keep rfl,O0.far (vs := [.int .u64 (wd p 0 : Int),.int .u64 (wd p 1 : Int),.int .u64 (wd p 2 : Int),.int .u64 (wd p 3 : Int)]) rfl h01,O1.put hl rfl,setCells_in hO (fun _ => .inr (rfl)) [.int .u64 (wd p 0 : Int),.int .u64 (wd p 1 : Int),.int .u64 (wd p 2 : Int),.int .u64 (wd p 3 : Int)]⟩
  simp only [Act.put,List.setIfInBounds_toArray,List.set_cons_zero,List.set_cons_succ]
 ·intro l a wc hI hd
  obtain ⟨u12,u13,u14,u15,ha,s0,s1,s2,s3,O0,O1,hO⟩ := hI
  simp only [Act.put,List.setIfInBounds_toArray,List.set_cons_zero,List.set_cons_succ] at ha
  have q0 := s0 (hd 0 (by decide))
  have q1 := s1 (hd 1 (by decide))
  have q2 := s2 (hd 2 (by decide))
  have q3 := s3 (hd 3 (by decide))
  have r0 : wc.heap[w.heap.size]? = some (.cells #[.int .i64 id,.int .u64 (wd p 0 : Int),.int .u64 (wd p 1 : Int),.int .u64 (wd p 2 : Int),.int .u64 (wd p 3 : Int),.int .u64 (i : Int),.int .u64 (wd r 0 : Int),.int .u64 (wd r 1 : Int),.int .u64 (wd r 2 : Int),.int .u64 (wd r 3 : Int),.int .u64 (wd s 0 : Int),.int .u64 (wd s 1 : Int),.int .u64 (wd s 2 : Int),.int .u64 (wd s 3 : Int)] 31) := O0.now (hd 4 (by decide))
  have r1 : wc.heap[(w.heap.size + 1)]? = some (.cells #[.int .u64 (wd p 0 : Int),.int .u64 (wd p 1 : Int),.int .u64 (wd p 2 : Int),.int .u64 (wd p 3 : Int)] 28) := O1.now (hd 5 (by decide))
  subst ha q0 q1 q2 q3
  clear hd s0 s1 s2 s3 O0 O1
  obtain ⟨f0,f1,f2,f3,f4,f5,f6,f7,f8,f9,f10,f11,f12,f13⟩ := fv_cells r0
  obtain ⟨g0,g1,g2,g3⟩ := cells4 r1
  have HOg := Lib.hid (HOf.out.trans hO (fun k hk e => by rcases e with e | e <;> omega))
  clear r0 r1 hO
  go_wp2
  exact bodyPost_ret (v := .tuple #[FV id p i r s,V p]) (by simp [results,Tryd.results9,go_sem,f0,f1,f2,f3,f4,f5,f6,f7,f8,f9,f10,f11,f12,f13,g0,g1,g2,g3]) rfl ⟨rfl,HOg.out⟩
end Go.Proofs.YtggebccgiigboaaDoor
-- squeezed
