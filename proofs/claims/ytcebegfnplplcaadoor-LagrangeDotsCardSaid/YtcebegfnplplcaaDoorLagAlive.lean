/-
  The examples of the chapter that the statements of layer 9 hold: alive. Condition: the table of fields lies in memory as it was laid.
-/
import Derived.Test.YtcebegfnplplcaaDoorLagProg
import Derived.Test.YtcebegfnplplcaaDoorLagRefs
import Derived.Test.YtcebegfnplplcaaDoorPolLists
import Derived.Test.YtcebegfnplplcaaDoorModDiff
import Derived.Test.YtcebegfnplplcaaDoorLagBase
namespace Go.Proofs.YtcebegfnplplcaaDoor
open Go.RowKit
attribute [local go_sem ↓] Go.wp_at_zero Go.wp_at_succ
set_option linter.unusedSimpArgs false
theorem build2m (w : World) (m : Nat) : Ls (w.alloc (.cells #[.int .u64 2,.int .u64 0,.int .u64 0,.int .u64 0,.int .u64 (wd m 0 : Int),.int .u64 (wd m 1 : Int),.int .u64 (wd m 2 : Int),.int .u64 (wd m 3 : Int)] 29 (0,0))) (.slice (some ⟨w.heap.size,0,none⟩) 2 2) [2,m] := by
 have h := ls_build w [2,m] (by simp) 29
 rw [show (flat4 [2,m]).toArray = #[.int .u64 2,.int .u64 0,.int .u64 0,.int .u64 0,.int .u64 (wd m 0 : Int),.int .u64 (wd m 1 : Int),.int .u64 (wd m 2 : Int),.int .u64 (wd m 3 : Int)] from by kernel_rfl] at h
 exact h
theorem build32 (w : World) : Ls (w.alloc (.cells #[.int .u64 3,.int .u64 0,.int .u64 0,.int .u64 0,.int .u64 2,.int .u64 0,.int .u64 0,.int .u64 0] 29 (0,0))) (.slice (some ⟨w.heap.size,0,none⟩) 2 2) [3,2] := by
 have h := ls_build w [3,2] (by decide) 29
 rw [show (flat4 [3,2]).toArray = #[.int .u64 3,.int .u64 0,.int .u64 0,.int .u64 0,.int .u64 2,.int .u64 0,.int .u64 0,.int .u64 0] from by kernel_rfl] at h
 exact h
theorem build57 (w : World) : Ls (w.alloc (.cells #[.int .u64 5,.int .u64 0,.int .u64 0,.int .u64 0,.int .u64 7,.int .u64 0,.int .u64 0,.int .u64 0] 29 (0,0))) (.slice (some ⟨w.heap.size,0,none⟩) 2 2) [5,7] := by
 have h := ls_build w [5,7] (by decide) 29
 rw [show (flat4 [5,7]).toArray = #[.int .u64 5,.int .u64 0,.int .u64 0,.int .u64 0,.int .u64 7,.int .u64 0,.int .u64 0,.int .u64 0] from by kernel_rfl] at h
 exact h
theorem ints_of_block {w : World} {b : Nat} {xs : List Int} (h : w.heap[b]? = some (.cells (xs.map (fun x => Value.int .i64 x)).toArray 3 (0,0))) (hl : xs.length <= 1000) (hw : ∀ x ∈ xs,(Lit.int .i64 x).wf = true) : Iv w (.slice (some ⟨b,0,none⟩) xs.length xs.length) xs :=
 ⟨some ⟨b,0,none⟩,_,rfl,by unfold maxLen; omega,hw,fun _ => ⟨b,0,rfl,trivial,fun j x hx => by
  rw [cell_of_heap h,List.getElem?_toArray,Nat.zero_add,List.getElem?_map,hx]; rfl⟩⟩
theorem ints_12 (w : World) : Iv (w.alloc (.cells #[.int .i64 1,.int .i64 2] 3 (0,0))) (.slice (some ⟨w.heap.size,0,none⟩) 2 2) [1,2] := ints_of_block (xs := [1,2]) (heap_new' rfl _) (by decide) (by decide)
theorem ints_0 (w : World) : Iv (w.alloc (.cells #[.int .i64 0] 3 (0,0))) (.slice (some ⟨w.heap.size,0,none⟩) 1 1) [0] := ints_of_block (xs := [0]) (heap_new' rfl _) (by decide) (by decide)
/-- Slot value u holds the ints xs once operation i has been carried out. -/
def Ik (l : Nat -> Bool) (i : Nat) (u : Value) (w : World) (xs : List Int) : Prop := l i = true -> Iv w u xs
theorem Ik.keep {l : Nat -> Bool} {i : Nat} {u : Value} {w w' : World} {xs : List Int} (h : Ik l i u w xs) (ho : Off (fun _ => False) w w') {k : Nat} (hk : (k == i) = false) : Ik (upd l k) i u w' xs := fun hl => by
 rw [upd_k l hk] at hl; exact (h hl).off ho
theorem Ik.start (i : Nat) (u : Value) (w : World) (xs : List Int) : Ik (fun _ => false) i u w xs := fun h => absurd (show (false : Bool) = true from h) (by decide)
/-- The chapter's coefficients and polynomial. -/
theorem zer_12 {p : Nat} (h1 : 1 < p) (hf : Fer p) (hbig : 256 <= p) (hq : (p - 1) * (p - 1) % p = 1) (hq2 : (p - 1) * (p - 2) % p = 2) : zerL p [1,2] = [2,p - 1] := by
 have e0 : oth 2 0 = [1] := rfl
 have e1 : oth 2 1 = [0] := rfl
 have d0 : dfF p [1,2] 0 1 [1] = p - 1 := by
  show 1 * ((1 + (p - 2)) % p) % p = p - 1
  rw [Nat.one_mul,Nat.mod_mod,show 1 + (p - 2) = p - 1 by omega,Nat.mod_eq_of_lt (by omega)]
 have d1 : dfF p [1,2] 1 1 [0] = 1 := by
  show 1 * ((2 + (p - 1)) % p) % p = 1
  rw [Nat.one_mul,Nat.mod_mod,show 2 + (p - 1) = 1 + p by omega,Nat.add_mod_right,Nat.mod_eq_of_lt (by omega)]
 have w0 : wgt p [1,2] 0 = p - 1 := by
  unfold wgt
  rw [show ([1,2] : List Nat).length = 2 from rfl,e0,d0]
  exact inv_is h1 hf (by omega) hq
 have w1 : wgt p [1,2] 1 = 1 := by
  unfold wgt
  rw [show ([1,2] : List Nat).length = 2 from rfl,e1,d1]
  exact inv_is h1 hf (by omega) (by rw [Nat.mul_one,Nat.mod_eq_of_lt h1])
 show [ngF p [1,2] (wgt p [1,2] 0) (oth 2 0),ngF p [1,2] (wgt p [1,2] 1) (oth 2 1)] = _
 rw [w0,w1,e0,e1]
 show [(p - 1) * ((p - 2) % p) % p,1 * ((p - 1) % p) % p] = [2,p - 1]
 rw [Nat.mod_eq_of_lt (show p - 2 < p by omega),Nat.mod_eq_of_lt (show p - 1 < p by omega),hq2,Nat.one_mul,Nat.mod_eq_of_lt (show p - 1 < p by omega)]
theorem itp_12 {p : Nat} (h1 : 1 < p) (hf : Fer p) (hbig : 256 <= p) : itpL p [1,2] [5,7] = [3,2] := by
 have ha : Apart p [1,2] := ints_apart (xs := [1,2]) hbig (by decide)
 have h := itp_values h1 hf [1,2] (by intro x hx; simp at hx; omega) ha [3,2] (by intro x hx; simp at hx; omega) (by decide) [5,7] (fun j hj => by
  have : j = 0 ∨ j = 1 := by simp at hj; omega
  rcases this with rfl | rfl <;> rfl)
 exact h
set_option maxRecDepth 100000 in
set_option maxHeartbeats 4000000 in
theorem alive_p9 {id : Int} {p i r s : Nat} (hF : Fld id p i r s) (hid : id = idB false) (v1 : [5,7].map (· % p) = [5,7]) (hq : (p - 1) * (p - 1) % p = 1) (hq2 : (p - 1) * (p - 2) % p = 2) (w : World) (hT : TabAt w) :
  Calls Tryd.prog 9 #[] w fun e w' => e = .returned (.bool true) /\ Off (fun _ => False) w w' := by
 have hp := hF.mp.lt
 have h1 := hF.mp.one
 obtain ⟨_,hf,_,hbig⟩ := fld_full hF
 have FG := Lib.hid (fun W hT => get9_any false hF hid W hT)
 obtain ⟨m1,hm1⟩ : ∃ m,m = p - 1 := ⟨_,rfl⟩
 obtain ⟨l57,hl⟩ : ∃ l,l = [5,7] := ⟨_,rfl⟩
 have FV1 := Lib.hid (show ∀ W v,Ls W v l57 -> Calls Tryd.prog 18 #[V p,v] W fun e w' => ∃ z1 z2,e = .returned (.tuple #[z1,z2]) /\ Ls w' z2 (l57.map (fm p)) /\ Off (fun _ => False) W w' from fun W v h => (values_any hp h1 l57 (by rw [hl]; decide +kernel) (by rw [hl]; decide) v W h).mono (fun e w' ⟨z1,z2,he,_,h2,hO⟩ => ⟨z1,z2,he,by rw [hl,v1,<- hl] at h2; exact h2,hO⟩))
 have FZ := Lib.hid (show ∀ W v,Iv W v [1,2] -> Calls Tryd.prog 14 #[.pointer none,FV id p i r s,v] W fun e w' => ∃ z,e = .returned (.tuple #[z,.int .i64 0]) /\ Ls w' z ([2,m1].map (fm p)) /\ Off (fun _ => False) W w' from fun W v h => by
  have g := zero_ls hF [1,2] (by decide) (by decide) v W h
  rw [show ptV [1,2] = [1,2] from rfl,zer_12 h1 hf hbig hq hq2,<- hm1] at g; exact g)
 have FI := Lib.hid (show ∀ W v u,Iv W v [1,2] -> Ls W u (l57.map (fm p)) -> Calls Tryd.prog 19 #[.pointer none,FV id p i r s,v,u] W fun e w' => ∃ z,e = .returned (.tuple #[z,.int .i64 0]) /\ Ls w' z ([3,2].map (fm p)) /\ Off (fun _ => False) W w' from fun W v u h k => by
  have g := itp_ls hF [1,2] (by decide) (by decide) l57 (by rw [hl]; rfl) v u W h k
  rw [show ptV [1,2] = [1,2] from rfl,hl,itp_12 h1 hf hbig] at g; exact g)
 have FCk0 := Lib.hid (show ∀ W v,Iv W v [0] -> Calls Tryd.prog 10 #[v] W fun e w' => e = .returned (.int .i64 12) /\ Off (fun _ => False) W w' from fun W v h => by
  have g := check_any [0] (by decide) v W h
  rw [show chkV [0] = 12 from by decide] at g; exact g)
 have FSb := Lib.hid (show ∀ W,Calls Tryd.prog 34 #[V p,.agg #[.int .u64 0,.int .u64 0,.int .u64 0,.int .u64 0],.agg #[.int .u64 1,.int .u64 0,.int .u64 0,.int .u64 0]] W fun e w' => e = .returned (V m1) /\ Off (fun _ => False) W w' from fun W => by
  have g := mod_diff p 0 1 hp (by omega) h1 W
  rw [lit_small 0 (by decide),lit_small 1 (by decide),Nat.zero_add,Nat.mod_eq_of_lt (show p - 1 < p by omega),<- hm1] at g; exact g)
 have FSa := Lib.hid (show ∀ W u v,Ls W u ([2,m1].map (fm p)) -> Ls W v [2,m1] -> Calls Tryd.prog 15 #[V p,u,v] W fun e w' => e = .returned (.bool true) /\ Off (fun _ => False) W w' from fun W u v h k => same9_any hp h1 [2,m1] (by intro x hx; have h2 : (2 : Nat) < R256 := (by decide +kernel); simp at hx; rcases hx with rfl | rfl <;> omega) u v W h k)
 have FSc := Lib.hid (show ∀ W u v,Ls W u ([3,2].map (fm p)) -> Ls W v [3,2] -> Calls Tryd.prog 15 #[V p,u,v] W fun e w' => e = .returned (.bool true) /\ Off (fun _ => False) W w' from fun W u v h k => same9_any hp h1 [3,2] (by decide +kernel) u v W h k)
 have B1 := Lib.hid (show ∀ (W : World) n,n = W.heap.size -> Iv (W.alloc (.cells #[.int .i64 1,.int .i64 2] 3 (0,0))) (.slice (some ⟨n,0,none⟩) 2 2) [1,2] from fun W n e => by rw [e]; exact ints_12 W)
 have B2 := Lib.hid (show ∀ (W : World) n,n = W.heap.size -> Ls (W.alloc (.cells #[.int .u64 5,.int .u64 0,.int .u64 0,.int .u64 0,.int .u64 7,.int .u64 0,.int .u64 0,.int .u64 0] 29 (0,0))) (.slice (some ⟨n,0,none⟩) 2 2) l57 from fun W n e => by rw [e,hl]; exact build57 W)
 clear v1 hq hq2 hm1 hl hF hid hp h1 hf hbig
 go_enter Tryd.func9,Tryd.ntmps9
 go_wp2_with fail
 refine (FG.out _ hT).mono ?_
 rintro e u0 ⟨rfl,hO0⟩
 obtain ⟨fb,hfb⟩ : ∃ fb,fb = u0.heap.size := ⟨_,rfl⟩
 obtain ⟨pb,hpb⟩ : ∃ pb,pb = u0.heap.size + 1 := ⟨_,rfl⟩
 have HI := Lib.hid (show ∀ W o,W = ((u0.alloc (.cells #[.int .i64 id,.int .u64 (wd p 0 : Int),.int .u64 (wd p 1 : Int),.int .u64 (wd p 2 : Int),.int .u64 (wd p 3 : Int),.int .u64 (i : Int),.int .u64 (wd r 0 : Int),.int .u64 (wd r 1 : Int),.int .u64 (wd r 2 : Int),.int .u64 (wd r 3 : Int),.int .u64 (wd s 0 : Int),.int .u64 (wd s 1 : Int),.int .u64 (wd s 2 : Int),.int .u64 (wd s 3 : Int)] 32)).alloc (.cells #[.int .u64 (wd p 0 : Int),.int .u64 (wd p 1 : Int),.int .u64 (wd p 2 : Int),.int .u64 (wd p 3 : Int)] 29)).alloc o -> W.heap[fb]? = some (.cells #[.int .i64 id,.int .u64 (wd p 0 : Int),.int .u64 (wd p 1 : Int),.int .u64 (wd p 2 : Int),.int .u64 (wd p 3 : Int),.int .u64 (i : Int),.int .u64 (wd r 0 : Int),.int .u64 (wd r 1 : Int),.int .u64 (wd r 2 : Int),.int .u64 (wd r 3 : Int),.int .u64 (wd s 0 : Int),.int .u64 (wd s 1 : Int),.int .u64 (wd s 2 : Int),.int .u64 (wd s 3 : Int)] 32 (0,0)) /\ W.heap[pb]? = some (.cells #[.int .u64 (wd p 0 : Int),.int .u64 (wd p 1 : Int),.int .u64 (wd p 2 : Int),.int .u64 (wd p 3 : Int)] 29 (0,0)) /\ Off (fun _ => False) w W from fun W o e => by
  subst e
  exact ⟨by rw [hfb]; exact heap_old' (heap_old' (heap_new' rfl _) _) _,by rw [hpb]; exact heap_old' (heap_new' (by simp) _) _,((hO0.alloc _).alloc _).alloc _⟩)
 go_wp2_with fail
 refine (FZ.out _ _ (B1.out _ _ (by simp))).mono ?_
 rintro e u1 ⟨zz,rfl,hz,hO1⟩
 rw [<- hpb,<- hfb]
 obtain ⟨i1,i2,i3⟩ := HI.out _ _ rfl
 have j1 := hO1.heap i1 (fun c => c)
 have j2 := hO1.heap i2 (fun c => c)
 have j3 := i3.trans hO1 (fun _ _ c => c)
 have J1 := Lib.hid j1
 have J2 := Lib.hid j2
 have J3 := Lib.hid j3
 have HZ := Lib.hid hz
 obtain ⟨p0,p1,p2,p3⟩ := cells4 j2
 have hlp := heap_lt j2
 clear HI i1 i2 i3 j1 j2 j3 hz hO0 hO1 hfb hpb
 go_wp2_with fail
 clear p0 p1 p2 p3 hlp
 refine (FV1.out _ _ (B2.out _ _ (by simp))).mono ?_
 rintro e u2 ⟨z5,z6,rfl,h6,hO2⟩
 have hOa : Off (fun _ => False) u1 u2 := ((Off.refl _ u1).alloc _).trans hO2 (fun _ _ c => c)
 have k1 := hOa.heap J1.out (fun c => c)
 have k2 := hOa.heap J2.out (fun c => c)
 have K1 := Lib.hid k1
 have K2 := Lib.hid k2
 have K3 := Lib.hid (J3.out.trans hOa (fun _ _ c => c))
 have K4 := Lib.hid (HZ.out.off hOa)
 have H6 := Lib.hid h6
 obtain ⟨f0,f1,f2,f3,f4,f5,f6,f7,f8,f9,f10,f11,f12,f13⟩ := fv_cells k1
 have hlf := heap_lt k1
 clear k1 k2 h6 hO2 hOa J1 J2 J3 HZ
 go_wp2_with fail
 clear f0 f1 f2 f3 f4 f5 f6 f7 f8 f9 f10 f11 f12 f13 hlf
 refine (FI.out _ _ _ (B1.out _ _ (by simp)) (H6.out.off ((Off.refl _ u2).alloc _))).mono ?_
 rintro e u4 ⟨zi,rfl,hi,hO3⟩
 have hOb : Off (fun _ => False) u2 u4 := ((Off.refl _ u2).alloc _).trans hO3 (fun _ _ c => c)
 have k2 := hOb.heap K2.out (fun c => c)
 have hz2 := K4.out.off hOb
 have FS1 := Lib.hid (show ∀ W v,Off (fun _ => False) u4 W -> Ls W v [2,m1] -> _ from fun W v h k => FSa.out W zz v (hz2.off h) k)
 have FS2 := Lib.hid (show ∀ W v,Off (fun _ => False) u4 W -> Ls W v [3,2] -> _ from fun W v h k => FSc.out W zi v (hi.off h) k)
 have FCk := Lib.hid (show ∀ W v,Off (fun _ => False) u4 W -> Iv W v [0] -> _ from fun W v _ k => FCk0.out W v k)
 have HK : Hid (∀ W',Off (fun _ => False) u4 W' -> (W'.cell? ⟨pb,0,none⟩ = some (.int .u64 (wd p 0 : Int)) /\ W'.cell? ⟨pb,1,none⟩ = some (.int .u64 (wd p 1 : Int)) /\ W'.cell? ⟨pb,2,none⟩ = some (.int .u64 (wd p 2 : Int)) /\ W'.cell? ⟨pb,3,none⟩ = some (.int .u64 (wd p 3 : Int))) /\ Off (fun _ => False) u4 W') := Lib.hid (fun W' h => ⟨cells4 (h.heap k2 (fun c => c)),h⟩)
 have HOf := Lib.hid (K3.out.trans hOb (fun _ _ c => c))
 clear k2 hz2 hi hOb hO3 K1 K2 K3 K4 H6 hT
 go_upto_region 5 with fail
 obtain ⟨x34,hx⟩ : ∃ x : Value,x = .int .i64 0 := ⟨_,rfl⟩
 have X34 := Lib.hid hx
 clear hx
 obtain ⟨x35,hx⟩ : ∃ x : Value,x = .bool true := ⟨_,rfl⟩
 have X35 := Lib.hid hx
 clear hx
 obtain ⟨x36,hx⟩ : ∃ x : Value,x = .bool true := ⟨_,rfl⟩
 have X36 := Lib.hid hx
 clear hx
 obtain ⟨x37,hx⟩ : ∃ x : Value,x = V p := ⟨_,rfl⟩
 have X37 := Lib.hid hx
 clear hx
 obtain ⟨x38,hx⟩ : ∃ x : Value,x = zz := ⟨_,rfl⟩
 have X38 := Lib.hid hx
 clear hx
 obtain ⟨x39,hx⟩ : ∃ x : Value,x = .agg #[.int .u64 2,.int .u64 0,.int .u64 0,.int .u64 0] := ⟨_,rfl⟩
 have X39 := Lib.hid hx
 clear hx
 obtain ⟨x40,hx⟩ : ∃ x : Value,x = V p := ⟨_,rfl⟩
 have X40 := Lib.hid hx
 clear hx
 obtain ⟨x41,hx⟩ : ∃ x : Value,x = .agg #[.int .u64 0,.int .u64 0,.int .u64 0,.int .u64 0] := ⟨_,rfl⟩
 have X41 := Lib.hid hx
 clear hx
 obtain ⟨x42,hx⟩ : ∃ x : Value,x = .agg #[.int .u64 1,.int .u64 0,.int .u64 0,.int .u64 0] := ⟨_,rfl⟩
 have X42 := Lib.hid hx
 clear hx
 obtain ⟨x43,hx⟩ : ∃ x : Value,x = V m1 := ⟨_,rfl⟩
 have X43 := Lib.hid hx
 clear hx
 obtain ⟨x45,hx⟩ : ∃ x : Value,x = .bool true := ⟨_,rfl⟩
 have X45 := Lib.hid hx
 clear hx
 obtain ⟨x46,hx⟩ : ∃ x : Value,x = .bool true := ⟨_,rfl⟩
 have X46 := Lib.hid hx
 clear hx
 obtain ⟨x47,hx⟩ : ∃ x : Value,x = .bool true := ⟨_,rfl⟩
 have X47 := Lib.hid hx
 clear hx
 obtain ⟨x48,hx⟩ : ∃ x : Value,x = .int .i64 0 := ⟨_,rfl⟩
 have X48 := Lib.hid hx
 clear hx
 obtain ⟨x49,hx⟩ : ∃ x : Value,x = .bool true := ⟨_,rfl⟩
 have X49 := Lib.hid hx
 clear hx
 obtain ⟨x50,hx⟩ : ∃ x : Value,x = .bool true := ⟨_,rfl⟩
 have X50 := Lib.hid hx
 clear hx
 obtain ⟨x51,hx⟩ : ∃ x : Value,x = .bool true := ⟨_,rfl⟩
 have X51 := Lib.hid hx
 clear hx
 obtain ⟨x52,hx⟩ : ∃ x : Value,x = V p := ⟨_,rfl⟩
 have X52 := Lib.hid hx
 clear hx
 obtain ⟨x53,hx⟩ : ∃ x : Value,x = zi := ⟨_,rfl⟩
 have X53 := Lib.hid hx
 clear hx
 obtain ⟨x54,hx⟩ : ∃ x : Value,x = .agg #[.int .u64 3,.int .u64 0,.int .u64 0,.int .u64 0] := ⟨_,rfl⟩
 have X54 := Lib.hid hx
 clear hx
 obtain ⟨x55,hx⟩ : ∃ x : Value,x = .agg #[.int .u64 2,.int .u64 0,.int .u64 0,.int .u64 0] := ⟨_,rfl⟩
 have X55 := Lib.hid hx
 clear hx
 obtain ⟨x57,hx⟩ : ∃ x : Value,x = .bool true := ⟨_,rfl⟩
 have X57 := Lib.hid hx
 clear hx
 obtain ⟨x58,hx⟩ : ∃ x : Value,x = .bool true := ⟨_,rfl⟩
 have X58 := Lib.hid hx
 clear hx
 obtain ⟨x59,hx⟩ : ∃ x : Value,x = .bool true := ⟨_,rfl⟩
 have X59 := Lib.hid hx
 clear hx
 obtain ⟨x61,hx⟩ : ∃ x : Value,x = .int .i64 12 := ⟨_,rfl⟩
 have X61 := Lib.hid hx
 clear hx
 obtain ⟨x62,hx⟩ : ∃ x : Value,x = .bool true := ⟨_,rfl⟩
 have X62 := Lib.hid hx
 clear hx
 obtain ⟨x63,hx⟩ : ∃ x : Value,x = .bool true := ⟨_,rfl⟩
 have X63 := Lib.hid hx
 clear hx
 obtain ⟨x0,hx⟩ : ∃ x : Value,x = .bool true := ⟨_,rfl⟩
 have X0 := Lib.hid hx
 clear hx
 refine wp_region_inv (fun a0 l a' w' => ∃ (u44 : Value),∃ (u56 : Value),∃ (u60 : Value),a' = (Act.put (fill a0 34 [sel (l 0) x34 undef,sel (l 1) x35 undef,sel (l 2) x36 undef,sel (l 3) x37 undef,sel (l 4) x38 undef,sel (l 5) x39 undef,sel (l 6) x40 undef,sel (l 7) x41 undef,sel (l 8) x42 undef,sel (l 9) x43 undef,sel (l 10) u44 undef,sel (l 11) x45 undef,sel (l 12) x46 undef,sel (l 13) x47 undef,sel (l 14) x48 undef,sel (l 15) x49 undef,sel (l 16) x50 undef,sel (l 17) x51 undef,sel (l 18) x52 undef,sel (l 19) x53 undef,sel (l 20) x54 undef,sel (l 21) x55 undef,sel (l 22) u56 undef,sel (l 23) x57 undef,sel (l 24) x58 undef,sel (l 25) x59 undef,sel (l 26) u60 undef,sel (l 27) x61 undef,sel (l 28) x62 undef,sel (l 29) x63 undef]) (some 0) (sel (l 30) x0 (.bool false))) /\ Lk l 10 u44 w' ([2,m1]) /\ Lk l 22 u56 w' ([3,2]) /\ Ik l 26 u60 w' ([0]) /\ Off (fun _ => False) u4 w') (by kernel_rfl) (by kernel_rfl) ?_ ⟨?_,?_,?_,?_,?_,?_,?_,?_,?_,?_,?_,?_,?_,?_,?_,?_,?_,?_,?_,?_,?_,?_,?_,?_,?_,?_,?_,?_,?_,?_,?_,trivial⟩ ?_
 ·refine ⟨undef,undef,undef,?_,Lk.start _ _ _ _,Lk.start _ _ _ _,Ik.start _ _ _ _,(Off.refl _ u4).drew⟩
  simp only [fill_eq,List.take_succ_cons,List.take_zero,List.cons_append,List.nil_append,Act.put,List.setIfInBounds_toArray,List.set_cons_zero,List.set_cons_succ,sel_start]
 ·as_aux_lemma =>
   rintro l a wr ⟨u44,u56,u60,ha,M10,M22,M26,hO⟩ hl hd K' hK
   have hx := X34.out; subst hx
   simp only [fill_eq,List.take_succ_cons,List.take_zero,List.cons_append,List.nil_append,Act.put,List.setIfInBounds_toArray,List.set_cons_zero,List.set_cons_succ] at ha
   subst ha
   rw [if_pos (by rfl)]
   go_simp
   refine hK.out _ _ ⟨u44,u56,u60,?_,M10.keep (Off.refl _ wr) rfl,M22.keep (Off.refl _ wr) rfl,M26.keep (Off.refl _ wr) rfl,hO⟩
   simp only [fill_eq,List.take_succ_cons,List.take_zero,List.cons_append,List.nil_append,Act.put,List.setIfInBounds_toArray,List.set_cons_zero,List.set_cons_succ,sel_new]
   rfl
 ·as_aux_lemma =>
   rintro l a wr ⟨u44,u56,u60,ha,M10,M22,M26,hO⟩ hl hd K' hK
   have d0 := hd 0 (by decide)
   have hx := X34.out; subst hx
   have hx := X35.out; subst hx
   simp only [fill_eq,List.take_succ_cons,List.take_zero,List.cons_append,List.nil_append,Act.put,List.setIfInBounds_toArray,List.set_cons_zero,List.set_cons_succ,sel_of d0] at ha
   subst ha
   rw [if_pos (by rfl)]
   go_simp
   refine hK.out _ _ ⟨u44,u56,u60,?_,M10.keep (Off.refl _ wr) rfl,M22.keep (Off.refl _ wr) rfl,M26.keep (Off.refl _ wr) rfl,hO⟩
   simp only [fill_eq,List.take_succ_cons,List.take_zero,List.cons_append,List.nil_append,Act.put,List.setIfInBounds_toArray,List.set_cons_zero,List.set_cons_succ,sel_new,sel_dep d0]
   rfl
 ·as_aux_lemma =>
   rintro l a wr ⟨u44,u56,u60,ha,M10,M22,M26,hO⟩ hl hd K' hK
   have d1 := hd 1 (by decide)
   have hx := X35.out; subst hx
   have hx := X36.out; subst hx
   simp only [fill_eq,List.take_succ_cons,List.take_zero,List.cons_append,List.nil_append,Act.put,List.setIfInBounds_toArray,List.set_cons_zero,List.set_cons_succ,sel_of d1] at ha
   subst ha
   rw [if_pos (by rfl)]
   go_simp
   refine hK.out _ _ ⟨u44,u56,u60,?_,M10.keep (Off.refl _ wr) rfl,M22.keep (Off.refl _ wr) rfl,M26.keep (Off.refl _ wr) rfl,hO⟩
   simp only [fill_eq,List.take_succ_cons,List.take_zero,List.cons_append,List.nil_append,Act.put,List.setIfInBounds_toArray,List.set_cons_zero,List.set_cons_succ,sel_new,sel_dep d1]
   rfl
 ·as_aux_lemma =>
   rintro l a wr ⟨u44,u56,u60,ha,M10,M22,M26,hO⟩ hl hd K' hK
   have d2 := hd 2 (by decide)
   have hx := X36.out; subst hx
   have hx := X37.out; subst hx
   simp only [fill_eq,List.take_succ_cons,List.take_zero,List.cons_append,List.nil_append,Act.put,List.setIfInBounds_toArray,List.set_cons_zero,List.set_cons_succ,sel_of d2] at ha
   subst ha
   have hc := HK.out wr hO
   have p0 := hc.1.1
   have p1 := hc.1.2.1
   have p2 := hc.1.2.2.1
   have p3 := hc.1.2.2.2
   clear hc
   rw [if_pos (by rfl)]
   go_simp
   refine hK.out _ _ ⟨u44,u56,u60,?_,M10.keep (Off.refl _ wr) rfl,M22.keep (Off.refl _ wr) rfl,M26.keep (Off.refl _ wr) rfl,hO⟩
   simp only [fill_eq,List.take_succ_cons,List.take_zero,List.cons_append,List.nil_append,Act.put,List.setIfInBounds_toArray,List.set_cons_zero,List.set_cons_succ,sel_new,sel_dep d2]
   rfl
 ·as_aux_lemma =>
   rintro l a wr ⟨u44,u56,u60,ha,M10,M22,M26,hO⟩ hl hd K' hK
   have d2 := hd 2 (by decide)
   have hx := X36.out; subst hx
   have hx := X38.out; subst hx
   simp only [fill_eq,List.take_succ_cons,List.take_zero,List.cons_append,List.nil_append,Act.put,List.setIfInBounds_toArray,List.set_cons_zero,List.set_cons_succ,sel_of d2] at ha
   subst ha
   rw [if_pos (by rfl)]
   go_simp
   refine hK.out _ _ ⟨u44,u56,u60,?_,M10.keep (Off.refl _ wr) rfl,M22.keep (Off.refl _ wr) rfl,M26.keep (Off.refl _ wr) rfl,hO⟩
   simp only [fill_eq,List.take_succ_cons,List.take_zero,List.cons_append,List.nil_append,Act.put,List.setIfInBounds_toArray,List.set_cons_zero,List.set_cons_succ,sel_new,sel_dep d2]
   rfl
 ·as_aux_lemma =>
   rintro l a wr ⟨u44,u56,u60,ha,M10,M22,M26,hO⟩ hl hd K' hK
   have d2 := hd 2 (by decide)
   have hx := X36.out; subst hx
   have hx := X39.out; subst hx
   simp only [fill_eq,List.take_succ_cons,List.take_zero,List.cons_append,List.nil_append,Act.put,List.setIfInBounds_toArray,List.set_cons_zero,List.set_cons_succ,sel_of d2] at ha
   subst ha
   rw [if_pos (by rfl)]
   go_simp
   refine hK.out _ _ ⟨u44,u56,u60,?_,M10.keep (Off.refl _ wr) rfl,M22.keep (Off.refl _ wr) rfl,M26.keep (Off.refl _ wr) rfl,hO⟩
   simp only [fill_eq,List.take_succ_cons,List.take_zero,List.cons_append,List.nil_append,Act.put,List.setIfInBounds_toArray,List.set_cons_zero,List.set_cons_succ,sel_new,sel_dep d2]
   rfl
 ·as_aux_lemma =>
   rintro l a wr ⟨u44,u56,u60,ha,M10,M22,M26,hO⟩ hl hd K' hK
   have d2 := hd 2 (by decide)
   have hx := X36.out; subst hx
   have hx := X40.out; subst hx
   simp only [fill_eq,List.take_succ_cons,List.take_zero,List.cons_append,List.nil_append,Act.put,List.setIfInBounds_toArray,List.set_cons_zero,List.set_cons_succ,sel_of d2] at ha
   subst ha
   have hc := HK.out wr hO
   have p0 := hc.1.1
   have p1 := hc.1.2.1
   have p2 := hc.1.2.2.1
   have p3 := hc.1.2.2.2
   clear hc
   rw [if_pos (by rfl)]
   go_simp
   refine hK.out _ _ ⟨u44,u56,u60,?_,M10.keep (Off.refl _ wr) rfl,M22.keep (Off.refl _ wr) rfl,M26.keep (Off.refl _ wr) rfl,hO⟩
   simp only [fill_eq,List.take_succ_cons,List.take_zero,List.cons_append,List.nil_append,Act.put,List.setIfInBounds_toArray,List.set_cons_zero,List.set_cons_succ,sel_new,sel_dep d2]
   rfl
 ·as_aux_lemma =>
   rintro l a wr ⟨u44,u56,u60,ha,M10,M22,M26,hO⟩ hl hd K' hK
   have d2 := hd 2 (by decide)
   have hx := X36.out; subst hx
   have hx := X41.out; subst hx
   simp only [fill_eq,List.take_succ_cons,List.take_zero,List.cons_append,List.nil_append,Act.put,List.setIfInBounds_toArray,List.set_cons_zero,List.set_cons_succ,sel_of d2] at ha
   subst ha
   rw [if_pos (by rfl)]
   go_simp
   refine hK.out _ _ ⟨u44,u56,u60,?_,M10.keep (Off.refl _ wr) rfl,M22.keep (Off.refl _ wr) rfl,M26.keep (Off.refl _ wr) rfl,hO⟩
   simp only [fill_eq,List.take_succ_cons,List.take_zero,List.cons_append,List.nil_append,Act.put,List.setIfInBounds_toArray,List.set_cons_zero,List.set_cons_succ,sel_new,sel_dep d2]
   rfl
 ·as_aux_lemma =>
   rintro l a wr ⟨u44,u56,u60,ha,M10,M22,M26,hO⟩ hl hd K' hK
   have d2 := hd 2 (by decide)
   have hx := X36.out; subst hx
   have hx := X42.out; subst hx
   simp only [fill_eq,List.take_succ_cons,List.take_zero,List.cons_append,List.nil_append,Act.put,List.setIfInBounds_toArray,List.set_cons_zero,List.set_cons_succ,sel_of d2] at ha
   subst ha
   rw [if_pos (by rfl)]
   go_simp
   refine hK.out _ _ ⟨u44,u56,u60,?_,M10.keep (Off.refl _ wr) rfl,M22.keep (Off.refl _ wr) rfl,M26.keep (Off.refl _ wr) rfl,hO⟩
   simp only [fill_eq,List.take_succ_cons,List.take_zero,List.cons_append,List.nil_append,Act.put,List.setIfInBounds_toArray,List.set_cons_zero,List.set_cons_succ,sel_new,sel_dep d2]
   rfl
 ·as_aux_lemma =>
   rintro l a wr ⟨u44,u56,u60,ha,M10,M22,M26,hO⟩ hl hd K' hK
   have d2 := hd 2 (by decide)
   have d6 := hd 6 (by decide)
   have d7 := hd 7 (by decide)
   have d8 := hd 8 (by decide)
   have hx := X36.out; subst hx
   have hx := X40.out; subst hx
   have hx := X41.out; subst hx
   have hx := X42.out; subst hx
   have hx := X43.out; subst hx
   simp only [fill_eq,List.take_succ_cons,List.take_zero,List.cons_append,List.nil_append,Act.put,List.setIfInBounds_toArray,List.set_cons_zero,List.set_cons_succ,sel_of d2,sel_of d6,sel_of d7,sel_of d8] at ha
   subst ha
   rw [if_pos (by rfl)]
   go_simp
   refine (held_inv (FSb.out wr) hO).mono ?_
   rintro e w1 ⟨rfl,hO1,hOW⟩
   go_wp2_with fail
   refine hK.out _ _ ⟨u44,u56,u60,?_,M10.keep hOW rfl,M22.keep hOW rfl,M26.keep hOW rfl,hO1⟩
   simp only [fill_eq,List.take_succ_cons,List.take_zero,List.cons_append,List.nil_append,Act.put,List.setIfInBounds_toArray,List.set_cons_zero,List.set_cons_succ,sel_new,sel_dep d2,sel_dep d6,sel_dep d7,sel_dep d8]
   rfl
 ·(
   rintro l a wr ⟨u44,u56,u60,ha,M10,M22,M26,hO⟩ hl hd K' hK
   have d2 := hd 2 (by decide)
   have d5 := hd 5 (by decide)
   have d9 := hd 9 (by decide)
   have hx := X36.out; subst hx
   have hx := X39.out; subst hx
   have hx := X43.out; subst hx
   simp only [fill_eq,List.take_succ_cons,List.take_zero,List.cons_append,List.nil_append,Act.put,List.setIfInBounds_toArray,List.set_cons_zero,List.set_cons_succ,sel_of d2,sel_of d5,sel_of d9] at ha
   subst ha
   rw [if_pos (by rfl)]
   go_simp
   refine hK.out _ _ ⟨_,u56,u60,?_,fun _ => build2m wr m1,M22.keep ((Off.refl _ wr).alloc _) rfl,M26.keep ((Off.refl _ wr).alloc _) rfl,hO.alloc _⟩
   simp only [fill_eq,List.take_succ_cons,List.take_zero,List.cons_append,List.nil_append,Act.put,List.setIfInBounds_toArray,List.set_cons_zero,List.set_cons_succ,sel_new,sel_dep d2,sel_dep d5,sel_dep d9]
   rfl)
 ·as_aux_lemma =>
   rintro l a wr ⟨u44,u56,u60,ha,M10,M22,M26,hO⟩ hl hd K' hK
   have d2 := hd 2 (by decide)
   have d3 := hd 3 (by decide)
   have d4 := hd 4 (by decide)
   have d10 := hd 10 (by decide)
   have hx := X36.out; subst hx
   have hx := X37.out; subst hx
   have hx := X38.out; subst hx
   have m10 := M10 d10
   have hx := X45.out; subst hx
   simp only [fill_eq,List.take_succ_cons,List.take_zero,List.cons_append,List.nil_append,Act.put,List.setIfInBounds_toArray,List.set_cons_zero,List.set_cons_succ,sel_of d2,sel_of d3,sel_of d4,sel_of d10] at ha
   subst ha
   rw [if_pos (by rfl)]
   go_simp
   refine (held_inv (FS1.out wr u44 hO m10) hO).mono ?_
   rintro e w1 ⟨rfl,hO1,hOW⟩
   go_wp2_with fail
   refine hK.out _ _ ⟨u44,u56,u60,?_,M10.keep hOW rfl,M22.keep hOW rfl,M26.keep hOW rfl,hO1⟩
   simp only [fill_eq,List.take_succ_cons,List.take_zero,List.cons_append,List.nil_append,Act.put,List.setIfInBounds_toArray,List.set_cons_zero,List.set_cons_succ,sel_new,sel_dep d2,sel_dep d3,sel_dep d4,sel_dep d10]
   rfl
 ·as_aux_lemma =>
   rintro l a wr ⟨u44,u56,u60,ha,M10,M22,M26,hO⟩ hl hd K' hK
   have d2 := hd 2 (by decide)
   have d11 := hd 11 (by decide)
   have hx := X36.out; subst hx
   have hx := X45.out; subst hx
   have hx := X46.out; subst hx
   simp only [fill_eq,List.take_succ_cons,List.take_zero,List.cons_append,List.nil_append,Act.put,List.setIfInBounds_toArray,List.set_cons_zero,List.set_cons_succ,sel_of d2,sel_of d11] at ha
   subst ha
   rw [if_pos (by rfl)]
   go_simp
   refine hK.out _ _ ⟨u44,u56,u60,?_,M10.keep (Off.refl _ wr) rfl,M22.keep (Off.refl _ wr) rfl,M26.keep (Off.refl _ wr) rfl,hO⟩
   simp only [fill_eq,List.take_succ_cons,List.take_zero,List.cons_append,List.nil_append,Act.put,List.setIfInBounds_toArray,List.set_cons_zero,List.set_cons_succ,sel_new,sel_dep d2,sel_dep d11]
   rfl
 ·as_aux_lemma =>
   rintro l a wr ⟨u44,u56,u60,ha,M10,M22,M26,hO⟩ hl hd K' hK
   have d12 := hd 12 (by decide)
   have hx := X46.out; subst hx
   have hx := X47.out; subst hx
   simp only [fill_eq,List.take_succ_cons,List.take_zero,List.cons_append,List.nil_append,Act.put,List.setIfInBounds_toArray,List.set_cons_zero,List.set_cons_succ,sel_of d12] at ha
   subst ha
   rw [if_pos (by rfl)]
   go_simp
   refine hK.out _ _ ⟨u44,u56,u60,?_,M10.keep (Off.refl _ wr) rfl,M22.keep (Off.refl _ wr) rfl,M26.keep (Off.refl _ wr) rfl,hO⟩
   simp only [fill_eq,List.take_succ_cons,List.take_zero,List.cons_append,List.nil_append,Act.put,List.setIfInBounds_toArray,List.set_cons_zero,List.set_cons_succ,sel_new,sel_dep d12]
   rfl
 ·as_aux_lemma =>
   rintro l a wr ⟨u44,u56,u60,ha,M10,M22,M26,hO⟩ hl hd K' hK
   have d13 := hd 13 (by decide)
   have hx := X47.out; subst hx
   have hx := X48.out; subst hx
   simp only [fill_eq,List.take_succ_cons,List.take_zero,List.cons_append,List.nil_append,Act.put,List.setIfInBounds_toArray,List.set_cons_zero,List.set_cons_succ,sel_of d13] at ha
   subst ha
   rw [if_pos (by rfl)]
   go_simp
   refine hK.out _ _ ⟨u44,u56,u60,?_,M10.keep (Off.refl _ wr) rfl,M22.keep (Off.refl _ wr) rfl,M26.keep (Off.refl _ wr) rfl,hO⟩
   simp only [fill_eq,List.take_succ_cons,List.take_zero,List.cons_append,List.nil_append,Act.put,List.setIfInBounds_toArray,List.set_cons_zero,List.set_cons_succ,sel_new,sel_dep d13]
   rfl
 ·as_aux_lemma =>
   rintro l a wr ⟨u44,u56,u60,ha,M10,M22,M26,hO⟩ hl hd K' hK
   have d13 := hd 13 (by decide)
   have d14 := hd 14 (by decide)
   have hx := X47.out; subst hx
   have hx := X48.out; subst hx
   have hx := X49.out; subst hx
   simp only [fill_eq,List.take_succ_cons,List.take_zero,List.cons_append,List.nil_append,Act.put,List.setIfInBounds_toArray,List.set_cons_zero,List.set_cons_succ,sel_of d13,sel_of d14] at ha
   subst ha
   rw [if_pos (by rfl)]
   go_simp
   refine hK.out _ _ ⟨u44,u56,u60,?_,M10.keep (Off.refl _ wr) rfl,M22.keep (Off.refl _ wr) rfl,M26.keep (Off.refl _ wr) rfl,hO⟩
   simp only [fill_eq,List.take_succ_cons,List.take_zero,List.cons_append,List.nil_append,Act.put,List.setIfInBounds_toArray,List.set_cons_zero,List.set_cons_succ,sel_new,sel_dep d13,sel_dep d14]
   rfl
 ·as_aux_lemma =>
   rintro l a wr ⟨u44,u56,u60,ha,M10,M22,M26,hO⟩ hl hd K' hK
   have d13 := hd 13 (by decide)
   have d15 := hd 15 (by decide)
   have hx := X47.out; subst hx
   have hx := X49.out; subst hx
   have hx := X50.out; subst hx
   simp only [fill_eq,List.take_succ_cons,List.take_zero,List.cons_append,List.nil_append,Act.put,List.setIfInBounds_toArray,List.set_cons_zero,List.set_cons_succ,sel_of d13,sel_of d15] at ha
   subst ha
   rw [if_pos (by rfl)]
   go_simp
   refine hK.out _ _ ⟨u44,u56,u60,?_,M10.keep (Off.refl _ wr) rfl,M22.keep (Off.refl _ wr) rfl,M26.keep (Off.refl _ wr) rfl,hO⟩
   simp only [fill_eq,List.take_succ_cons,List.take_zero,List.cons_append,List.nil_append,Act.put,List.setIfInBounds_toArray,List.set_cons_zero,List.set_cons_succ,sel_new,sel_dep d13,sel_dep d15]
   rfl
 ·as_aux_lemma =>
   rintro l a wr ⟨u44,u56,u60,ha,M10,M22,M26,hO⟩ hl hd K' hK
   have d16 := hd 16 (by decide)
   have hx := X50.out; subst hx
   have hx := X51.out; subst hx
   simp only [fill_eq,List.take_succ_cons,List.take_zero,List.cons_append,List.nil_append,Act.put,List.setIfInBounds_toArray,List.set_cons_zero,List.set_cons_succ,sel_of d16] at ha
   subst ha
   rw [if_pos (by rfl)]
   go_simp
   refine hK.out _ _ ⟨u44,u56,u60,?_,M10.keep (Off.refl _ wr) rfl,M22.keep (Off.refl _ wr) rfl,M26.keep (Off.refl _ wr) rfl,hO⟩
   simp only [fill_eq,List.take_succ_cons,List.take_zero,List.cons_append,List.nil_append,Act.put,List.setIfInBounds_toArray,List.set_cons_zero,List.set_cons_succ,sel_new,sel_dep d16]
   rfl
 ·as_aux_lemma =>
   rintro l a wr ⟨u44,u56,u60,ha,M10,M22,M26,hO⟩ hl hd K' hK
   have d17 := hd 17 (by decide)
   have hx := X51.out; subst hx
   have hx := X52.out; subst hx
   simp only [fill_eq,List.take_succ_cons,List.take_zero,List.cons_append,List.nil_append,Act.put,List.setIfInBounds_toArray,List.set_cons_zero,List.set_cons_succ,sel_of d17] at ha
   subst ha
   have hc := HK.out wr hO
   have p0 := hc.1.1
   have p1 := hc.1.2.1
   have p2 := hc.1.2.2.1
   have p3 := hc.1.2.2.2
   clear hc
   rw [if_pos (by rfl)]
   go_simp
   refine hK.out _ _ ⟨u44,u56,u60,?_,M10.keep (Off.refl _ wr) rfl,M22.keep (Off.refl _ wr) rfl,M26.keep (Off.refl _ wr) rfl,hO⟩
   simp only [fill_eq,List.take_succ_cons,List.take_zero,List.cons_append,List.nil_append,Act.put,List.setIfInBounds_toArray,List.set_cons_zero,List.set_cons_succ,sel_new,sel_dep d17]
   rfl
 ·as_aux_lemma =>
   rintro l a wr ⟨u44,u56,u60,ha,M10,M22,M26,hO⟩ hl hd K' hK
   have d17 := hd 17 (by decide)
   have hx := X51.out; subst hx
   have hx := X53.out; subst hx
   simp only [fill_eq,List.take_succ_cons,List.take_zero,List.cons_append,List.nil_append,Act.put,List.setIfInBounds_toArray,List.set_cons_zero,List.set_cons_succ,sel_of d17] at ha
   subst ha
   rw [if_pos (by rfl)]
   go_simp
   refine hK.out _ _ ⟨u44,u56,u60,?_,M10.keep (Off.refl _ wr) rfl,M22.keep (Off.refl _ wr) rfl,M26.keep (Off.refl _ wr) rfl,hO⟩
   simp only [fill_eq,List.take_succ_cons,List.take_zero,List.cons_append,List.nil_append,Act.put,List.setIfInBounds_toArray,List.set_cons_zero,List.set_cons_succ,sel_new,sel_dep d17]
   rfl
 ·as_aux_lemma =>
   rintro l a wr ⟨u44,u56,u60,ha,M10,M22,M26,hO⟩ hl hd K' hK
   have d17 := hd 17 (by decide)
   have hx := X51.out; subst hx
   have hx := X54.out; subst hx
   simp only [fill_eq,List.take_succ_cons,List.take_zero,List.cons_append,List.nil_append,Act.put,List.setIfInBounds_toArray,List.set_cons_zero,List.set_cons_succ,sel_of d17] at ha
   subst ha
   rw [if_pos (by rfl)]
   go_simp
   refine hK.out _ _ ⟨u44,u56,u60,?_,M10.keep (Off.refl _ wr) rfl,M22.keep (Off.refl _ wr) rfl,M26.keep (Off.refl _ wr) rfl,hO⟩
   simp only [fill_eq,List.take_succ_cons,List.take_zero,List.cons_append,List.nil_append,Act.put,List.setIfInBounds_toArray,List.set_cons_zero,List.set_cons_succ,sel_new,sel_dep d17]
   rfl
 ·as_aux_lemma =>
   rintro l a wr ⟨u44,u56,u60,ha,M10,M22,M26,hO⟩ hl hd K' hK
   have d17 := hd 17 (by decide)
   have hx := X51.out; subst hx
   have hx := X55.out; subst hx
   simp only [fill_eq,List.take_succ_cons,List.take_zero,List.cons_append,List.nil_append,Act.put,List.setIfInBounds_toArray,List.set_cons_zero,List.set_cons_succ,sel_of d17] at ha
   subst ha
   rw [if_pos (by rfl)]
   go_simp
   refine hK.out _ _ ⟨u44,u56,u60,?_,M10.keep (Off.refl _ wr) rfl,M22.keep (Off.refl _ wr) rfl,M26.keep (Off.refl _ wr) rfl,hO⟩
   simp only [fill_eq,List.take_succ_cons,List.take_zero,List.cons_append,List.nil_append,Act.put,List.setIfInBounds_toArray,List.set_cons_zero,List.set_cons_succ,sel_new,sel_dep d17]
   rfl
 ·(
   rintro l a wr ⟨u44,u56,u60,ha,M10,M22,M26,hO⟩ hl hd K' hK
   have d17 := hd 17 (by decide)
   have d20 := hd 20 (by decide)
   have d21 := hd 21 (by decide)
   have hx := X51.out; subst hx
   have hx := X54.out; subst hx
   have hx := X55.out; subst hx
   simp only [fill_eq,List.take_succ_cons,List.take_zero,List.cons_append,List.nil_append,Act.put,List.setIfInBounds_toArray,List.set_cons_zero,List.set_cons_succ,sel_of d17,sel_of d20,sel_of d21] at ha
   subst ha
   rw [if_pos (by rfl)]
   go_simp
   refine hK.out _ _ ⟨u44,_,u60,?_,M10.keep ((Off.refl _ wr).alloc _) rfl,fun _ => build32 wr,M26.keep ((Off.refl _ wr).alloc _) rfl,hO.alloc _⟩
   simp only [fill_eq,List.take_succ_cons,List.take_zero,List.cons_append,List.nil_append,Act.put,List.setIfInBounds_toArray,List.set_cons_zero,List.set_cons_succ,sel_new,sel_dep d17,sel_dep d20,sel_dep d21]
   rfl)
 ·as_aux_lemma =>
   rintro l a wr ⟨u44,u56,u60,ha,M10,M22,M26,hO⟩ hl hd K' hK
   have d17 := hd 17 (by decide)
   have d18 := hd 18 (by decide)
   have d19 := hd 19 (by decide)
   have d22 := hd 22 (by decide)
   have hx := X51.out; subst hx
   have hx := X52.out; subst hx
   have hx := X53.out; subst hx
   have m22 := M22 d22
   have hx := X57.out; subst hx
   simp only [fill_eq,List.take_succ_cons,List.take_zero,List.cons_append,List.nil_append,Act.put,List.setIfInBounds_toArray,List.set_cons_zero,List.set_cons_succ,sel_of d17,sel_of d18,sel_of d19,sel_of d22] at ha
   subst ha
   rw [if_pos (by rfl)]
   go_simp
   refine (held_inv (FS2.out wr u56 hO m22) hO).mono ?_
   rintro e w1 ⟨rfl,hO1,hOW⟩
   go_wp2_with fail
   refine hK.out _ _ ⟨u44,u56,u60,?_,M10.keep hOW rfl,M22.keep hOW rfl,M26.keep hOW rfl,hO1⟩
   simp only [fill_eq,List.take_succ_cons,List.take_zero,List.cons_append,List.nil_append,Act.put,List.setIfInBounds_toArray,List.set_cons_zero,List.set_cons_succ,sel_new,sel_dep d17,sel_dep d18,sel_dep d19,sel_dep d22]
   rfl
 ·as_aux_lemma =>
   rintro l a wr ⟨u44,u56,u60,ha,M10,M22,M26,hO⟩ hl hd K' hK
   have d17 := hd 17 (by decide)
   have d23 := hd 23 (by decide)
   have hx := X51.out; subst hx
   have hx := X57.out; subst hx
   have hx := X58.out; subst hx
   simp only [fill_eq,List.take_succ_cons,List.take_zero,List.cons_append,List.nil_append,Act.put,List.setIfInBounds_toArray,List.set_cons_zero,List.set_cons_succ,sel_of d17,sel_of d23] at ha
   subst ha
   rw [if_pos (by rfl)]
   go_simp
   refine hK.out _ _ ⟨u44,u56,u60,?_,M10.keep (Off.refl _ wr) rfl,M22.keep (Off.refl _ wr) rfl,M26.keep (Off.refl _ wr) rfl,hO⟩
   simp only [fill_eq,List.take_succ_cons,List.take_zero,List.cons_append,List.nil_append,Act.put,List.setIfInBounds_toArray,List.set_cons_zero,List.set_cons_succ,sel_new,sel_dep d17,sel_dep d23]
   rfl
 ·as_aux_lemma =>
   rintro l a wr ⟨u44,u56,u60,ha,M10,M22,M26,hO⟩ hl hd K' hK
   have d24 := hd 24 (by decide)
   have hx := X58.out; subst hx
   have hx := X59.out; subst hx
   simp only [fill_eq,List.take_succ_cons,List.take_zero,List.cons_append,List.nil_append,Act.put,List.setIfInBounds_toArray,List.set_cons_zero,List.set_cons_succ,sel_of d24] at ha
   subst ha
   rw [if_pos (by rfl)]
   go_simp
   refine hK.out _ _ ⟨u44,u56,u60,?_,M10.keep (Off.refl _ wr) rfl,M22.keep (Off.refl _ wr) rfl,M26.keep (Off.refl _ wr) rfl,hO⟩
   simp only [fill_eq,List.take_succ_cons,List.take_zero,List.cons_append,List.nil_append,Act.put,List.setIfInBounds_toArray,List.set_cons_zero,List.set_cons_succ,sel_new,sel_dep d24]
   rfl
 ·(
   rintro l a wr ⟨u44,u56,u60,ha,M10,M22,M26,hO⟩ hl hd K' hK
   have d25 := hd 25 (by decide)
   have hx := X59.out; subst hx
   simp only [fill_eq,List.take_succ_cons,List.take_zero,List.cons_append,List.nil_append,Act.put,List.setIfInBounds_toArray,List.set_cons_zero,List.set_cons_succ,sel_of d25] at ha
   subst ha
   rw [if_pos (by rfl)]
   go_simp
   refine hK.out _ _ ⟨u44,u56,_,?_,M10.keep ((Off.refl _ wr).alloc _) rfl,M22.keep ((Off.refl _ wr).alloc _) rfl,fun _ => ints_0 wr,hO.alloc _⟩
   simp only [fill_eq,List.take_succ_cons,List.take_zero,List.cons_append,List.nil_append,Act.put,List.setIfInBounds_toArray,List.set_cons_zero,List.set_cons_succ,sel_new,sel_dep d25]
   rfl)
 ·as_aux_lemma =>
   rintro l a wr ⟨u44,u56,u60,ha,M10,M22,M26,hO⟩ hl hd K' hK
   have d25 := hd 25 (by decide)
   have d26 := hd 26 (by decide)
   have hx := X59.out; subst hx
   have m26 := M26 d26
   have hx := X61.out; subst hx
   simp only [fill_eq,List.take_succ_cons,List.take_zero,List.cons_append,List.nil_append,Act.put,List.setIfInBounds_toArray,List.set_cons_zero,List.set_cons_succ,sel_of d25,sel_of d26] at ha
   subst ha
   rw [if_pos (by rfl)]
   go_simp
   refine (held_inv (FCk.out wr u60 hO m26) hO).mono ?_
   rintro e w1 ⟨rfl,hO1,hOW⟩
   go_wp2_with fail
   refine hK.out _ _ ⟨u44,u56,u60,?_,M10.keep hOW rfl,M22.keep hOW rfl,M26.keep hOW rfl,hO1⟩
   simp only [fill_eq,List.take_succ_cons,List.take_zero,List.cons_append,List.nil_append,Act.put,List.setIfInBounds_toArray,List.set_cons_zero,List.set_cons_succ,sel_new,sel_dep d25,sel_dep d26]
   rfl
 ·as_aux_lemma =>
   rintro l a wr ⟨u44,u56,u60,ha,M10,M22,M26,hO⟩ hl hd K' hK
   have d25 := hd 25 (by decide)
   have d27 := hd 27 (by decide)
   have hx := X59.out; subst hx
   have hx := X61.out; subst hx
   have hx := X62.out; subst hx
   simp only [fill_eq,List.take_succ_cons,List.take_zero,List.cons_append,List.nil_append,Act.put,List.setIfInBounds_toArray,List.set_cons_zero,List.set_cons_succ,sel_of d25,sel_of d27] at ha
   subst ha
   rw [if_pos (by rfl)]
   go_simp
   refine hK.out _ _ ⟨u44,u56,u60,?_,M10.keep (Off.refl _ wr) rfl,M22.keep (Off.refl _ wr) rfl,M26.keep (Off.refl _ wr) rfl,hO⟩
   simp only [fill_eq,List.take_succ_cons,List.take_zero,List.cons_append,List.nil_append,Act.put,List.setIfInBounds_toArray,List.set_cons_zero,List.set_cons_succ,sel_new,sel_dep d25,sel_dep d27]
   rfl
 ·as_aux_lemma =>
   rintro l a wr ⟨u44,u56,u60,ha,M10,M22,M26,hO⟩ hl hd K' hK
   have d25 := hd 25 (by decide)
   have d28 := hd 28 (by decide)
   have hx := X59.out; subst hx
   have hx := X62.out; subst hx
   have hx := X63.out; subst hx
   simp only [fill_eq,List.take_succ_cons,List.take_zero,List.cons_append,List.nil_append,Act.put,List.setIfInBounds_toArray,List.set_cons_zero,List.set_cons_succ,sel_of d25,sel_of d28] at ha
   subst ha
   rw [if_pos (by rfl)]
   go_simp
   refine hK.out _ _ ⟨u44,u56,u60,?_,M10.keep (Off.refl _ wr) rfl,M22.keep (Off.refl _ wr) rfl,M26.keep (Off.refl _ wr) rfl,hO⟩
   simp only [fill_eq,List.take_succ_cons,List.take_zero,List.cons_append,List.nil_append,Act.put,List.setIfInBounds_toArray,List.set_cons_zero,List.set_cons_succ,sel_new,sel_dep d25,sel_dep d28]
   rfl
 ·as_aux_lemma =>
   rintro l a wr ⟨u44,u56,u60,ha,M10,M22,M26,hO⟩ hl hd K' hK
   have d29 := hd 29 (by decide)
   have hx := X63.out; subst hx
   have hx := X0.out; subst hx
   simp only [fill_eq,List.take_succ_cons,List.take_zero,List.cons_append,List.nil_append,Act.put,List.setIfInBounds_toArray,List.set_cons_zero,List.set_cons_succ,sel_of d29] at ha
   subst ha
   rw [if_pos (by rfl)]
   go_simp
   refine hK.out _ _ ⟨u44,u56,u60,?_,M10.keep (Off.refl _ wr) rfl,M22.keep (Off.refl _ wr) rfl,M26.keep (Off.refl _ wr) rfl,hO⟩
   simp only [fill_eq,List.take_succ_cons,List.take_zero,List.cons_append,List.nil_append,Act.put,List.setIfInBounds_toArray,List.set_cons_zero,List.set_cons_succ,sel_new,sel_dep d29]
   rfl
 ·rintro l a wc ⟨u44,u56,u60,ha,M10,M22,M26,hO⟩ hd
  simp only [fill_eq,List.take_succ_cons,List.take_zero,List.cons_append,List.nil_append,Act.put,List.setIfInBounds_toArray,List.set_cons_zero,List.set_cons_succ,sel_of (hd 0 (by decide)),sel_of (hd 1 (by decide)),sel_of (hd 2 (by decide)),sel_of (hd 3 (by decide)),sel_of (hd 4 (by decide)),sel_of (hd 5 (by decide)),sel_of (hd 6 (by decide)),sel_of (hd 7 (by decide)),sel_of (hd 8 (by decide)),sel_of (hd 9 (by decide)),sel_of (hd 10 (by decide)),sel_of (hd 11 (by decide)),sel_of (hd 12 (by decide)),sel_of (hd 13 (by decide)),sel_of (hd 14 (by decide)),sel_of (hd 15 (by decide)),sel_of (hd 16 (by decide)),sel_of (hd 17 (by decide)),sel_of (hd 18 (by decide)),sel_of (hd 19 (by decide)),sel_of (hd 20 (by decide)),sel_of (hd 21 (by decide)),sel_of (hd 22 (by decide)),sel_of (hd 23 (by decide)),sel_of (hd 24 (by decide)),sel_of (hd 25 (by decide)),sel_of (hd 26 (by decide)),sel_of (hd 27 (by decide)),sel_of (hd 28 (by decide)),sel_of (hd 29 (by decide)),sel_of (hd 30 (by decide))] at ha
  subst ha
  have hx := X0.out; subst hx
  have HOg := Lib.hid (HOf.out.trans hO (fun _ _ c => c))
  clear hO hd
  go_wp2
  go_ret
  exact ⟨rfl,HOg.out⟩
theorem alive9_any (w : World) (hT : TabAt w) : Calls Tryd.prog 9 #[] w fun e w' => e = .returned (.bool true) /\ Off (fun _ => False) w w' :=
 alive_p9 fld1 rfl (by decide +kernel) (by decide +kernel) (by decide +kernel) w hT
end Go.Proofs.YtcebegfnplplcaaDoor
-- squeezed
