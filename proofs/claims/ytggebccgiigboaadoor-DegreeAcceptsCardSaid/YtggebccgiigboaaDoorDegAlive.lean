/-
  The examples of the chapter that the statements of layer 10 hold: alive. Condition: the table of fields lies in memory as it was laid.
-/
import Derived.Test.YtggebccgiigboaaDoorDegProg
import Derived.Test.YtggebccgiigboaaDoorDegGet
import Derived.Test.YtggebccgiigboaaDoorPolLists
import Derived.Test.YtggebccgiigboaaDoorLagBase
namespace Go.Proofs.YtggebccgiigboaaDoor
open Go.RowKit
attribute [local go_sem ↓] Go.wp_at_zero Go.wp_at_succ
set_option linter.unusedSimpArgs false
theorem build579 (w : World) : Ls (w.alloc (.cells #[.int .u64 5,.int .u64 0,.int .u64 0,.int .u64 0,.int .u64 7,.int .u64 0,.int .u64 0,.int .u64 0,.int .u64 9,.int .u64 0,.int .u64 0,.int .u64 0] 28 (0,0))) (.slice (some ⟨w.heap.size,0,none⟩) 3 3) [5,7,9] := by
 have h := ls_build w [5,7,9] (by decide) 28
 rw [show (flat4 [5,7,9]).toArray = #[.int .u64 5,.int .u64 0,.int .u64 0,.int .u64 0,.int .u64 7,.int .u64 0,.int .u64 0,.int .u64 0,.int .u64 9,.int .u64 0,.int .u64 0,.int .u64 0] from by kernel_rfl] at h
 exact h
theorem build5710 (w : World) : Ls (w.alloc (.cells #[.int .u64 5,.int .u64 0,.int .u64 0,.int .u64 0,.int .u64 7,.int .u64 0,.int .u64 0,.int .u64 0,.int .u64 10,.int .u64 0,.int .u64 0,.int .u64 0] 28 (0,0))) (.slice (some ⟨w.heap.size,0,none⟩) 3 3) [5,7,10] := by
 have h := ls_build w [5,7,10] (by decide) 28
 rw [show (flat4 [5,7,10]).toArray = #[.int .u64 5,.int .u64 0,.int .u64 0,.int .u64 0,.int .u64 7,.int .u64 0,.int .u64 0,.int .u64 0,.int .u64 10,.int .u64 0,.int .u64 0,.int .u64 0] from by kernel_rfl] at h
 exact h
theorem ints_blk {w : World} {b : Nat} {xs : List Int} (h : w.heap[b]? = some (.cells (xs.map (fun x => Value.int .i64 x)).toArray 3 (0,0))) (hl : xs.length <= 1000) (hw : ∀ x ∈ xs,(Lit.int .i64 x).wf = true) : Iv w (.slice (some ⟨b,0,none⟩) xs.length xs.length) xs :=
 ⟨some ⟨b,0,none⟩,_,rfl,by unfold maxLen; omega,hw,fun _ => ⟨b,0,rfl,trivial,fun j x hx => by
  rw [cell_of_heap h,List.getElem?_toArray,Nat.zero_add,List.getElem?_map,hx]; rfl⟩⟩
theorem ints_123 (w : World) : Iv (w.alloc (.cells #[.int .i64 1,.int .i64 2,.int .i64 3] 3 (0,0))) (.slice (some ⟨w.heap.size,0,none⟩) 3 3) [1,2,3] := ints_blk (xs := [1,2,3]) (heap_new' rfl _) (by decide) (by decide)
/-- The chapter's values fit,and do not. -/
theorem fit_579 {p : Nat} (h1 : 1 < p) (hf : Fer p) (hbig : 256 <= p) : fitM p [1,2,3] [5,7,9] 2 = 18446744073709551615 := by
 have ha : Apart p [1,2,3] := ints_apart (xs := [1,2,3]) hbig (by decide)
 have h := low_of_values h1 hf [1,2,3] (by intro x hx; simp at hx; omega) ha [3,2] (by intro x hx; simp at hx; omega) [5,7,9] (fun j hj => by
  have : j = 0 ∨ j = 1 ∨ j = 2 := by simp at hj; omega
  rcases this with rfl | rfl | rfl <;> rfl) (K := 2) (by decide)
 unfold fitM
 rw [show ptV [1,2,3] = [1,2,3] from rfl,show (2 : Int).toNat = 2 from rfl,h]; rfl
theorem fit_5710 {p : Nat} (h1 : 1 < p) (hf : Fer p) (hbig : 256 <= p) : fitM p [1,2,3] [5,7,10] 2 = 0 := by
 have ha : Apart p [1,2,3] := ints_apart (xs := [1,2,3]) hbig (by decide)
 have ha2 : Apart p [1,2] := ints_apart (xs := [1,2]) hbig (by decide)
 have h := low_fit h1 hf [1,2,3] (by intro x hx; simp at hx; omega) ha [5,7,10] (by intro x hx; simp at hx; omega) 2
 have hi : itpL p [1,2] [5,7] = [3,2] := itp_values h1 hf [1,2] (by intro x hx; simp at hx; omega) ha2 [3,2] (by intro x hx; simp at hx; omega) (by decide) [5,7] (fun j hj => by
  have : j = 0 ∨ j = 1 := by simp at hj; omega
  rcases this with rfl | rfl <;> rfl)
 have hn : fitV p [1,2,3] [5,7,10] 2 = false := by
  rw [Bool.eq_false_iff]
  intro h2
  unfold fitV at h2
  rw [List.all_eq_true] at h2
  have h3 := h2 2 (List.mem_range.2 (by decide))
  rw [show ([1,2,3] : List Nat).take 2 = [1,2] from rfl,show ([5,7,10] : List Nat).take 2 = [5,7] from rfl,hi,beq_iff_eq] at h3
  have e : pv [3,2] (([1,2,3] : List Nat).getD 2 0) = 9 := rfl
  rw [e,Nat.mod_eq_of_lt (by omega)] at h3
  cases h3
 unfold fitM
 rw [show ptV [1,2,3] = [1,2,3] from rfl,show (2 : Int).toNat = 2 from rfl,h,hn]; rfl
set_option maxRecDepth 100000 in
set_option maxHeartbeats 4000000 in
theorem alive_p10 {id : Int} {p i r s : Nat} (hF : Fld id p i r s) (hid : id = idB true) (v1 : [5,7,9].map (· % p) = [5,7,9]) (v2 : [5,7,10].map (· % p) = [5,7,10]) (v3 : fm p 9 ≠ 0) (w : World) (hT : TabAt w) :
  Calls Tryd.prog 8 #[] w fun e w' => e = .returned (.bool true) /\ Off (fun _ => False) w w' := by
 have hp := hF.mp.lt
 have h1 := hF.mp.one
 obtain ⟨_,hf,_,hbig⟩ := fld_full hF
 have FG := Lib.hid (fun W hT => get10_any true hF hid W hT)
 have FV1 := Lib.hid (show ∀ W v,Ls W v [5,7,9] -> Calls Tryd.prog 10 #[V p,v] W fun e w' => ∃ z1 z2,e = .returned (.tuple #[z1,z2]) /\ Ls w' z2 ([5,7,9].map (fm p)) /\ Off (fun _ => False) W w' from fun W v h => (values_any hp h1 [5,7,9] (by decide +kernel) (by decide) v W h).mono (fun e w' ⟨z1,z2,he,_,h2,hO⟩ => ⟨z1,z2,he,by rw [v1] at h2; exact h2,hO⟩))
 have FV2 := Lib.hid (show ∀ W v,Ls W v [5,7,10] -> Calls Tryd.prog 10 #[V p,v] W fun e w' => ∃ z1 z2,e = .returned (.tuple #[z1,z2]) /\ Ls w' z2 ([5,7,10].map (fm p)) /\ Off (fun _ => False) W w' from fun W v h => (values_any hp h1 [5,7,10] (by decide +kernel) (by decide) v W h).mono (fun e w' ⟨z1,z2,he,_,h2,hO⟩ => ⟨z1,z2,he,by rw [v2] at h2; exact h2,hO⟩))
 have FF1 := Lib.hid (show ∀ W v u,Iv W v [1,2,3] -> Ls W u ([5,7,9].map (fm p)) -> Calls Tryd.prog 11 #[.pointer none,FV id p i r s,v,u,.int .i64 2] W fun e w' => e = .returned (.tuple #[.int .u64 18446744073709551615,.int .i64 0]) /\ Off (fun _ => False) W w' from fun W v u h k => by
  have g := fits_ls hF [1,2,3] (by decide) (by decide) [5,7,9] rfl 2 v u W h k
  rw [fit_579 h1 hf hbig] at g; exact g)
 have FF2 := Lib.hid (show ∀ W v u,Iv W v [1,2,3] -> Ls W u ([5,7,10].map (fm p)) -> Calls Tryd.prog 11 #[.pointer none,FV id p i r s,v,u,.int .i64 2] W fun e w' => e = .returned (.tuple #[.int .u64 0,.int .i64 0]) /\ Off (fun _ => False) W w' from fun W v u h k => by
  have g := fits_ls hF [1,2,3] (by decide) (by decide) [5,7,10] rfl 2 v u W h k
  rw [fit_5710 h1 hf hbig] at g; exact g)
 have hz3 : ∀ z ∈ [5,7,9].map (fm p),z < R256 := by
  intro z hz
  obtain ⟨c,_,rfl⟩ := List.mem_map.1 hz
  exact Nat.lt_trans (fm_lt (by omega) c) hp
 have FA := Lib.hid (show ∀ W,Calls Tryd.prog 15 #[.pointer none,FV id p i r s,.slice none 0 0,.slice none 0 0,.int .i64 0] W fun e w' => e = .returned (.tuple #[.int .u64 18446744073709551615,.int .i64 0]) /\ Off (fun _ => False) W w' from fun W => all_ls hF [] (by decide) (by decide) [] (by simp) 0 _ _ W ⟨none,0,rfl,Nat.zero_le _,fun _ h => (by cases h),fun h => by simp at h⟩ (LLs.nil W))
 have FB1 := Lib.hid (show ∀ W v,Ls W v ([5,7,9].map (fm p)) -> Calls Tryd.prog 18 #[.pointer none,v,.int .i64 3] W fun e w' => e = .returned (.int .u64 18446744073709551615) /\ Off (fun _ => False) W w' from fun W v h => below_ls _ hz3 (by simp) 3 v W h)
 have FB2 := Lib.hid (show ∀ W v,Ls W v ([5,7,9].map (fm p)) -> Calls Tryd.prog 18 #[.pointer none,v,.int .i64 2] W fun e w' => e = .returned (.int .u64 0) /\ Off (fun _ => False) W w' from fun W v h => by
  have g := below_ls _ hz3 (by simp) 2 v W h
  rw [show lowV ([5,7,9].map (fm p)) (2 : Int).toNat = false by simp [lowV,v3]] at g; exact g)
 have B0 := Lib.hid (show ∀ (W : World) n,n = W.heap.size -> Iv (W.alloc (.cells #[.int .i64 1,.int .i64 2,.int .i64 3] 3 (0,0))) (.slice (some ⟨n,0,none⟩) 3 3) [1,2,3] from fun W n e => by rw [e]; exact ints_123 W)
 have B1 := Lib.hid (show ∀ (W : World) n,n = W.heap.size -> Ls (W.alloc (.cells #[.int .u64 5,.int .u64 0,.int .u64 0,.int .u64 0,.int .u64 7,.int .u64 0,.int .u64 0,.int .u64 0,.int .u64 9,.int .u64 0,.int .u64 0,.int .u64 0] 28 (0,0))) (.slice (some ⟨n,0,none⟩) 3 3) [5,7,9] from fun W n e => by rw [e]; exact build579 W)
 have B2 := Lib.hid (show ∀ (W : World) n,n = W.heap.size -> Ls (W.alloc (.cells #[.int .u64 5,.int .u64 0,.int .u64 0,.int .u64 0,.int .u64 7,.int .u64 0,.int .u64 0,.int .u64 0,.int .u64 10,.int .u64 0,.int .u64 0,.int .u64 0] 28 (0,0))) (.slice (some ⟨n,0,none⟩) 3 3) [5,7,10] from fun W n e => by rw [e]; exact build5710 W)
 clear hz3 v1 v2 v3 hF hid hp h1 hf hbig
 go_enter Tryd.func8,Tryd.ntmps8
 go_wp2_with fail
 refine (FG.out _ hT).mono ?_
 rintro e u0 ⟨rfl,hO0⟩
 obtain ⟨u1,hu1⟩ : ∃ u1,u1 = (u0.alloc (.cells #[.int .i64 id,.int .u64 (wd p 0 : Int),.int .u64 (wd p 1 : Int),.int .u64 (wd p 2 : Int),.int .u64 (wd p 3 : Int),.int .u64 (i : Int),.int .u64 (wd r 0 : Int),.int .u64 (wd r 1 : Int),.int .u64 (wd r 2 : Int),.int .u64 (wd r 3 : Int),.int .u64 (wd s 0 : Int),.int .u64 (wd s 1 : Int),.int .u64 (wd s 2 : Int),.int .u64 (wd s 3 : Int)] 31)).alloc (.cells #[.int .u64 (wd p 0 : Int),.int .u64 (wd p 1 : Int),.int .u64 (wd p 2 : Int),.int .u64 (wd p 3 : Int)] 28) := ⟨_,rfl⟩
 obtain ⟨fb,hfb⟩ : ∃ fb,fb = u0.heap.size := ⟨_,rfl⟩
 obtain ⟨pb,hpb⟩ : ∃ pb,pb = u0.heap.size + 1 := ⟨_,rfl⟩
 have k1 : u1.heap[fb]? = some (.cells #[.int .i64 id,.int .u64 (wd p 0 : Int),.int .u64 (wd p 1 : Int),.int .u64 (wd p 2 : Int),.int .u64 (wd p 3 : Int),.int .u64 (i : Int),.int .u64 (wd r 0 : Int),.int .u64 (wd r 1 : Int),.int .u64 (wd r 2 : Int),.int .u64 (wd r 3 : Int),.int .u64 (wd s 0 : Int),.int .u64 (wd s 1 : Int),.int .u64 (wd s 2 : Int),.int .u64 (wd s 3 : Int)] 31 (0,0)) := by rw [hu1,hfb]; exact heap_old' (heap_new' rfl _) _
 have k2 : u1.heap[pb]? = some (.cells #[.int .u64 (wd p 0 : Int),.int .u64 (wd p 1 : Int),.int .u64 (wd p 2 : Int),.int .u64 (wd p 3 : Int)] 28 (0,0)) := by rw [hu1,hpb]; exact heap_new' (by simp) _
 have K3 := Lib.hid (show Off (fun _ => False) w u1 by rw [hu1]; exact (hO0.alloc _).alloc _)
 have K1 := Lib.hid k1
 have K2 := Lib.hid k2
 clear k1 k2 hO0
 go_upto_region 2 with fail
 rw [<- hu1]
 rw [<- hpb,<- hfb]
 clear hu1 hfb hpb
 obtain ⟨p0,p1,p2,p3⟩ := cells4 K2.out
 have hlp := heap_lt K2.out
 go_wp2_with fail
 clear p0 p1 p2 p3 hlp
 refine (FV1.out _ _ (B1.out _ _ (by simp))).mono ?_
 rintro e u2 ⟨zv,za,rfl,h6,hO2⟩
 have hOa : Off (fun _ => False) u1 u2 := ((Off.refl _ u1).alloc _).trans hO2 (fun _ _ c => c)
 have k1 := hOa.heap K1.out (fun c => c)
 have k2 := hOa.heap K2.out (fun c => c)
 have k3 := K3.out.trans hOa (fun _ _ c => c)
 have K1 := Lib.hid k1
 have K2 := Lib.hid k2
 have K3 := Lib.hid k3
 have HZ1 := Lib.hid h6
 clear k1 k2 k3 h6 hO2 hOa
 obtain ⟨p0,p1,p2,p3⟩ := cells4 K2.out
 have hlp := heap_lt K2.out
 go_wp2_with fail
 clear p0 p1 p2 p3 hlp
 refine (FV2.out _ _ (B2.out _ _ (by simp))).mono ?_
 rintro e u3 ⟨zv,zb,rfl,h6,hO2⟩
 have hOa : Off (fun _ => False) u2 u3 := ((Off.refl _ u2).alloc _).trans hO2 (fun _ _ c => c)
 have k1 := hOa.heap K1.out (fun c => c)
 have k2 := hOa.heap K2.out (fun c => c)
 have k3 := K3.out.trans hOa (fun _ _ c => c)
 have HZ1 := Lib.hid (HZ1.out.off hOa)
 have K1 := Lib.hid k1
 have K2 := Lib.hid k2
 have K3 := Lib.hid k3
 have HZ2 := Lib.hid h6
 clear k1 k2 k3 h6 hO2 hOa
 obtain ⟨f0,f1,f2,f3,f4,f5,f6,f7,f8,f9,f10,f11,f12,f13⟩ := fv_cells K1.out
 have hlf := heap_lt K1.out
 go_wp2_with fail
 clear f0 f1 f2 f3 f4 f5 f6 f7 f8 f9 f10 f11 f12 f13 hlf
 refine (FF1.out _ _ _ (B0.out _ _ (by simp)) (HZ1.out.off ((Off.refl _ u3).alloc _))).mono ?_
 rintro e u4 ⟨rfl,hO2⟩
 have hOa : Off (fun _ => False) u3 u4 := ((Off.refl _ u3).alloc _).trans hO2 (fun _ _ c => c)
 have k1 := hOa.heap K1.out (fun c => c)
 have k2 := hOa.heap K2.out (fun c => c)
 have k3 := K3.out.trans hOa (fun _ _ c => c)
 have HZ1 := Lib.hid (HZ1.out.off hOa)
 have HZ2 := Lib.hid (HZ2.out.off hOa)
 have K1 := Lib.hid k1
 have K2 := Lib.hid k2
 have K3 := Lib.hid k3
 clear k1 k2 k3 hO2 hOa
 obtain ⟨f0,f1,f2,f3,f4,f5,f6,f7,f8,f9,f10,f11,f12,f13⟩ := fv_cells K1.out
 have hlf := heap_lt K1.out
 go_wp2_with fail
 clear f0 f1 f2 f3 f4 f5 f6 f7 f8 f9 f10 f11 f12 f13 hlf
 refine (FF2.out _ _ _ (B0.out _ _ (by simp)) (HZ2.out.off ((Off.refl _ u4).alloc _))).mono ?_
 rintro e u5 ⟨rfl,hO2⟩
 have hOa : Off (fun _ => False) u4 u5 := ((Off.refl _ u4).alloc _).trans hO2 (fun _ _ c => c)
 have k1 := hOa.heap K1.out (fun c => c)
 have k2 := hOa.heap K2.out (fun c => c)
 have k3 := K3.out.trans hOa (fun _ _ c => c)
 have HZ1 := Lib.hid (HZ1.out.off hOa)
 have HZ2 := Lib.hid (HZ2.out.off hOa)
 have K1 := Lib.hid k1
 have K2 := Lib.hid k2
 have K3 := Lib.hid k3
 clear k1 k2 k3 hO2 hOa
 obtain ⟨f0,f1,f2,f3,f4,f5,f6,f7,f8,f9,f10,f11,f12,f13⟩ := fv_cells K1.out
 have hlf := heap_lt K1.out
 go_wp2_with fail
 clear f0 f1 f2 f3 f4 f5 f6 f7 f8 f9 f10 f11 f12 f13 hlf
 refine (FA.out _).mono ?_
 rintro e u6 ⟨rfl,hO2⟩
 have HZ1 := Lib.hid (HZ1.out.off hO2)
 have K3 := Lib.hid (K3.out.trans hO2 (fun _ _ c => c))
 clear hO2 K1 K2
 go_wp2_with fail
 refine (FB1.out _ _ HZ1.out).mono ?_
 rintro e u7 ⟨rfl,hO2⟩
 have HZ1 := Lib.hid (HZ1.out.off hO2)
 have K3 := Lib.hid (K3.out.trans hO2 (fun _ _ c => c))
 clear hO2
 go_wp2_with fail
 refine (FB2.out _ _ HZ1.out).mono ?_
 rintro e u8 ⟨rfl,hO2⟩
 have K3 := Lib.hid (K3.out.trans hO2 (fun _ _ c => c))
 clear hO2
 go_wp2
 go_ret
 exact ⟨rfl,K3.out⟩
theorem alive10_any (w : World) (hT : TabAt w) : Calls Tryd.prog 8 #[] w fun e w' => e = .returned (.bool true) /\ Off (fun _ => False) w w' :=
 alive_p10 fld2 rfl (by decide +kernel) (by decide +kernel) (by decide +kernel) w hT
end Go.Proofs.YtggebccgiigboaaDoor
-- squeezed
