/-
  For every field, points, values and number of coefficients, the examples of the chapter hold, and Fits returns the mask of the reference, or the error: the statement of P10.2. No condition.
-/
import Derived.Test.YtggebccgiigboaaDoorRows
import Derived.Test.YtggebccgiigboaaDoorTie
import Derived.Test.YtggebccgiigboaaDoorCards
import Derived.LaidMore
import Derived.LaidHandle
import Derived.SevenTiedAt
import Derived.Stop.Joined
import Derived.JoinedOf
import Derived.Test.YtggebccgiigboaaDoorLimbWords
import Derived.Test.YtggebccgiigboaaDoorIntAll
import Derived.Test.YtggebccgiigboaaDoorVecOpen
import Derived.Test.YtggebccgiigboaaDoorPtsOpen
import Derived.Test.YtggebccgiigboaaDoorFieldTab
import Derived.Test.YtggebccgiigboaaDoorFieldHeld
import Derived.Test.YtggebccgiigboaaDoorDegAlive
import Derived.Test.YtggebccgiigboaaDoorDegRef
import Derived.Test.YtggebccgiigboaaDoorPolLists
import Derived.Test.YtggebccgiigboaaDoorInvAll
import Derived.Test.YtggebccgiigboaaDoorMaskBase
import Derived.WalkKit
import Derived.ProofKit
import Derived.OpenShut
import Derived.ShutString
import Derived.ChangeOld
import Derived.Below
namespace Go.Proofs.YtggebccgiigboaaDoor.degreeFits
open Go.ChangeShapes Go.WideShapes Go.ChangeAt Go.RowKit
set_option linter.unusedVariables false

theorem own : ownKnob Tryd.prog.godebug = none := by kernel_rfl
theorem laidOut : laidOutB Tryd.prog = true := by kernel_rfl

theorem mods_lt {p : Nat} (h : 0 < p) (xs : List Nat) : ∀ v ∈ xs.map (· % p),v < p := by
 intro v hv
 obtain ⟨x,_,rfl⟩ := List.mem_map.1 hv
 exact Nat.mod_lt _ h
theorem two_cells {w : World} {b : Nat} {T : TypeId} {v0 v1 : Value} (h : w.heap[b]? = some (.cells #[v0,v1] T (0,0))) : w.cell? ⟨b,0,none⟩ = some v0 /\ w.cell? ⟨b,1,none⟩ = some v1 := ⟨cell_of_heap h 0,cell_of_heap h 1⟩
theorem own_cap {w : World} {B n cap size : Nat} {T : TypeId} {a : Option Addr} {xs : List Value} (h : w.ownsRow B T size (.slice a n cap) n xs) : n <= cap := by
 rcases h.2 with ⟨e,h0⟩ | ⟨g,c,cur,e,_,_,hc,_⟩
 ·omega
 ·cases e; exact hc
theorem ret_int {a b : Int} (k : IntKind) (h : a = b) : Ending.returned (.int k a) = .returned (.int k b) := by rw [h]
set_option maxRecDepth 100000 in
set_option maxHeartbeats 4000000 in
theorem walk (i0 : Bool) (a1 : Option Addr) (n1 cap1 : Nat) (is1 : List Int) (b1 : Option Addr) (m1 dap1 : Nat) (ys1 : List Nat) (i2 : Int) (w : World) (w0 : True) (w1 : n1 = is1.length /\ n1 <= cap1 /\ m1 = ys1.length /\ m1 <= dap1 /\ IvAt w (.slice a1 n1 cap1) is1 (fun k => k < w.heap.size) /\ VsAt w (.slice b1 m1 dap1) ys1 (fun k => k < w.heap.size)) (w2 : (Lit.int .i64 i2).wf = true) (hT : TabAt w) :
  Calls Tryd.prog 3 #[.bool i0,.agg #[.slice a1 n1 cap1,.slice b1 m1 dap1],.int .i64 i2] w fun e w' => e = .returned (.bool true) /\ Off (fun _ => False) w w' := by
 obtain ⟨id,p,i,r,s,hF,hid⟩ := fld_of i0
 have hp := hF.mp.lt
 have h1 := hF.mp.one
 have hp0 : 0 < p := by omega
 obtain ⟨_,hfer,_,hbig⟩ := fld_full hF
 have FG := Lib.hid (fun W hT => get10_any i0 hF hid W hT)
 have FAL : Hid (∀ W,TabAt W -> Calls Tryd.prog 8 #[] W fun e w' => e = .returned (.bool true) /\ Off (fun _ => False) W w') := Lib.hid (fun W hT => alive10_any W hT)
 obtain ⟨hn1,hc1,hm1,hd1,hI1,hV1⟩ := w1
 obtain ⟨hml,hmm,hys⟩ := hV1.len
 by_cases hmx : 5 < n1
 ·have hbi : decide ((5 : Int) < (n1 : Int)) = true := by simp; omega
  have hbp : (5 : Int) < (n1 : Int) := by omega
  clear hn1 hc1 hm1 hd1 hI1 hV1 hml hmm hys hF hid hp h1 hp0 hfer hbig FG hmx
  go_enter Tryd.func3,Tryd.ntmps3
  go_wp2_with fail
  refine (FAL.out _ (hT.off (((Off.refl _ w).alloc _)))).mono ?_
  rintro e u0 ⟨rfl,hO⟩
  have HO := Lib.hid ((((Off.refl _ w).alloc _) : Off (fun _ => False) w _).trans hO (fun _ _ c => c))
  clear hO
  go_wp2
  go_ret
  exact ⟨rfl,HO.out⟩
 ·have hbi : decide ((5 : Int) < (n1 : Int)) = false := by simp; omega
  have hbp : ¬ (5 : Int) < (n1 : Int) := by omega
  by_cases hmx2 : 5 < m1
  ·have hbi2 : decide ((5 : Int) < (m1 : Int)) = true := by simp; omega
   have hbp2 : (5 : Int) < (m1 : Int) := by omega
   clear hn1 hc1 hm1 hd1 hI1 hV1 hml hmm hys hF hid hp h1 hp0 hfer hbig FG hmx hmx2
   go_enter Tryd.func3,Tryd.ntmps3
   go_wp2_with fail
   refine (FAL.out _ (hT.off (((Off.refl _ w).alloc _)))).mono ?_
   rintro e u0 ⟨rfl,hO⟩
   have HO := Lib.hid ((((Off.refl _ w).alloc _) : Off (fun _ => False) w _).trans hO (fun _ _ c => c))
   clear hO
   go_wp2
   go_ret
   exact ⟨rfl,HO.out⟩
  ·have hbi2 : decide ((5 : Int) < (m1 : Int)) = false := by simp; omega
   have hbp2 : ¬ (5 : Int) < (m1 : Int) := by omega
   have HL1 := Lib.hid (Iv.of hI1)
   have HL2 := Lib.hid (ls_of_vs hV1 (by omega))
   have HTw := Lib.hid hT
   obtain ⟨vs,hvs⟩ : ∃ l,l = ys1.map (· % p) := ⟨_,rfl⟩
   have hvsl : vs.length = m1 := by rw [hvs,List.length_map]; omega
   have hvsp : ∀ v ∈ vs,v < p := by rw [hvs]; exact mods_lt hp0 _
   have FV2 := Lib.hid (show ∀ W v,Ls W v ys1 -> Calls Tryd.prog 10 #[V p,v] W fun e w' => ∃ a c z2,e = .returned (.tuple #[.slice a m1 c,z2]) /\ m1 <= c /\ Ls w' (.slice a m1 c) vs /\ Ls w' z2 (vs.map (fm p)) /\ Off (fun _ => False) W w' from fun W v h => by
    refine (values_own hp h1 ys1 hys (by omega) v W h).mono ?_
    rintro e w' ⟨a,c,a2,c2,rfl,k1,k2,hO⟩
    rw [<- hvs] at k1 k2
    have k3 := own_cap k1
    have k4 := Ls.of (ls_of_own k1 (by rw [hvs,List.length_map]) (by omega))
    have k5 := Ls.of (ls_of_own k2 (by rw [List.length_map,hvs,List.length_map]) (by omega))
    rw [<- hml] at k3 k4 k5 ⊢
    exact ⟨_,_,_,rfl,k3,k4,k5,hO⟩)
   by_cases hc : chkV is1 = 0
   ·by_cases hnn : n1 = m1
    ·obtain ⟨hr,hnd⟩ := chkV_zero hc
     obtain ⟨M,hM⟩ : ∃ M,M = fitM p is1 vs i2 := ⟨_,rfl⟩
     obtain ⟨ft,hft⟩ : ∃ b,b = fitV p (ptV is1) vs i2.toNat := ⟨_,rfl⟩
     have hmf : M = Go.Proofs.YtggebccgiigboaaDoor.mk ft := by
      rw [hM,hft,fitM,low_fit h1 hfer (ptV is1) (ptV_lt hbig hr) (ints_apart hbig hc) vs hvsp i2.toNat]
     have FC := Lib.hid (show ∀ W,Iv W (.slice a1 n1 cap1) is1 -> Calls Tryd.prog 12 #[.slice a1 n1 cap1] W fun e w' => e = .returned (.int .i64 0) /\ Off (fun _ => False) W w' from fun W h => by have g := refcheck_any is1 (by omega) _ W h; rw [hc] at g; exact g)
     have FF := Lib.hid (show ∀ W u,Iv W (.slice a1 n1 cap1) is1 -> Ls W u (vs.map (fm p)) -> Calls Tryd.prog 11 #[.pointer none,FV id p i r s,.slice a1 n1 cap1,u,.int .i64 i2] W fun e w' => e = .returned (.tuple #[.int .u64 M,.int .i64 0]) /\ Off (fun _ => False) W w' from fun W u h k => by rw [hM]; exact fits_ls hF is1 hc (by omega) vs (by omega) i2 _ u W h k)
     have FR := Lib.hid (show ∀ W a c,m1 <= c -> Iv W (.slice a1 n1 cap1) is1 -> Ls W (.slice a m1 c) vs -> Calls Tryd.prog 14 #[V p,.slice a1 n1 cap1,.slice a m1 c,.int .i64 i2] W fun e w' => e = .returned (.bool ft) /\ Off (fun _ => False) W w' from fun W a c hc' h k => by
      have g := reffits_any hp hbig is1 hc n1 hn1 (by omega) vs hvsp (by omega) i2 a1 a cap1 c hc1 (by omega) W h (by rw [hnn]; exact k)
      rw [hnn,<- hft] at g; rw [hnn]; exact g)
     have FM := Lib.hid (show ∀ W,Calls Tryd.prog 13 #[.bool ft] W fun e w' => e = .returned (.int .u64 M) /\ W = w' from fun W => by rw [hmf]; exact refmask_any ft W)
     have hnn2 : (n1 : Int) = (m1 : Int) := by omega
     have hni : decide ((n1 : Int) ≠ (m1 : Int)) = false := by simp; omega
     have hne2 : ((n1 : Int) == (m1 : Int)) = true := by simp; omega
     clear hc hnn hr hnd hM hft hmf hc1 hF hid hp h1 hp0 hfer hbig hn1 hm1 hd1 hI1 hV1 hml hmm hys hvs hvsl hvsp hmx hmx2 hT
     go_enter Tryd.func3,Tryd.ntmps3
     go_wp2_with fail
     refine (FG.out _ (HTw.out.off ((Off.refl _ w).alloc _))).mono ?_
     rintro e u0 ⟨rfl,hO1⟩
     obtain ⟨W1,hW1⟩ : ∃ W1,W1 = (u0.alloc (.cells #[.int .i64 id,.int .u64 (wd p 0 : Int),.int .u64 (wd p 1 : Int),.int .u64 (wd p 2 : Int),.int .u64 (wd p 3 : Int),.int .u64 (i : Int),.int .u64 (wd r 0 : Int),.int .u64 (wd r 1 : Int),.int .u64 (wd r 2 : Int),.int .u64 (wd r 3 : Int),.int .u64 (wd s 0 : Int),.int .u64 (wd s 1 : Int),.int .u64 (wd s 2 : Int),.int .u64 (wd s 3 : Int)] 31)).alloc (.cells #[.int .u64 (wd p 0 : Int),.int .u64 (wd p 1 : Int),.int .u64 (wd p 2 : Int),.int .u64 (wd p 3 : Int)] 28) := ⟨_,rfl⟩
     have o1 : Off (fun _ => False) u0 W1 := by rw [hW1]; exact ((Off.refl _ u0).alloc _).alloc _
     have g_F : W1.heap[u0.heap.size]? = some (.cells #[.int .i64 id,.int .u64 (wd p 0 : Int),.int .u64 (wd p 1 : Int),.int .u64 (wd p 2 : Int),.int .u64 (wd p 3 : Int),.int .u64 (i : Int),.int .u64 (wd r 0 : Int),.int .u64 (wd r 1 : Int),.int .u64 (wd r 2 : Int),.int .u64 (wd r 3 : Int),.int .u64 (wd s 0 : Int),.int .u64 (wd s 1 : Int),.int .u64 (wd s 2 : Int),.int .u64 (wd s 3 : Int)] 31 (0,0)) := by rw [hW1]; exact heap_old' (heap_new' rfl _) _
     have g_P : W1.heap[u0.heap.size + 1]? = some (.cells #[.int .u64 (wd p 0 : Int),.int .u64 (wd p 1 : Int),.int .u64 (wd p 2 : Int),.int .u64 (wd p 3 : Int)] 28 (0,0)) := by rw [hW1]; exact heap_new' (by simp) _
     have hOw := (((Off.refl _ w).alloc _) : Off (fun _ => False) w _).trans (hO1.trans o1 (fun _ _ c => c)) (fun _ _ c => c)
     have g_X : W1.heap[w.heap.size]? = some (.cells #[.slice a1 n1 cap1,.slice b1 m1 dap1] 25 (0,0)) := o1.heap (hO1.heap (heap_new' rfl _) (fun c => c)) (fun c => c)
     obtain ⟨xb,hxb⟩ : ∃ xb,xb = w.heap.size := ⟨_,rfl⟩
     obtain ⟨fb,hfb⟩ : ∃ fb,fb = u0.heap.size := ⟨_,rfl⟩
     obtain ⟨pb,hpb⟩ : ∃ pb,pb = u0.heap.size + 1 := ⟨_,rfl⟩
     rw [<- hfb] at g_F
     rw [<- hpb] at g_P
     rw [<- hxb] at g_X
     have HW := Lib.hid (show ∀ W,Off (fun _ => False) W1 W -> W.heap[fb]? = some (.cells #[.int .i64 id,.int .u64 (wd p 0 : Int),.int .u64 (wd p 1 : Int),.int .u64 (wd p 2 : Int),.int .u64 (wd p 3 : Int),.int .u64 (i : Int),.int .u64 (wd r 0 : Int),.int .u64 (wd r 1 : Int),.int .u64 (wd r 2 : Int),.int .u64 (wd r 3 : Int),.int .u64 (wd s 0 : Int),.int .u64 (wd s 1 : Int),.int .u64 (wd s 2 : Int),.int .u64 (wd s 3 : Int)] 31 (0,0)) /\ W.heap[pb]? = some (.cells #[.int .u64 (wd p 0 : Int),.int .u64 (wd p 1 : Int),.int .u64 (wd p 2 : Int),.int .u64 (wd p 3 : Int)] 28 (0,0)) /\ W.heap[xb]? = some (.cells #[.slice a1 n1 cap1,.slice b1 m1 dap1] 25 (0,0)) /\ Off (fun _ => False) w W from fun W h => ⟨h.heap g_F (fun c => c),h.heap g_P (fun c => c),h.heap g_X (fun c => c),hOw.trans h (fun _ _ c => c)⟩)
     have HO := Lib.hid (Off.refl (fun _ => False) W1)
     have HW1 := Lib.hid hW1
     have hxw : xb = w.heap.size := hxb
     go_upto_region 4 with fail
     rw [<- HW1.out]
     rw [<- hpb,<- hfb,<- hxb]
     clear g_F g_P g_X hOw hW1 hfb hpb hxb hxw o1 hO1 HW1
     obtain ⟨g_F,g_P,g_X,hOw⟩ := HW.out _ HO.out
     obtain ⟨p0,p1,p2,p3⟩ := cells4 g_P
     have hlp := heap_lt g_P
     obtain ⟨x0,x1⟩ := two_cells g_X
     have hlx := heap_lt g_X
     clear g_F g_P g_X hOw
     go_wp2_with fail
     clear p0 p1 p2 p3 hlp x0 x1 hlx
     refine (FV2.out _ _ (HL2.out.off (HW.out _ HO.out).2.2.2)).mono ?_
     rintro e u1 ⟨za,zc,z2,rfl,hzc,h_z1,h_z2,hO1⟩
     have H_z1 := Lib.hid h_z1
     have H_z2 := Lib.hid h_z2
     have HZc := Lib.hid hzc
     have HO := Lib.hid (HO.out.trans hO1 (fun _ _ c => c))
     clear h_z1 h_z2 hzc hO1
     obtain ⟨g_F,g_P,g_X,hOw⟩ := HW.out _ HO.out
     obtain ⟨f0,f1,f2,f3,f4,f5,f6,f7,f8,f9,f10,f11,f12,f13⟩ := fv_cells g_F
     have hlf := heap_lt g_F
     obtain ⟨x0,x1⟩ := two_cells g_X
     have hlx := heap_lt g_X
     clear g_F g_P g_X hOw
     go_wp2_with fail
     clear f0 f1 f2 f3 f4 f5 f6 f7 f8 f9 f10 f11 f12 f13 hlf x0 x1 hlx
     refine (FF.out _ _ (HL1.out.off (HW.out _ HO.out).2.2.2) H_z2.out).mono ?_
     rintro e u2 ⟨rfl,hO1⟩
     have HO := Lib.hid (HO.out.trans hO1 (fun _ _ c => c))
     have H_z1 := Lib.hid (H_z1.out.off hO1)
     clear hO1
     clear H_z2
     obtain ⟨g_F,g_P,g_X,hOw⟩ := HW.out _ HO.out
     obtain ⟨x0,x1⟩ := two_cells g_X
     have hlx := heap_lt g_X
     clear g_F g_P g_X hOw
     go_wp2_with fail
     clear x0 x1 hlx
     refine (FC.out _ (HL1.out.off (HW.out _ HO.out).2.2.2)).mono ?_
     rintro e u3 ⟨rfl,hO1⟩
     have HO := Lib.hid (HO.out.trans hO1 (fun _ _ c => c))
     have H_z1 := Lib.hid (H_z1.out.off hO1)
     clear hO1
     obtain ⟨g_F,g_P,g_X,hOw⟩ := HW.out _ HO.out
     obtain ⟨x0,x1⟩ := two_cells g_X
     have hlx := heap_lt g_X
     clear g_F g_P g_X hOw
     go_wp2_with fail
     clear x0 x1 hlx
     refine (FAL.out _ (HTw.out.off (HW.out _ HO.out).2.2.2)).mono ?_
     rintro e u4 ⟨rfl,hO1⟩
     have HO := Lib.hid (HO.out.trans hO1 (fun _ _ c => c))
     have H_z1 := Lib.hid (H_z1.out.off hO1)
     clear hO1
     obtain ⟨g_F,g_P,g_X,hOw⟩ := HW.out _ HO.out
     obtain ⟨p0,p1,p2,p3⟩ := cells4 g_P
     have hlp := heap_lt g_P
     obtain ⟨x0,x1⟩ := two_cells g_X
     have hlx := heap_lt g_X
     clear g_F g_P g_X hOw
     go_wp2_with fail
     clear p0 p1 p2 p3 hlp x0 x1 hlx
     refine (FR.out _ _ _ HZc.out (HL1.out.off (HW.out _ HO.out).2.2.2) H_z1.out).mono ?_
     rintro e u5 ⟨rfl,hO1⟩
     have HO := Lib.hid (HO.out.trans hO1 (fun _ _ c => c))
     clear hO1 H_z1
     go_wp2_with fail
     refine (FM.out _).mono ?_
     rintro e u6 ⟨rfl,rfl⟩
     go_wp2
     go_ret
     exact ⟨rfl,(HW.out _ HO.out).2.2.2⟩
    ·have hnp : ¬ (n1 : Int) = (m1 : Int) := by omega
     have hni : decide ((n1 : Int) ≠ (m1 : Int)) = true := by simp; omega
     have hne2 : ((n1 : Int) == (m1 : Int)) = false := by simp; omega
     have FC := Lib.hid (show ∀ W,Iv W (.slice a1 n1 cap1) is1 -> Calls Tryd.prog 12 #[.slice a1 n1 cap1] W fun e w' => e = .returned (.int .i64 0) /\ Off (fun _ => False) W w' from fun W h => by have g := refcheck_any is1 (by omega) _ W h; rw [hc] at g; exact g)
     have FF := Lib.hid (show ∀ W u,Iv W (.slice a1 n1 cap1) is1 -> Ls W u (vs.map (fm p)) -> Calls Tryd.prog 11 #[.pointer none,FV id p i r s,.slice a1 n1 cap1,u,.int .i64 i2] W fun e w' => e = .returned (.tuple #[.int .u64 0,.int .i64 8]) /\ Off (fun _ => False) W w' from fun W u h k => fits_len is1 hc (by omega) (vs.map (fm p)) (by rw [List.length_map]; omega) i2 _ u W h k)
     clear hc hnn hc1 hF hid hp h1 hp0 hfer hbig hn1 hm1 hd1 hI1 hV1 hml hmm hys hvs hvsl hvsp hmx hmx2 hT
     go_enter Tryd.func3,Tryd.ntmps3
     go_wp2_with fail
     refine (FG.out _ (HTw.out.off ((Off.refl _ w).alloc _))).mono ?_
     rintro e u0 ⟨rfl,hO1⟩
     obtain ⟨W1,hW1⟩ : ∃ W1,W1 = (u0.alloc (.cells #[.int .i64 id,.int .u64 (wd p 0 : Int),.int .u64 (wd p 1 : Int),.int .u64 (wd p 2 : Int),.int .u64 (wd p 3 : Int),.int .u64 (i : Int),.int .u64 (wd r 0 : Int),.int .u64 (wd r 1 : Int),.int .u64 (wd r 2 : Int),.int .u64 (wd r 3 : Int),.int .u64 (wd s 0 : Int),.int .u64 (wd s 1 : Int),.int .u64 (wd s 2 : Int),.int .u64 (wd s 3 : Int)] 31)).alloc (.cells #[.int .u64 (wd p 0 : Int),.int .u64 (wd p 1 : Int),.int .u64 (wd p 2 : Int),.int .u64 (wd p 3 : Int)] 28) := ⟨_,rfl⟩
     have o1 : Off (fun _ => False) u0 W1 := by rw [hW1]; exact ((Off.refl _ u0).alloc _).alloc _
     have g_F : W1.heap[u0.heap.size]? = some (.cells #[.int .i64 id,.int .u64 (wd p 0 : Int),.int .u64 (wd p 1 : Int),.int .u64 (wd p 2 : Int),.int .u64 (wd p 3 : Int),.int .u64 (i : Int),.int .u64 (wd r 0 : Int),.int .u64 (wd r 1 : Int),.int .u64 (wd r 2 : Int),.int .u64 (wd r 3 : Int),.int .u64 (wd s 0 : Int),.int .u64 (wd s 1 : Int),.int .u64 (wd s 2 : Int),.int .u64 (wd s 3 : Int)] 31 (0,0)) := by rw [hW1]; exact heap_old' (heap_new' rfl _) _
     have g_P : W1.heap[u0.heap.size + 1]? = some (.cells #[.int .u64 (wd p 0 : Int),.int .u64 (wd p 1 : Int),.int .u64 (wd p 2 : Int),.int .u64 (wd p 3 : Int)] 28 (0,0)) := by rw [hW1]; exact heap_new' (by simp) _
     have hOw := (((Off.refl _ w).alloc _) : Off (fun _ => False) w _).trans (hO1.trans o1 (fun _ _ c => c)) (fun _ _ c => c)
     have g_X : W1.heap[w.heap.size]? = some (.cells #[.slice a1 n1 cap1,.slice b1 m1 dap1] 25 (0,0)) := o1.heap (hO1.heap (heap_new' rfl _) (fun c => c)) (fun c => c)
     obtain ⟨xb,hxb⟩ : ∃ xb,xb = w.heap.size := ⟨_,rfl⟩
     obtain ⟨fb,hfb⟩ : ∃ fb,fb = u0.heap.size := ⟨_,rfl⟩
     obtain ⟨pb,hpb⟩ : ∃ pb,pb = u0.heap.size + 1 := ⟨_,rfl⟩
     rw [<- hfb] at g_F
     rw [<- hpb] at g_P
     rw [<- hxb] at g_X
     have HW := Lib.hid (show ∀ W,Off (fun _ => False) W1 W -> W.heap[fb]? = some (.cells #[.int .i64 id,.int .u64 (wd p 0 : Int),.int .u64 (wd p 1 : Int),.int .u64 (wd p 2 : Int),.int .u64 (wd p 3 : Int),.int .u64 (i : Int),.int .u64 (wd r 0 : Int),.int .u64 (wd r 1 : Int),.int .u64 (wd r 2 : Int),.int .u64 (wd r 3 : Int),.int .u64 (wd s 0 : Int),.int .u64 (wd s 1 : Int),.int .u64 (wd s 2 : Int),.int .u64 (wd s 3 : Int)] 31 (0,0)) /\ W.heap[pb]? = some (.cells #[.int .u64 (wd p 0 : Int),.int .u64 (wd p 1 : Int),.int .u64 (wd p 2 : Int),.int .u64 (wd p 3 : Int)] 28 (0,0)) /\ W.heap[xb]? = some (.cells #[.slice a1 n1 cap1,.slice b1 m1 dap1] 25 (0,0)) /\ Off (fun _ => False) w W from fun W h => ⟨h.heap g_F (fun c => c),h.heap g_P (fun c => c),h.heap g_X (fun c => c),hOw.trans h (fun _ _ c => c)⟩)
     have HO := Lib.hid (Off.refl (fun _ => False) W1)
     have HW1 := Lib.hid hW1
     have hxw : xb = w.heap.size := hxb
     go_upto_region 4 with fail
     rw [<- HW1.out]
     rw [<- hpb,<- hfb,<- hxb]
     clear g_F g_P g_X hOw hW1 hfb hpb hxb hxw o1 hO1 HW1
     obtain ⟨g_F,g_P,g_X,hOw⟩ := HW.out _ HO.out
     obtain ⟨p0,p1,p2,p3⟩ := cells4 g_P
     have hlp := heap_lt g_P
     obtain ⟨x0,x1⟩ := two_cells g_X
     have hlx := heap_lt g_X
     clear g_F g_P g_X hOw
     go_wp2_with fail
     clear p0 p1 p2 p3 hlp x0 x1 hlx
     refine (FV2.out _ _ (HL2.out.off (HW.out _ HO.out).2.2.2)).mono ?_
     rintro e u1 ⟨za,zc,z2,rfl,hzc,h_z1,h_z2,hO1⟩
     have H_z1 := Lib.hid h_z1
     have H_z2 := Lib.hid h_z2
     have HZc := Lib.hid hzc
     have HO := Lib.hid (HO.out.trans hO1 (fun _ _ c => c))
     clear h_z1 h_z2 hzc hO1
     obtain ⟨g_F,g_P,g_X,hOw⟩ := HW.out _ HO.out
     obtain ⟨f0,f1,f2,f3,f4,f5,f6,f7,f8,f9,f10,f11,f12,f13⟩ := fv_cells g_F
     have hlf := heap_lt g_F
     obtain ⟨x0,x1⟩ := two_cells g_X
     have hlx := heap_lt g_X
     clear g_F g_P g_X hOw
     go_wp2_with fail
     clear f0 f1 f2 f3 f4 f5 f6 f7 f8 f9 f10 f11 f12 f13 hlf x0 x1 hlx
     refine (FF.out _ _ (HL1.out.off (HW.out _ HO.out).2.2.2) H_z2.out).mono ?_
     rintro e u2 ⟨rfl,hO1⟩
     have HO := Lib.hid (HO.out.trans hO1 (fun _ _ c => c))
     have H_z1 := Lib.hid (H_z1.out.off hO1)
     clear hO1
     clear H_z2
     obtain ⟨g_F,g_P,g_X,hOw⟩ := HW.out _ HO.out
     obtain ⟨x0,x1⟩ := two_cells g_X
     have hlx := heap_lt g_X
     clear g_F g_P g_X hOw
     go_wp2_with fail
     clear x0 x1 hlx
     refine (FC.out _ (HL1.out.off (HW.out _ HO.out).2.2.2)).mono ?_
     rintro e u3 ⟨rfl,hO1⟩
     have HO := Lib.hid (HO.out.trans hO1 (fun _ _ c => c))
     have H_z1 := Lib.hid (H_z1.out.off hO1)
     clear hO1
     obtain ⟨g_F,g_P,g_X,hOw⟩ := HW.out _ HO.out
     obtain ⟨x0,x1⟩ := two_cells g_X
     have hlx := heap_lt g_X
     clear g_F g_P g_X hOw
     go_wp2_with fail
     clear x0 x1 hlx
     refine (FAL.out _ (HTw.out.off (HW.out _ HO.out).2.2.2)).mono ?_
     rintro e u4 ⟨rfl,hO1⟩
     clear H_z1
     have HO := Lib.hid (HO.out.trans hO1 (fun _ _ c => c))
     clear hO1
     go_wp2
     go_ret
     exact ⟨rfl,(HW.out _ HO.out).2.2.2⟩
   ·obtain ⟨c,hcv⟩ : ∃ c,c = chkV is1 := ⟨_,rfl⟩
    have hcp : ¬ c = 0 := by rw [hcv]; exact hc
    have hci : decide (c ≠ 0) = true := by simp [hcp]
    have hce : (c == 0) = false := by simp [hcp]
    have FC := Lib.hid (show ∀ W,Iv W (.slice a1 n1 cap1) is1 -> Calls Tryd.prog 12 #[.slice a1 n1 cap1] W fun e w' => e = .returned (.int .i64 c) /\ Off (fun _ => False) W w' from fun W h => by rw [hcv]; exact refcheck_any is1 (by omega) _ W h)
    have FF := Lib.hid (show ∀ W u,Iv W (.slice a1 n1 cap1) is1 -> Ls W u (vs.map (fm p)) -> Calls Tryd.prog 11 #[.pointer none,FV id p i r s,.slice a1 n1 cap1,u,.int .i64 i2] W fun e w' => e = .returned (.tuple #[.int .u64 0,.int .i64 c]) /\ Off (fun _ => False) W w' from fun W u h k => by rw [hcv]; exact fits_err is1 hc (by omega) i2 _ u W h)
    clear hc hcv hc1 hF hid hp h1 hp0 hfer hbig hn1 hm1 hd1 hI1 hV1 hml hmm hys hvs hvsl hvsp hmx hmx2 hT
    go_enter Tryd.func3,Tryd.ntmps3
    go_wp2_with fail
    refine (FG.out _ (HTw.out.off ((Off.refl _ w).alloc _))).mono ?_
    rintro e u0 ⟨rfl,hO1⟩
    obtain ⟨W1,hW1⟩ : ∃ W1,W1 = (u0.alloc (.cells #[.int .i64 id,.int .u64 (wd p 0 : Int),.int .u64 (wd p 1 : Int),.int .u64 (wd p 2 : Int),.int .u64 (wd p 3 : Int),.int .u64 (i : Int),.int .u64 (wd r 0 : Int),.int .u64 (wd r 1 : Int),.int .u64 (wd r 2 : Int),.int .u64 (wd r 3 : Int),.int .u64 (wd s 0 : Int),.int .u64 (wd s 1 : Int),.int .u64 (wd s 2 : Int),.int .u64 (wd s 3 : Int)] 31)).alloc (.cells #[.int .u64 (wd p 0 : Int),.int .u64 (wd p 1 : Int),.int .u64 (wd p 2 : Int),.int .u64 (wd p 3 : Int)] 28) := ⟨_,rfl⟩
    have o1 : Off (fun _ => False) u0 W1 := by rw [hW1]; exact ((Off.refl _ u0).alloc _).alloc _
    have g_F : W1.heap[u0.heap.size]? = some (.cells #[.int .i64 id,.int .u64 (wd p 0 : Int),.int .u64 (wd p 1 : Int),.int .u64 (wd p 2 : Int),.int .u64 (wd p 3 : Int),.int .u64 (i : Int),.int .u64 (wd r 0 : Int),.int .u64 (wd r 1 : Int),.int .u64 (wd r 2 : Int),.int .u64 (wd r 3 : Int),.int .u64 (wd s 0 : Int),.int .u64 (wd s 1 : Int),.int .u64 (wd s 2 : Int),.int .u64 (wd s 3 : Int)] 31 (0,0)) := by rw [hW1]; exact heap_old' (heap_new' rfl _) _
    have g_P : W1.heap[u0.heap.size + 1]? = some (.cells #[.int .u64 (wd p 0 : Int),.int .u64 (wd p 1 : Int),.int .u64 (wd p 2 : Int),.int .u64 (wd p 3 : Int)] 28 (0,0)) := by rw [hW1]; exact heap_new' (by simp) _
    have hOw := (((Off.refl _ w).alloc _) : Off (fun _ => False) w _).trans (hO1.trans o1 (fun _ _ c => c)) (fun _ _ c => c)
    have g_X : W1.heap[w.heap.size]? = some (.cells #[.slice a1 n1 cap1,.slice b1 m1 dap1] 25 (0,0)) := o1.heap (hO1.heap (heap_new' rfl _) (fun c => c)) (fun c => c)
    obtain ⟨xb,hxb⟩ : ∃ xb,xb = w.heap.size := ⟨_,rfl⟩
    obtain ⟨fb,hfb⟩ : ∃ fb,fb = u0.heap.size := ⟨_,rfl⟩
    obtain ⟨pb,hpb⟩ : ∃ pb,pb = u0.heap.size + 1 := ⟨_,rfl⟩
    rw [<- hfb] at g_F
    rw [<- hpb] at g_P
    rw [<- hxb] at g_X
    have HW := Lib.hid (show ∀ W,Off (fun _ => False) W1 W -> W.heap[fb]? = some (.cells #[.int .i64 id,.int .u64 (wd p 0 : Int),.int .u64 (wd p 1 : Int),.int .u64 (wd p 2 : Int),.int .u64 (wd p 3 : Int),.int .u64 (i : Int),.int .u64 (wd r 0 : Int),.int .u64 (wd r 1 : Int),.int .u64 (wd r 2 : Int),.int .u64 (wd r 3 : Int),.int .u64 (wd s 0 : Int),.int .u64 (wd s 1 : Int),.int .u64 (wd s 2 : Int),.int .u64 (wd s 3 : Int)] 31 (0,0)) /\ W.heap[pb]? = some (.cells #[.int .u64 (wd p 0 : Int),.int .u64 (wd p 1 : Int),.int .u64 (wd p 2 : Int),.int .u64 (wd p 3 : Int)] 28 (0,0)) /\ W.heap[xb]? = some (.cells #[.slice a1 n1 cap1,.slice b1 m1 dap1] 25 (0,0)) /\ Off (fun _ => False) w W from fun W h => ⟨h.heap g_F (fun c => c),h.heap g_P (fun c => c),h.heap g_X (fun c => c),hOw.trans h (fun _ _ c => c)⟩)
    have HO := Lib.hid (Off.refl (fun _ => False) W1)
    have HW1 := Lib.hid hW1
    have hxw : xb = w.heap.size := hxb
    go_upto_region 4 with fail
    rw [<- HW1.out]
    rw [<- hpb,<- hfb,<- hxb]
    clear g_F g_P g_X hOw hW1 hfb hpb hxb hxw o1 hO1 HW1
    obtain ⟨g_F,g_P,g_X,hOw⟩ := HW.out _ HO.out
    obtain ⟨p0,p1,p2,p3⟩ := cells4 g_P
    have hlp := heap_lt g_P
    obtain ⟨x0,x1⟩ := two_cells g_X
    have hlx := heap_lt g_X
    clear g_F g_P g_X hOw
    go_wp2_with fail
    clear p0 p1 p2 p3 hlp x0 x1 hlx
    refine (FV2.out _ _ (HL2.out.off (HW.out _ HO.out).2.2.2)).mono ?_
    rintro e u1 ⟨za,zc,z2,rfl,hzc,h_z1,h_z2,hO1⟩
    have H_z1 := Lib.hid h_z1
    have H_z2 := Lib.hid h_z2
    have HZc := Lib.hid hzc
    have HO := Lib.hid (HO.out.trans hO1 (fun _ _ c => c))
    clear h_z1 h_z2 hzc hO1
    obtain ⟨g_F,g_P,g_X,hOw⟩ := HW.out _ HO.out
    obtain ⟨f0,f1,f2,f3,f4,f5,f6,f7,f8,f9,f10,f11,f12,f13⟩ := fv_cells g_F
    have hlf := heap_lt g_F
    obtain ⟨x0,x1⟩ := two_cells g_X
    have hlx := heap_lt g_X
    clear g_F g_P g_X hOw
    go_wp2_with fail
    clear f0 f1 f2 f3 f4 f5 f6 f7 f8 f9 f10 f11 f12 f13 hlf x0 x1 hlx
    refine (FF.out _ _ (HL1.out.off (HW.out _ HO.out).2.2.2) H_z2.out).mono ?_
    rintro e u2 ⟨rfl,hO1⟩
    have HO := Lib.hid (HO.out.trans hO1 (fun _ _ c => c))
    have H_z1 := Lib.hid (H_z1.out.off hO1)
    clear hO1
    clear H_z2
    obtain ⟨g_F,g_P,g_X,hOw⟩ := HW.out _ HO.out
    obtain ⟨x0,x1⟩ := two_cells g_X
    have hlx := heap_lt g_X
    clear g_F g_P g_X hOw
    go_wp2_with fail
    clear x0 x1 hlx
    refine (FC.out _ (HL1.out.off (HW.out _ HO.out).2.2.2)).mono ?_
    rintro e u3 ⟨rfl,hO1⟩
    have HO := Lib.hid (HO.out.trans hO1 (fun _ _ c => c))
    have H_z1 := Lib.hid (H_z1.out.off hO1)
    clear hO1
    obtain ⟨g_F,g_P,g_X,hOw⟩ := HW.out _ HO.out
    obtain ⟨x0,x1⟩ := two_cells g_X
    have hlx := heap_lt g_X
    clear g_F g_P g_X hOw
    go_wp2_with fail
    clear x0 x1 hlx
    refine (FAL.out _ (HTw.out.off (HW.out _ HO.out).2.2.2)).mono ?_
    rintro e u4 ⟨rfl,hO1⟩
    clear H_z1
    have HO := Lib.hid (HO.out.trans hO1 (fun _ _ c => c))
    clear hO1
    go_wp2
    go_ret
    exact ⟨rfl,(HW.out _ HO.out).2.2.2⟩

theorem door_met (os : Os) (args : Array Value) : laidMetH Tryd.prog [("sharecore/field.fields",Rows.laid_sharecore_field_fields)] ((World.doorLaid Tryd.prog 400 os).forCall (fun _ _ => 0) ⟨#[],args,[]⟩).memory :=
 laidMetH_of_parts3 (fuel := 8) (laidMet_of_run' 8 (by kernel_rfl) (by kernel_rfl)) (by kernel_rfl) (by kernel_rfl)

set_option maxRecDepth 100000 in
theorem lifted (os : Os) (started : os.Started) (H : Type) (enc : TypeId × Value -> H) :
  ReturnsInHanded {} Tryd.checked os 3 .any (fun w args => (Rows.degreeFitsSpec.pre enc Tryd.prog Tryd.f3 [] false w args /\ laidMetH Tryd.prog [("sharecore/field.fields",Rows.laid_sharecore_field_fields)] w) /\ sizedMet enc Tryd.prog Tryd.f3 (OpenSpec.ofChange Rows.degreeFitsSpec) false w args)
   (Rows.degreeFitsSpec.post enc Tryd.prog Tryd.f3 false true false false) := by
 refine returnsInHanded_of_change_and (C := Tryd.checked) (X := fun w _ => laidMetH Tryd.prog [("sharecore/field.fields",Rows.laid_sharecore_field_fields)] w) (fun _ _ _ hh h => h.of_heap hh) own started (by kernel_rfl) Tryd.func3
  (ChangeSpec.witness_shaped (enc := enc) (C := Tryd.checked) (os := os) (X := fun w _ => laidMetH Tryd.prog [("sharecore/field.fields",Rows.laid_sharecore_field_fields)] w) false (World.doorLaid Tryd.prog 400 os) #[.bool false,.agg #[.slice none 0 0,.slice none 0 0],.int .i64 0] 8 rfl (World.shaped_of_RefB (by kernel_rfl) (by kernel_rfl)) (by kernel_rfl) (by kernel_rfl) (by kernel_rfl) (door_met os _)) ?_
 intro W base args ds gs before hval0 hW _ _ hL _
 have hval : ∀ (j : Nat) t v,Tryd.f3.params[j]? = some t -> args[j]? = some v -> Value.okWide Tryd.prog W .any base t v := hval0
 have hW' := hW
 obtain ⟨p,q,hA0,hV,rfl,hfz,hnd⟩ := hW
 have hA : DataW.TrodAll enc Tryd.prog W 0 (fun _ => true) true Tryd.f3.params.toList args.toList ds p := hA0
 rw [Tryd.params3] at hA hval
 obtain ⟨v0,vs0,d0,ds0,p0,q0,hargs,rfl,rfl,h0,r0⟩ := trodAll_cons hA
 obtain ⟨v1,vs1,d1,ds1,p1,q1,rfl,rfl,rfl,h1,r1⟩ := trodAll_cons r0
 obtain ⟨v2,vs2,d2,ds2,p2,q2,rfl,rfl,rfl,h2,r2⟩ := trodAll_cons r1
 obtain ⟨rfl,rfl,rfl⟩ := trodAll_nil r2
 obtain rfl : args = #[v0,v1,v2] := by cases args; simp_all
 obtain ⟨rfl,rfl⟩ := trodVars_none hV
 obtain ⟨i0,rfl,rfl,rfl⟩ := open_bool Tryd.underlying4 (hval 0 4 v0 rfl rfl) h0
 have w0 := trivial
 have k1 := h1
 have lt1 : ∀ x ∈ p1,x.block < W.heap.size := by obtain ⟨m,hm⟩ := k1; exact DataW.trod_lt m _ _ _ hm
 obtain ⟨a1,n1,cap1,xs1,b1,m1,dap1,ys1,w1,rfl⟩ := open_points (hval 1 25 v1 rfl rfl) h1
 obtain ⟨i2,rfl,rfl,rfl,w2⟩ := open_int Tryd.underlying3 (hval 2 3 v2 rfl rfl) h2
 have hT := tab_of_laid hL
 clear hA0 hval0
 refine (walk i0 a1 n1 cap1 xs1 b1 m1 dap1 ys1 i2 W w0 w1 w2 hT).mono fun e W' ⟨he,hoff⟩ => ?_
 have bel : Below W.heap.size W W' := hoff.below (Nat.le_refl _) (fun _ _ c => c)
 subst he
 exact ⟨_,rfl,_,_,_,[],_,[],hW',trodAll_mk1 (shut_bool Tryd.underlying4 _),(trodAll_cons_mk (shut_bool Tryd.underlying4 _) (trodAll_cons_mk (Below.trod laidOut (by kernel_rfl) (of_decide_eq_true (by kernel_rfl)) k1 bel lt1) (trodAll_cons_mk (shut_int Tryd.underlying3 w2) trodAll_mk0))),rfl,bel.frame _,fun h => by cases h⟩

theorem over : Rows.degreeFitsRow.holds Tryd.pinned (OpenSpec.ofChange Rows.degreeFitsSpec) :=
 OpenClaim.holds_of_wide 3 Tryd.f3 rfl rfl rfl rfl rfl rfl rfl ⟨rfl,rfl,rfl,rfl,rfl⟩ rfl rfl rfl rfl rfl (by kernel_rfl) Tryd.func3 (by kernel_rfl)
  (of_decide_eq_true (by kernel_rfl)) (by unfold Func.isWrapper; first | (rw [if_pos (by decide +kernel)]; kernel_rfl) | (rw [if_neg (by decide +kernel)]; exact ⟨rfl,rfl⟩))
  (fun os started H enc _ => lifted os started H enc)

theorem proved : Rows.DegreeFitsCardSaid :=
 Claim7.holds_tied_plain_at .later [] [.data] true (true,"427388ff9568da068c566f01fbebe31ca7ddb5823de2019176b8fd8e2e10c0e0") false
  over (fun _ h => by cases h) (by kernel_rfl) (fun _ h => by cases h) degreeFits_row_tie rfl ⟨rfl,rfl⟩ (by kernel_rfl) rfl
  (fun f fn hf hfn => by
   obtain rfl : f = 3 := Option.some.inj ((show Tryd.prog.funcNamed "sharecore/sharecorelaw10.DegreeFits" = some 3 by kernel_rfl).symm.trans hf) |>.symm
   obtain rfl : fn = Tryd.f3 := (Option.some.inj (Tryd.func3.symm.trans hfn)).symm
   exact ⟨by kernel_rfl,fun j t ht => by
    rw [Tryd.params3] at ht
    have hm : t ∈ [4,25,3] := by simpa using Array.mem_of_getElem? ht
    have hall : ([4,25,3].all fun u => !Tryd.prog.wantsStandIn u) = true := by kernel_rfl
    exact (show Tryd.prog.wantsStandIn t = false by simpa using List.all_eq_true.1 hall t hm)⟩)
  (by kernel_rfl)
#print axioms proved
end Go.Proofs.YtggebccgiigboaaDoor.degreeFits
-- squeezed
