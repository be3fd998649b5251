/-
  For every field, list of numbers and list of values, the examples of the chapter hold, and Interpolate returns the polynomial, or the error, of the reference: the statement of P9.4. No condition.
-/
import Derived.Test.YtcebegfnplplcaaDoorRows
import Derived.Test.YtcebegfnplplcaaDoorTie
import Derived.Test.YtcebegfnplplcaaDoorCards
import Derived.LaidMore
import Derived.LaidHandle
import Derived.SevenTiedAt
import Derived.Stop.Joined
import Derived.JoinedOf
import Derived.Test.YtcebegfnplplcaaDoorLimbWords
import Derived.Test.YtcebegfnplplcaaDoorIntAll
import Derived.Test.YtcebegfnplplcaaDoorVecOpen
import Derived.Test.YtcebegfnplplcaaDoorFieldTab
import Derived.Test.YtcebegfnplplcaaDoorFieldHeld
import Derived.Test.YtcebegfnplplcaaDoorLagAlive
import Derived.Test.YtcebegfnplplcaaDoorLagProg
import Derived.Test.YtcebegfnplplcaaDoorLagRefs
import Derived.Test.YtcebegfnplplcaaDoorPolLists
import Derived.Test.YtcebegfnplplcaaDoorInvAll
import Derived.WalkKit
import Derived.ProofKit
import Derived.OpenShut
import Derived.ShutString
import Derived.ChangeOld
import Derived.Below
namespace Go.Proofs.YtcebegfnplplcaaDoor.lagrangeInterpolates
open Go.ChangeShapes Go.WideShapes Go.ChangeAt Go.RowKit
set_option linter.unusedVariables false

theorem own : ownKnob Tryd.prog.godebug = none := by kernel_rfl
theorem laidOut : laidOutB Tryd.prog = true := by kernel_rfl

theorem mods_lt {p : Nat} (h : 0 < p) (xs : List Nat) : ∀ v ∈ xs.map (· % p),v < p := by
 intro v hv
 obtain ⟨x,_,rfl⟩ := List.mem_map.1 hv
 exact Nat.mod_lt _ h
set_option maxRecDepth 100000 in
set_option maxHeartbeats 4000000 in
theorem walk (i0 : Bool) (a1 : Option Addr) (n1 cap1 : Nat) (is1 : List Int) (a2 : Option Addr) (n2 cap2 : Nat) (xs2 : List Nat) (w : World) (w0 : True) (hn1 : n1 = is1.length) (w1 : IvAt w (.slice a1 n1 cap1) is1 (fun k => k < w.heap.size)) (hn2 : n2 = xs2.length) (w2 : VsAt w (.slice a2 n2 cap2) xs2 (fun k => k < w.heap.size)) (hT : TabAt w) :
  Calls Tryd.prog 5 #[.bool i0,.slice a1 n1 cap1,.slice a2 n2 cap2] w fun e w' => e = .returned (.bool true) /\ Off (fun _ => False) w w' := by
 obtain ⟨id,p,i,r,s,hF,hid⟩ := fld_of i0
 have hp := hF.mp.lt
 have h1 := hF.mp.one
 have hp0 : 0 < p := by omega
 obtain ⟨_,_,_,hbig⟩ := fld_full hF
 have FG := Lib.hid (fun W hT => get9_any i0 hF hid W hT)
 have FAL : Hid (∀ W,TabAt W -> Calls Tryd.prog 9 #[] W fun e w' => e = .returned (.bool true) /\ Off (fun _ => False) W w') := Lib.hid (fun W hT => alive9_any W hT)
 have HL := Lib.hid (Iv.of w1)
 obtain ⟨hnl2,hnm2,hxs2⟩ := w2.len
 by_cases hmx : 6 < n1
 ·have hbi : decide ((6 : Int) < (n1 : Int)) = true := by simp; omega
  have hbp : (6 : Int) < (n1 : Int) := by omega
  clear hn1 w1 HL hF hid hp h1 hp0 FG hbig hn2 w2 hnl2 hnm2 hxs2 hmx
  go_enter Tryd.func5,Tryd.ntmps5
  go_wp2_with fail
  refine (FAL.out _ (hT.off (Off.refl _ w))).mono ?_
  rintro e u0 ⟨rfl,hO⟩
  have HO := Lib.hid ((Off.refl _ w : Off (fun _ => False) w _).trans hO (fun _ _ c => c))
  clear hO
  go_wp2
  go_ret
  exact ⟨rfl,HO.out⟩
 ·have hbi : decide ((6 : Int) < (n1 : Int)) = false := by simp; omega
  have hbp : ¬ (6 : Int) < (n1 : Int) := by omega
  by_cases hmx2 : 6 < n2
  ·have hbi2 : decide ((6 : Int) < (n2 : Int)) = true := by simp; omega
   have hbp2 : (6 : Int) < (n2 : Int) := by omega
   clear hn1 w1 HL hF hid hp h1 hp0 FG hbig hn2 w2 hnl2 hnm2 hxs2 hmx hmx2
   go_enter Tryd.func5,Tryd.ntmps5
   go_wp2_with fail
   refine (FAL.out _ (hT.off (Off.refl _ w))).mono ?_
   rintro e u0 ⟨rfl,hO⟩
   have HO := Lib.hid ((Off.refl _ w : Off (fun _ => False) w _).trans hO (fun _ _ c => c))
   clear hO
   go_wp2
   go_ret
   exact ⟨rfl,HO.out⟩
  ·have hbi2 : decide ((6 : Int) < (n2 : Int)) = false := by simp; omega
   have hbp2 : ¬ (6 : Int) < (n2 : Int) := by omega
   obtain ⟨vs,hvs⟩ : ∃ l,l = xs2.map (· % p) := ⟨_,rfl⟩
   have hvsl : vs.length = n2 := by rw [hvs,List.length_map]; exact hnl2.symm
   have hvsp : ∀ v ∈ vs,v < p := by rw [hvs]; exact mods_lt hp0 xs2
   have FV2 := Lib.hid (show ∀ W v,Ls W v xs2 -> Calls Tryd.prog 18 #[V p,v] W fun e w' => ∃ z1 z2,e = .returned (.tuple #[z1,z2]) /\ Ls w' z1 vs /\ Ls w' z2 (vs.map (fm p)) /\ Off (fun _ => False) W w' from fun W v h => by rw [hvs]; exact values_any hp h1 xs2 hxs2 (by omega) v W h)
   have HL2 := Lib.hid (ls_of_vs w2 (by omega))
   have HTw := Lib.hid hT
   by_cases hc : chkV is1 = 0
   ·by_cases hnn : n1 = n2
    ·obtain ⟨hr,hnd⟩ := chkV_zero hc
     obtain ⟨il,hil⟩ : ∃ l,l = itpL p (ptV is1) vs := ⟨_,rfl⟩
     have FC := Lib.hid (show ∀ W,Iv W (.slice a1 n1 cap1) is1 -> Calls Tryd.prog 11 #[.slice a1 n1 cap1] W fun e w' => e = .returned (.int .i64 0) /\ Off (fun _ => False) W w' from fun W h => by have g := refcheck_any is1 (by omega) _ W h; rw [hc] at g; exact g)
     have FI := Lib.hid (show ∀ W v u,Iv W v is1 -> Ls W u (vs.map (fm p)) -> Calls Tryd.prog 19 #[.pointer none,FV id p i r s,v,u] W fun e w' => ∃ z,e = .returned (.tuple #[z,.int .i64 0]) /\ Ls w' z (il.map (fm p)) /\ Off (fun _ => False) W w' from fun W v u h k => by rw [hil]; exact itp_ls hF is1 hc (by omega) vs (by omega) v u W h k)
     have FRI := Lib.hid (show ∀ W v u,Iv W v is1 -> Ls W u vs -> Calls Tryd.prog 20 #[V p,v,u] W fun e w' => ∃ z,e = .returned z /\ Ls w' z il /\ Off (fun _ => False) W w' from fun W v u h k => by rw [hil]; exact refitp_any hp hbig is1 hr (by omega) vs hvsp (by omega) v u W h k)
     have FSi := Lib.hid (show ∀ W u v,Ls W u (il.map (fm p)) -> Ls W v il -> Calls Tryd.prog 15 #[V p,u,v] W fun e w' => e = .returned (.bool true) /\ Off (fun _ => False) W w' from fun W u v h k => same9_any hp h1 il (by rw [hil]; exact fun x hx => Nat.lt_trans (itpF_lt hp0 _ _ _ x hx) hp) u v W h k)
     have hnn2 : (n1 : Int) = (n2 : Int) := by omega
     have hni : decide ((n1 : Int) ≠ (n2 : Int)) = false := by simp; omega
     have hne2 : ((n1 : Int) == (n2 : Int)) = true := by simp; omega
     clear hc hnn hr hnd hil hF hid hp h1 hp0 hbig hn1 w1 hn2 w2 hnl2 hnm2 hxs2 hvs hvsl hvsp hmx hmx2
     go_enter Tryd.func5,Tryd.ntmps5
     go_wp2_with fail
     refine (FG.out _ (hT.off (Off.refl _ w))).mono ?_
     rintro e u0 ⟨rfl,hO1⟩
     obtain ⟨W1,hW1⟩ : ∃ W1,W1 = (u0.alloc (.cells #[.int .i64 id,.int .u64 (wd p 0 : Int),.int .u64 (wd p 1 : Int),.int .u64 (wd p 2 : Int),.int .u64 (wd p 3 : Int),.int .u64 (i : Int),.int .u64 (wd r 0 : Int),.int .u64 (wd r 1 : Int),.int .u64 (wd r 2 : Int),.int .u64 (wd r 3 : Int),.int .u64 (wd s 0 : Int),.int .u64 (wd s 1 : Int),.int .u64 (wd s 2 : Int),.int .u64 (wd s 3 : Int)] 32)).alloc (.cells #[.int .u64 (wd p 0 : Int),.int .u64 (wd p 1 : Int),.int .u64 (wd p 2 : Int),.int .u64 (wd p 3 : Int)] 29) := ⟨_,rfl⟩
     have o1 : Off (fun _ => False) u0 W1 := by rw [hW1]; exact ((Off.refl _ u0).alloc _).alloc _
     have g_F : W1.heap[u0.heap.size]? = some (.cells #[.int .i64 id,.int .u64 (wd p 0 : Int),.int .u64 (wd p 1 : Int),.int .u64 (wd p 2 : Int),.int .u64 (wd p 3 : Int),.int .u64 (i : Int),.int .u64 (wd r 0 : Int),.int .u64 (wd r 1 : Int),.int .u64 (wd r 2 : Int),.int .u64 (wd r 3 : Int),.int .u64 (wd s 0 : Int),.int .u64 (wd s 1 : Int),.int .u64 (wd s 2 : Int),.int .u64 (wd s 3 : Int)] 32 (0,0)) := by rw [hW1]; exact heap_old' (heap_new' rfl _) _
     have g_P : W1.heap[u0.heap.size + 1]? = some (.cells #[.int .u64 (wd p 0 : Int),.int .u64 (wd p 1 : Int),.int .u64 (wd p 2 : Int),.int .u64 (wd p 3 : Int)] 29 (0,0)) := by rw [hW1]; exact heap_new' (by simp) _
     obtain ⟨fb,hfb⟩ : ∃ fb,fb = u0.heap.size := ⟨_,rfl⟩
     obtain ⟨pb,hpb⟩ : ∃ pb,pb = u0.heap.size + 1 := ⟨_,rfl⟩
     rw [<- hfb] at g_F
     rw [<- hpb] at g_P
     have hOw := hO1.trans o1 (fun _ _ c => c)
     clear hO1 o1
     rw [hW1] at hOw g_F g_P
     go_wp2_with fail
     rw [<- hW1] at hOw g_F g_P ⊢
     rw [<- hpb,<- hfb]
     refine (FV2.out _ _ (HL2.out.off hOw)).mono ?_
     rintro e u1 ⟨z1,z2,rfl,h_z1,h_z2,hO1⟩
     have g_F := hO1.heap g_F (fun c => c)
     have g_P := hO1.heap g_P (fun c => c)
     have hOw := hOw.trans hO1 (fun _ _ c => c)
     clear hW1 hfb hpb
     clear hO1
     obtain ⟨f0,f1,f2,f3,f4,f5,f6,f7,f8,f9,f10,f11,f12,f13⟩ := fv_cells g_F
     have hlf := heap_lt g_F
     have H_z1 := Lib.hid h_z1
     have H_z2 := Lib.hid h_z2
     have GF := Lib.hid g_F
     have GP := Lib.hid g_P
     have HOw := Lib.hid hOw
     clear g_F g_P hOw h_z1 h_z2
     go_wp2_with fail
     clear f0 f1 f2 f3 f4 f5 f6 f7 f8 f9 f10 f11 f12 f13 hlf
     have h_z1 := H_z1.out
     have h_z2 := H_z2.out
     have g_F := GF.out
     have g_P := GP.out
     have hOw := HOw.out
     clear GF GP HOw H_z1 H_z2
     refine (FI.out _ _ _ (HL.out.off hOw) h_z2).mono ?_
     rintro e u2 ⟨zc,rfl,h_zc,hO1⟩
     have g_F := hO1.heap g_F (fun c => c)
     have g_P := hO1.heap g_P (fun c => c)
     have hOw := hOw.trans hO1 (fun _ _ c => c)
     have h_z1 := h_z1.off hO1
     clear hO1 h_z2
     have H_z1 := Lib.hid h_z1
     have H_zc := Lib.hid h_zc
     have GF := Lib.hid g_F
     have GP := Lib.hid g_P
     have HOw := Lib.hid hOw
     clear g_F g_P hOw h_z1 h_zc
     go_wp2_with fail
     have h_z1 := H_z1.out
     have h_zc := H_zc.out
     have g_F := GF.out
     have g_P := GP.out
     have hOw := HOw.out
     clear GF GP HOw H_z1 H_zc
     refine (FC.out _ (HL.out.off hOw)).mono ?_
     rintro e u3 ⟨rfl,hO1⟩
     have g_F := hO1.heap g_F (fun c => c)
     have g_P := hO1.heap g_P (fun c => c)
     have hOw := hOw.trans hO1 (fun _ _ c => c)
     have h_z1 := h_z1.off hO1
     have h_zc := h_zc.off hO1
     clear hO1
     have HTW := Lib.hid (fun W (h : Off (fun _ => False) u3 W) => HTw.out.off (hOw.trans h (fun _ _ c => c)))
     have HK : Hid (∀ W',Off (fun _ => False) u3 W' -> (W'.cell? ⟨fb,0,none⟩ = some (.int .i64 id) /\ W'.cell? ⟨fb,1,none⟩ = some (.int .u64 (wd p 0 : Int)) /\ W'.cell? ⟨fb,2,none⟩ = some (.int .u64 (wd p 1 : Int)) /\ W'.cell? ⟨fb,3,none⟩ = some (.int .u64 (wd p 2 : Int)) /\ W'.cell? ⟨fb,4,none⟩ = some (.int .u64 (wd p 3 : Int)) /\ W'.cell? ⟨fb,5,none⟩ = some (.int .u64 (i : Int)) /\ W'.cell? ⟨fb,6,none⟩ = some (.int .u64 (wd r 0 : Int)) /\ W'.cell? ⟨fb,7,none⟩ = some (.int .u64 (wd r 1 : Int)) /\ W'.cell? ⟨fb,8,none⟩ = some (.int .u64 (wd r 2 : Int)) /\ W'.cell? ⟨fb,9,none⟩ = some (.int .u64 (wd r 3 : Int)) /\ W'.cell? ⟨fb,10,none⟩ = some (.int .u64 (wd s 0 : Int)) /\ W'.cell? ⟨fb,11,none⟩ = some (.int .u64 (wd s 1 : Int)) /\ W'.cell? ⟨fb,12,none⟩ = some (.int .u64 (wd s 2 : Int)) /\ W'.cell? ⟨fb,13,none⟩ = some (.int .u64 (wd s 3 : Int))) /\ (W'.cell? ⟨pb,0,none⟩ = some (.int .u64 (wd p 0 : Int)) /\ W'.cell? ⟨pb,1,none⟩ = some (.int .u64 (wd p 1 : Int)) /\ W'.cell? ⟨pb,2,none⟩ = some (.int .u64 (wd p 2 : Int)) /\ W'.cell? ⟨pb,3,none⟩ = some (.int .u64 (wd p 3 : Int))) /\ Off (fun _ => False) u3 W') := Lib.hid (fun W' h => ⟨fv_cells (h.heap g_F (fun c => c)),cells4 (h.heap g_P (fun c => c)),h⟩)
     have HOw := Lib.hid hOw
     have FR1 := Lib.hid (show ∀ W,Off (fun _ => False) u3 W -> _ from fun W h => FRI.out W _ z1 (HL.out.off (hOw.trans h (fun _ _ c => c))) (h_z1.off h))
     have FS1 := Lib.hid (show ∀ W v,Off (fun _ => False) u3 W -> Ls W v il -> _ from fun W v h k => FSi.out W zc v (h_zc.off h) k)
     clear g_F g_P hOw h_z1 h_zc FRI FSi FI FC FG HL HTw hT
     go_upto_region 11 with fail
     obtain ⟨x65,hx⟩ : ∃ x : Value,x = .bool true := ⟨_,rfl⟩
     have X65 := Lib.hid hx
     clear hx
     obtain ⟨x66,hx⟩ : ∃ x : Value,x = .bool true := ⟨_,rfl⟩
     have X66 := Lib.hid hx
     clear hx
     obtain ⟨x67,hx⟩ : ∃ x : Value,x = .int .i64 0 := ⟨_,rfl⟩
     have X67 := Lib.hid hx
     clear hx
     obtain ⟨x68,hx⟩ : ∃ x : Value,x = .bool true := ⟨_,rfl⟩
     have X68 := Lib.hid hx
     clear hx
     obtain ⟨x69,hx⟩ : ∃ x : Value,x = .bool true := ⟨_,rfl⟩
     have X69 := Lib.hid hx
     clear hx
     obtain ⟨x70,hx⟩ : ∃ x : Value,x = .bool true := ⟨_,rfl⟩
     have X70 := Lib.hid hx
     clear hx
     obtain ⟨x71,hx⟩ : ∃ x : Value,x = V p := ⟨_,rfl⟩
     have X71 := Lib.hid hx
     clear hx
     obtain ⟨x72,hx⟩ : ∃ x : Value,x = zc := ⟨_,rfl⟩
     have X72 := Lib.hid hx
     clear hx
     obtain ⟨x73,hx⟩ : ∃ x : Value,x = V p := ⟨_,rfl⟩
     have X73 := Lib.hid hx
     clear hx
     obtain ⟨x74,hx⟩ : ∃ x : Value,x = .slice a1 n1 cap1 := ⟨_,rfl⟩
     have X74 := Lib.hid hx
     clear hx
     obtain ⟨x75,hx⟩ : ∃ x : Value,x = z1 := ⟨_,rfl⟩
     have X75 := Lib.hid hx
     clear hx
     obtain ⟨x77,hx⟩ : ∃ x : Value,x = .bool true := ⟨_,rfl⟩
     have X77 := Lib.hid hx
     clear hx
     obtain ⟨x78,hx⟩ : ∃ x : Value,x = .bool true := ⟨_,rfl⟩
     have X78 := Lib.hid hx
     clear hx
     obtain ⟨x6,hx⟩ : ∃ x : Value,x = .bool true := ⟨_,rfl⟩
     have X6 := Lib.hid hx
     clear hx
     refine wp_region_inv (fun a0 l a' w' => ∃ (u76 : Value),a' = (Act.put (fill a0 65 [sel (l 0) x65 undef,sel (l 1) x66 undef,sel (l 2) x67 undef,sel (l 3) x68 undef,sel (l 4) x69 undef,sel (l 5) x70 undef,sel (l 6) x71 undef,sel (l 7) x72 undef,sel (l 8) x73 undef,sel (l 9) x74 undef,sel (l 10) x75 undef,sel (l 11) u76 undef,sel (l 12) x77 undef,sel (l 13) x78 undef]) (some 6) (sel (l 14) x6 (.bool false))) /\ Lk l 11 u76 w' (il) /\ Off (fun _ => False) u3 w') (by kernel_rfl) (by kernel_rfl) ?_ ⟨?_,?_,?_,?_,?_,?_,?_,?_,?_,?_,?_,?_,?_,?_,?_,trivial⟩ ?_
     ·refine ⟨undef,?_,Lk.start _ _ _ _,(Off.refl _ u3).drew⟩
      simp only [fill_eq,List.take_succ_cons,List.take_zero,List.cons_append,List.nil_append,Act.put,List.setIfInBounds_toArray,List.set_cons_zero,List.set_cons_succ,sel_start]
     ·as_aux_lemma =>
       rintro l a wr ⟨u76,ha,M11,hO⟩ hl hd K' hK
       have hx := X65.out; subst hx
       simp only [fill_eq,List.take_succ_cons,List.take_zero,List.cons_append,List.nil_append,Act.put,List.setIfInBounds_toArray,List.set_cons_zero,List.set_cons_succ] at ha
       subst ha
       rw [if_pos (by rfl)]
       go_simp
       refine (held_inv (FAL.out wr (HTW.out wr hO)) hO).mono ?_
       rintro e w1 ⟨rfl,hO1,hOW⟩
       go_wp2_with fail
       refine hK.out _ _ ⟨u76,?_,M11.keep hOW rfl,hO1⟩
       simp only [fill_eq,List.take_succ_cons,List.take_zero,List.cons_append,List.nil_append,Act.put,List.setIfInBounds_toArray,List.set_cons_zero,List.set_cons_succ,sel_new]
       rfl
     ·as_aux_lemma =>
       rintro l a wr ⟨u76,ha,M11,hO⟩ hl hd K' hK
       have d0 := hd 0 (by decide)
       have hx := X65.out; subst hx
       have hx := X66.out; subst hx
       simp only [fill_eq,List.take_succ_cons,List.take_zero,List.cons_append,List.nil_append,Act.put,List.setIfInBounds_toArray,List.set_cons_zero,List.set_cons_succ,sel_of d0] at ha
       subst ha
       rw [if_pos (by rfl)]
       go_simp
       refine hK.out _ _ ⟨u76,?_,M11.keep (Off.refl _ wr) rfl,hO⟩
       simp only [fill_eq,List.take_succ_cons,List.take_zero,List.cons_append,List.nil_append,Act.put,List.setIfInBounds_toArray,List.set_cons_zero,List.set_cons_succ,sel_new,sel_dep d0]
       rfl
     ·as_aux_lemma =>
       rintro l a wr ⟨u76,ha,M11,hO⟩ hl hd K' hK
       have d1 := hd 1 (by decide)
       have hx := X66.out; subst hx
       have hx := X67.out; subst hx
       simp only [fill_eq,List.take_succ_cons,List.take_zero,List.cons_append,List.nil_append,Act.put,List.setIfInBounds_toArray,List.set_cons_zero,List.set_cons_succ,sel_of d1] at ha
       subst ha
       rw [if_pos (by rfl)]
       go_simp
       refine hK.out _ _ ⟨u76,?_,M11.keep (Off.refl _ wr) rfl,hO⟩
       simp only [fill_eq,List.take_succ_cons,List.take_zero,List.cons_append,List.nil_append,Act.put,List.setIfInBounds_toArray,List.set_cons_zero,List.set_cons_succ,sel_new,sel_dep d1]
       rfl
     ·as_aux_lemma =>
       rintro l a wr ⟨u76,ha,M11,hO⟩ hl hd K' hK
       have d1 := hd 1 (by decide)
       have d2 := hd 2 (by decide)
       have hx := X66.out; subst hx
       have hx := X67.out; subst hx
       have hx := X68.out; subst hx
       simp only [fill_eq,List.take_succ_cons,List.take_zero,List.cons_append,List.nil_append,Act.put,List.setIfInBounds_toArray,List.set_cons_zero,List.set_cons_succ,sel_of d1,sel_of d2] at ha
       subst ha
       rw [if_pos (by rfl)]
       go_simp
       refine hK.out _ _ ⟨u76,?_,M11.keep (Off.refl _ wr) rfl,hO⟩
       simp only [fill_eq,List.take_succ_cons,List.take_zero,List.cons_append,List.nil_append,Act.put,List.setIfInBounds_toArray,List.set_cons_zero,List.set_cons_succ,sel_new,sel_dep d1,sel_dep d2]
       rfl
     ·as_aux_lemma =>
       rintro l a wr ⟨u76,ha,M11,hO⟩ hl hd K' hK
       have d1 := hd 1 (by decide)
       have d3 := hd 3 (by decide)
       have hx := X66.out; subst hx
       have hx := X68.out; subst hx
       have hx := X69.out; subst hx
       simp only [fill_eq,List.take_succ_cons,List.take_zero,List.cons_append,List.nil_append,Act.put,List.setIfInBounds_toArray,List.set_cons_zero,List.set_cons_succ,sel_of d1,sel_of d3] at ha
       subst ha
       rw [if_pos (by rfl)]
       go_simp
       refine hK.out _ _ ⟨u76,?_,M11.keep (Off.refl _ wr) rfl,hO⟩
       simp only [fill_eq,List.take_succ_cons,List.take_zero,List.cons_append,List.nil_append,Act.put,List.setIfInBounds_toArray,List.set_cons_zero,List.set_cons_succ,sel_new,sel_dep d1,sel_dep d3]
       rfl
     ·as_aux_lemma =>
       rintro l a wr ⟨u76,ha,M11,hO⟩ hl hd K' hK
       have d4 := hd 4 (by decide)
       have hx := X69.out; subst hx
       have hx := X70.out; subst hx
       simp only [fill_eq,List.take_succ_cons,List.take_zero,List.cons_append,List.nil_append,Act.put,List.setIfInBounds_toArray,List.set_cons_zero,List.set_cons_succ,sel_of d4] at ha
       subst ha
       rw [if_pos (by rfl)]
       go_simp
       refine hK.out _ _ ⟨u76,?_,M11.keep (Off.refl _ wr) rfl,hO⟩
       simp only [fill_eq,List.take_succ_cons,List.take_zero,List.cons_append,List.nil_append,Act.put,List.setIfInBounds_toArray,List.set_cons_zero,List.set_cons_succ,sel_new,sel_dep d4]
       rfl
     ·as_aux_lemma =>
       rintro l a wr ⟨u76,ha,M11,hO⟩ hl hd K' hK
       have d5 := hd 5 (by decide)
       have hx := X70.out; subst hx
       have hx := X71.out; subst hx
       simp only [fill_eq,List.take_succ_cons,List.take_zero,List.cons_append,List.nil_append,Act.put,List.setIfInBounds_toArray,List.set_cons_zero,List.set_cons_succ,sel_of d5] at ha
       subst ha
       have hc := HK.out wr hO
       have p0 := hc.2.1.1
       have p1 := hc.2.1.2.1
       have p2 := hc.2.1.2.2.1
       have p3 := hc.2.1.2.2.2
       clear hc
       rw [if_pos (by rfl)]
       go_simp
       refine hK.out _ _ ⟨u76,?_,M11.keep (Off.refl _ wr) rfl,hO⟩
       simp only [fill_eq,List.take_succ_cons,List.take_zero,List.cons_append,List.nil_append,Act.put,List.setIfInBounds_toArray,List.set_cons_zero,List.set_cons_succ,sel_new,sel_dep d5]
       rfl
     ·as_aux_lemma =>
       rintro l a wr ⟨u76,ha,M11,hO⟩ hl hd K' hK
       have d5 := hd 5 (by decide)
       have hx := X70.out; subst hx
       have hx := X72.out; subst hx
       simp only [fill_eq,List.take_succ_cons,List.take_zero,List.cons_append,List.nil_append,Act.put,List.setIfInBounds_toArray,List.set_cons_zero,List.set_cons_succ,sel_of d5] at ha
       subst ha
       rw [if_pos (by rfl)]
       go_simp
       refine hK.out _ _ ⟨u76,?_,M11.keep (Off.refl _ wr) rfl,hO⟩
       simp only [fill_eq,List.take_succ_cons,List.take_zero,List.cons_append,List.nil_append,Act.put,List.setIfInBounds_toArray,List.set_cons_zero,List.set_cons_succ,sel_new,sel_dep d5]
       rfl
     ·as_aux_lemma =>
       rintro l a wr ⟨u76,ha,M11,hO⟩ hl hd K' hK
       have d5 := hd 5 (by decide)
       have hx := X70.out; subst hx
       have hx := X73.out; subst hx
       simp only [fill_eq,List.take_succ_cons,List.take_zero,List.cons_append,List.nil_append,Act.put,List.setIfInBounds_toArray,List.set_cons_zero,List.set_cons_succ,sel_of d5] at ha
       subst ha
       have hc := HK.out wr hO
       have p0 := hc.2.1.1
       have p1 := hc.2.1.2.1
       have p2 := hc.2.1.2.2.1
       have p3 := hc.2.1.2.2.2
       clear hc
       rw [if_pos (by rfl)]
       go_simp
       refine hK.out _ _ ⟨u76,?_,M11.keep (Off.refl _ wr) rfl,hO⟩
       simp only [fill_eq,List.take_succ_cons,List.take_zero,List.cons_append,List.nil_append,Act.put,List.setIfInBounds_toArray,List.set_cons_zero,List.set_cons_succ,sel_new,sel_dep d5]
       rfl
     ·as_aux_lemma =>
       rintro l a wr ⟨u76,ha,M11,hO⟩ hl hd K' hK
       have d5 := hd 5 (by decide)
       have hx := X70.out; subst hx
       have hx := X74.out; subst hx
       simp only [fill_eq,List.take_succ_cons,List.take_zero,List.cons_append,List.nil_append,Act.put,List.setIfInBounds_toArray,List.set_cons_zero,List.set_cons_succ,sel_of d5] at ha
       subst ha
       rw [if_pos (by rfl)]
       go_simp
       refine hK.out _ _ ⟨u76,?_,M11.keep (Off.refl _ wr) rfl,hO⟩
       simp only [fill_eq,List.take_succ_cons,List.take_zero,List.cons_append,List.nil_append,Act.put,List.setIfInBounds_toArray,List.set_cons_zero,List.set_cons_succ,sel_new,sel_dep d5]
       rfl
     ·as_aux_lemma =>
       rintro l a wr ⟨u76,ha,M11,hO⟩ hl hd K' hK
       have d5 := hd 5 (by decide)
       have hx := X70.out; subst hx
       have hx := X75.out; subst hx
       simp only [fill_eq,List.take_succ_cons,List.take_zero,List.cons_append,List.nil_append,Act.put,List.setIfInBounds_toArray,List.set_cons_zero,List.set_cons_succ,sel_of d5] at ha
       subst ha
       rw [if_pos (by rfl)]
       go_simp
       refine hK.out _ _ ⟨u76,?_,M11.keep (Off.refl _ wr) rfl,hO⟩
       simp only [fill_eq,List.take_succ_cons,List.take_zero,List.cons_append,List.nil_append,Act.put,List.setIfInBounds_toArray,List.set_cons_zero,List.set_cons_succ,sel_new,sel_dep d5]
       rfl
     ·as_aux_lemma =>
       rintro l a wr ⟨u76,ha,M11,hO⟩ hl hd K' hK
       have d5 := hd 5 (by decide)
       have d8 := hd 8 (by decide)
       have d9 := hd 9 (by decide)
       have d10 := hd 10 (by decide)
       have hx := X70.out; subst hx
       have hx := X73.out; subst hx
       have hx := X74.out; subst hx
       have hx := X75.out; subst hx
       simp only [fill_eq,List.take_succ_cons,List.take_zero,List.cons_append,List.nil_append,Act.put,List.setIfInBounds_toArray,List.set_cons_zero,List.set_cons_succ,sel_of d5,sel_of d8,sel_of d9,sel_of d10] at ha
       subst ha
       rw [if_pos (by rfl)]
       go_simp
       refine (FR1.out wr hO).mono ?_
       rintro e w1 ⟨uv,rfl,hm,hOW⟩
       have hO1 := hO.trans hOW (fun _ _ c => c)
       go_wp2_with fail
       refine hK.out _ _ ⟨uv,?_,Lk.new hm,hO1⟩
       simp only [fill_eq,List.take_succ_cons,List.take_zero,List.cons_append,List.nil_append,Act.put,List.setIfInBounds_toArray,List.set_cons_zero,List.set_cons_succ,sel_new,sel_dep d5,sel_dep d8,sel_dep d9,sel_dep d10]
       rfl
     ·as_aux_lemma =>
       rintro l a wr ⟨u76,ha,M11,hO⟩ hl hd K' hK
       have d5 := hd 5 (by decide)
       have d6 := hd 6 (by decide)
       have d7 := hd 7 (by decide)
       have d11 := hd 11 (by decide)
       have hx := X70.out; subst hx
       have hx := X71.out; subst hx
       have hx := X72.out; subst hx
       have m11 := M11 d11
       have hx := X77.out; subst hx
       simp only [fill_eq,List.take_succ_cons,List.take_zero,List.cons_append,List.nil_append,Act.put,List.setIfInBounds_toArray,List.set_cons_zero,List.set_cons_succ,sel_of d5,sel_of d6,sel_of d7,sel_of d11] at ha
       subst ha
       rw [if_pos (by rfl)]
       go_simp
       refine (held_inv (FS1.out wr u76 hO m11) hO).mono ?_
       rintro e w1 ⟨rfl,hO1,hOW⟩
       go_wp2_with fail
       refine hK.out _ _ ⟨u76,?_,M11.keep hOW rfl,hO1⟩
       simp only [fill_eq,List.take_succ_cons,List.take_zero,List.cons_append,List.nil_append,Act.put,List.setIfInBounds_toArray,List.set_cons_zero,List.set_cons_succ,sel_new,sel_dep d5,sel_dep d6,sel_dep d7,sel_dep d11]
       rfl
     ·as_aux_lemma =>
       rintro l a wr ⟨u76,ha,M11,hO⟩ hl hd K' hK
       have d5 := hd 5 (by decide)
       have d12 := hd 12 (by decide)
       have hx := X70.out; subst hx
       have hx := X77.out; subst hx
       have hx := X78.out; subst hx
       simp only [fill_eq,List.take_succ_cons,List.take_zero,List.cons_append,List.nil_append,Act.put,List.setIfInBounds_toArray,List.set_cons_zero,List.set_cons_succ,sel_of d5,sel_of d12] at ha
       subst ha
       rw [if_pos (by rfl)]
       go_simp
       refine hK.out _ _ ⟨u76,?_,M11.keep (Off.refl _ wr) rfl,hO⟩
       simp only [fill_eq,List.take_succ_cons,List.take_zero,List.cons_append,List.nil_append,Act.put,List.setIfInBounds_toArray,List.set_cons_zero,List.set_cons_succ,sel_new,sel_dep d5,sel_dep d12]
       rfl
     ·as_aux_lemma =>
       rintro l a wr ⟨u76,ha,M11,hO⟩ hl hd K' hK
       have d13 := hd 13 (by decide)
       have hx := X78.out; subst hx
       have hx := X6.out; subst hx
       simp only [fill_eq,List.take_succ_cons,List.take_zero,List.cons_append,List.nil_append,Act.put,List.setIfInBounds_toArray,List.set_cons_zero,List.set_cons_succ,sel_of d13] at ha
       subst ha
       rw [if_pos (by rfl)]
       go_simp
       refine hK.out _ _ ⟨u76,?_,M11.keep (Off.refl _ wr) rfl,hO⟩
       simp only [fill_eq,List.take_succ_cons,List.take_zero,List.cons_append,List.nil_append,Act.put,List.setIfInBounds_toArray,List.set_cons_zero,List.set_cons_succ,sel_new,sel_dep d13]
       rfl
     ·rintro l a wc ⟨u76,ha,M11,hO⟩ hd
      simp only [fill_eq,List.take_succ_cons,List.take_zero,List.cons_append,List.nil_append,Act.put,List.setIfInBounds_toArray,List.set_cons_zero,List.set_cons_succ,sel_of (hd 0 (by decide)),sel_of (hd 1 (by decide)),sel_of (hd 2 (by decide)),sel_of (hd 3 (by decide)),sel_of (hd 4 (by decide)),sel_of (hd 5 (by decide)),sel_of (hd 6 (by decide)),sel_of (hd 7 (by decide)),sel_of (hd 8 (by decide)),sel_of (hd 9 (by decide)),sel_of (hd 10 (by decide)),sel_of (hd 11 (by decide)),sel_of (hd 12 (by decide)),sel_of (hd 13 (by decide)),sel_of (hd 14 (by decide))] at ha
      subst ha
      have hx := X6.out; subst hx
      have HOf := Lib.hid (HOw.out.trans hO (fun _ _ c => c))
      clear hO hd
      go_wp2
      go_ret
      exact ⟨rfl,HOf.out⟩
    ·have hnp : ¬ (n1 : Int) = (n2 : Int) := by omega
     have hni : decide ((n1 : Int) ≠ (n2 : Int)) = true := by simp; omega
     have hne2 : ((n1 : Int) == (n2 : Int)) = false := by simp; omega
     have FC := Lib.hid (show ∀ W,Iv W (.slice a1 n1 cap1) is1 -> Calls Tryd.prog 11 #[.slice a1 n1 cap1] W fun e w' => e = .returned (.int .i64 0) /\ Off (fun _ => False) W w' from fun W h => by have g := refcheck_any is1 (by omega) _ W h; rw [hc] at g; exact g)
     have FI := Lib.hid (show ∀ W v u,Iv W v is1 -> Ls W u (vs.map (fm p)) -> Calls Tryd.prog 19 #[.pointer none,FV id p i r s,v,u] W fun e w' => e = .returned (.tuple #[.slice none 0 0,.int .i64 8]) /\ Off (fun _ => False) W w' from fun W v u h k => itp_ls_len is1 hc (by omega) (vs.map (fm p)) (by rw [List.length_map]; omega) v u W h k)
     clear hc hnn hF hid hp h1 hp0 hbig hn1 w1 hn2 w2 hnl2 hnm2 hxs2 hvs hvsl hvsp hmx hmx2
     go_enter Tryd.func5,Tryd.ntmps5
     go_wp2_with fail
     refine (FG.out _ (hT.off (Off.refl _ w))).mono ?_
     rintro e u0 ⟨rfl,hO1⟩
     obtain ⟨W1,hW1⟩ : ∃ W1,W1 = (u0.alloc (.cells #[.int .i64 id,.int .u64 (wd p 0 : Int),.int .u64 (wd p 1 : Int),.int .u64 (wd p 2 : Int),.int .u64 (wd p 3 : Int),.int .u64 (i : Int),.int .u64 (wd r 0 : Int),.int .u64 (wd r 1 : Int),.int .u64 (wd r 2 : Int),.int .u64 (wd r 3 : Int),.int .u64 (wd s 0 : Int),.int .u64 (wd s 1 : Int),.int .u64 (wd s 2 : Int),.int .u64 (wd s 3 : Int)] 32)).alloc (.cells #[.int .u64 (wd p 0 : Int),.int .u64 (wd p 1 : Int),.int .u64 (wd p 2 : Int),.int .u64 (wd p 3 : Int)] 29) := ⟨_,rfl⟩
     have o1 : Off (fun _ => False) u0 W1 := by rw [hW1]; exact ((Off.refl _ u0).alloc _).alloc _
     have g_F : W1.heap[u0.heap.size]? = some (.cells #[.int .i64 id,.int .u64 (wd p 0 : Int),.int .u64 (wd p 1 : Int),.int .u64 (wd p 2 : Int),.int .u64 (wd p 3 : Int),.int .u64 (i : Int),.int .u64 (wd r 0 : Int),.int .u64 (wd r 1 : Int),.int .u64 (wd r 2 : Int),.int .u64 (wd r 3 : Int),.int .u64 (wd s 0 : Int),.int .u64 (wd s 1 : Int),.int .u64 (wd s 2 : Int),.int .u64 (wd s 3 : Int)] 32 (0,0)) := by rw [hW1]; exact heap_old' (heap_new' rfl _) _
     have g_P : W1.heap[u0.heap.size + 1]? = some (.cells #[.int .u64 (wd p 0 : Int),.int .u64 (wd p 1 : Int),.int .u64 (wd p 2 : Int),.int .u64 (wd p 3 : Int)] 29 (0,0)) := by rw [hW1]; exact heap_new' (by simp) _
     obtain ⟨fb,hfb⟩ : ∃ fb,fb = u0.heap.size := ⟨_,rfl⟩
     obtain ⟨pb,hpb⟩ : ∃ pb,pb = u0.heap.size + 1 := ⟨_,rfl⟩
     rw [<- hfb] at g_F
     rw [<- hpb] at g_P
     have hOw := hO1.trans o1 (fun _ _ c => c)
     clear hO1 o1
     rw [hW1] at hOw g_F g_P
     go_wp2_with fail
     rw [<- hW1] at hOw g_F g_P ⊢
     rw [<- hpb,<- hfb]
     refine (FV2.out _ _ (HL2.out.off hOw)).mono ?_
     rintro e u1 ⟨z1,z2,rfl,h_z1,h_z2,hO1⟩
     have g_F := hO1.heap g_F (fun c => c)
     have g_P := hO1.heap g_P (fun c => c)
     have hOw := hOw.trans hO1 (fun _ _ c => c)
     clear hW1 hfb hpb
     clear hO1
     obtain ⟨f0,f1,f2,f3,f4,f5,f6,f7,f8,f9,f10,f11,f12,f13⟩ := fv_cells g_F
     have hlf := heap_lt g_F
     have H_z1 := Lib.hid h_z1
     have H_z2 := Lib.hid h_z2
     have GF := Lib.hid g_F
     have GP := Lib.hid g_P
     have HOw := Lib.hid hOw
     clear g_F g_P hOw h_z1 h_z2
     go_wp2_with fail
     clear f0 f1 f2 f3 f4 f5 f6 f7 f8 f9 f10 f11 f12 f13 hlf
     have h_z1 := H_z1.out
     have h_z2 := H_z2.out
     have g_F := GF.out
     have g_P := GP.out
     have hOw := HOw.out
     clear GF GP HOw H_z1 H_z2
     refine (FI.out _ _ _ (HL.out.off hOw) h_z2).mono ?_
     rintro e u2 ⟨rfl,hO1⟩
     have g_F := hO1.heap g_F (fun c => c)
     have g_P := hO1.heap g_P (fun c => c)
     have hOw := hOw.trans hO1 (fun _ _ c => c)
     have h_z1 := h_z1.off hO1
     clear hO1 h_z2
     have H_z1 := Lib.hid h_z1
     have GF := Lib.hid g_F
     have GP := Lib.hid g_P
     have HOw := Lib.hid hOw
     clear g_F g_P hOw h_z1
     go_wp2_with fail
     have h_z1 := H_z1.out
     have g_F := GF.out
     have g_P := GP.out
     have hOw := HOw.out
     clear GF GP HOw H_z1
     refine (FC.out _ (HL.out.off hOw)).mono ?_
     rintro e u3 ⟨rfl,hO1⟩
     have g_F := hO1.heap g_F (fun c => c)
     have g_P := hO1.heap g_P (fun c => c)
     have hOw := hOw.trans hO1 (fun _ _ c => c)
     have h_z1 := h_z1.off hO1
     clear hO1
     clear h_z1 g_F g_P
     have HOx := Lib.hid hOw
     clear hOw
     go_wp2_with fail
     refine (FAL.out _ (HTw.out.off HOx.out)).mono ?_
     rintro e u4 ⟨rfl,hO1⟩
     have HOf := Lib.hid (HOx.out.trans hO1 (fun _ _ c => c))
     clear hO1
     go_wp2
     go_ret
     exact ⟨rfl,HOf.out⟩
   ·obtain ⟨c,hcv⟩ : ∃ c,c = chkV is1 := ⟨_,rfl⟩
    have hcp : ¬ c = 0 := by rw [hcv]; exact hc
    have hci : decide (c ≠ 0) = true := by simp [hcp]
    have hce : (c == 0) = false := by simp [hcp]
    have FC := Lib.hid (show ∀ W,Iv W (.slice a1 n1 cap1) is1 -> Calls Tryd.prog 11 #[.slice a1 n1 cap1] W fun e w' => e = .returned (.int .i64 c) /\ Off (fun _ => False) W w' from fun W h => by rw [hcv]; exact refcheck_any is1 (by omega) _ W h)
    have FI := Lib.hid (show ∀ W v u,Iv W v is1 -> Ls W u (vs.map (fm p)) -> Calls Tryd.prog 19 #[.pointer none,FV id p i r s,v,u] W fun e w' => e = .returned (.tuple #[.slice none 0 0,.int .i64 c]) /\ Off (fun _ => False) W w' from fun W v u h k => by rw [hcv]; exact itp_err is1 hc (by omega) none v u W h)
    clear hc hcv hF hid hp h1 hp0 hbig hn1 w1 hn2 w2 hnl2 hnm2 hxs2 hvs hvsl hvsp hmx hmx2
    go_enter Tryd.func5,Tryd.ntmps5
    go_wp2_with fail
    refine (FG.out _ (hT.off (Off.refl _ w))).mono ?_
    rintro e u0 ⟨rfl,hO1⟩
    obtain ⟨W1,hW1⟩ : ∃ W1,W1 = (u0.alloc (.cells #[.int .i64 id,.int .u64 (wd p 0 : Int),.int .u64 (wd p 1 : Int),.int .u64 (wd p 2 : Int),.int .u64 (wd p 3 : Int),.int .u64 (i : Int),.int .u64 (wd r 0 : Int),.int .u64 (wd r 1 : Int),.int .u64 (wd r 2 : Int),.int .u64 (wd r 3 : Int),.int .u64 (wd s 0 : Int),.int .u64 (wd s 1 : Int),.int .u64 (wd s 2 : Int),.int .u64 (wd s 3 : Int)] 32)).alloc (.cells #[.int .u64 (wd p 0 : Int),.int .u64 (wd p 1 : Int),.int .u64 (wd p 2 : Int),.int .u64 (wd p 3 : Int)] 29) := ⟨_,rfl⟩
    have o1 : Off (fun _ => False) u0 W1 := by rw [hW1]; exact ((Off.refl _ u0).alloc _).alloc _
    have g_F : W1.heap[u0.heap.size]? = some (.cells #[.int .i64 id,.int .u64 (wd p 0 : Int),.int .u64 (wd p 1 : Int),.int .u64 (wd p 2 : Int),.int .u64 (wd p 3 : Int),.int .u64 (i : Int),.int .u64 (wd r 0 : Int),.int .u64 (wd r 1 : Int),.int .u64 (wd r 2 : Int),.int .u64 (wd r 3 : Int),.int .u64 (wd s 0 : Int),.int .u64 (wd s 1 : Int),.int .u64 (wd s 2 : Int),.int .u64 (wd s 3 : Int)] 32 (0,0)) := by rw [hW1]; exact heap_old' (heap_new' rfl _) _
    have g_P : W1.heap[u0.heap.size + 1]? = some (.cells #[.int .u64 (wd p 0 : Int),.int .u64 (wd p 1 : Int),.int .u64 (wd p 2 : Int),.int .u64 (wd p 3 : Int)] 29 (0,0)) := by rw [hW1]; exact heap_new' (by simp) _
    obtain ⟨fb,hfb⟩ : ∃ fb,fb = u0.heap.size := ⟨_,rfl⟩
    obtain ⟨pb,hpb⟩ : ∃ pb,pb = u0.heap.size + 1 := ⟨_,rfl⟩
    rw [<- hfb] at g_F
    rw [<- hpb] at g_P
    have hOw := hO1.trans o1 (fun _ _ c => c)
    clear hO1 o1
    rw [hW1] at hOw g_F g_P
    go_wp2_with fail
    rw [<- hW1] at hOw g_F g_P ⊢
    rw [<- hpb,<- hfb]
    refine (FV2.out _ _ (HL2.out.off hOw)).mono ?_
    rintro e u1 ⟨z1,z2,rfl,h_z1,h_z2,hO1⟩
    have g_F := hO1.heap g_F (fun c => c)
    have g_P := hO1.heap g_P (fun c => c)
    have hOw := hOw.trans hO1 (fun _ _ c => c)
    clear hW1 hfb hpb
    clear hO1
    obtain ⟨f0,f1,f2,f3,f4,f5,f6,f7,f8,f9,f10,f11,f12,f13⟩ := fv_cells g_F
    have hlf := heap_lt g_F
    have H_z1 := Lib.hid h_z1
    have H_z2 := Lib.hid h_z2
    have GF := Lib.hid g_F
    have GP := Lib.hid g_P
    have HOw := Lib.hid hOw
    clear g_F g_P hOw h_z1 h_z2
    go_wp2_with fail
    clear f0 f1 f2 f3 f4 f5 f6 f7 f8 f9 f10 f11 f12 f13 hlf
    have h_z1 := H_z1.out
    have h_z2 := H_z2.out
    have g_F := GF.out
    have g_P := GP.out
    have hOw := HOw.out
    clear GF GP HOw H_z1 H_z2
    refine (FI.out _ _ _ (HL.out.off hOw) h_z2).mono ?_
    rintro e u2 ⟨rfl,hO1⟩
    have g_F := hO1.heap g_F (fun c => c)
    have g_P := hO1.heap g_P (fun c => c)
    have hOw := hOw.trans hO1 (fun _ _ c => c)
    have h_z1 := h_z1.off hO1
    clear hO1 h_z2
    have H_z1 := Lib.hid h_z1
    have GF := Lib.hid g_F
    have GP := Lib.hid g_P
    have HOw := Lib.hid hOw
    clear g_F g_P hOw h_z1
    go_wp2_with fail
    have h_z1 := H_z1.out
    have g_F := GF.out
    have g_P := GP.out
    have hOw := HOw.out
    clear GF GP HOw H_z1
    refine (FC.out _ (HL.out.off hOw)).mono ?_
    rintro e u3 ⟨rfl,hO1⟩
    have g_F := hO1.heap g_F (fun c => c)
    have g_P := hO1.heap g_P (fun c => c)
    have hOw := hOw.trans hO1 (fun _ _ c => c)
    have h_z1 := h_z1.off hO1
    clear hO1
    clear h_z1 g_F g_P
    have HOx := Lib.hid hOw
    clear hOw
    go_wp2_with fail
    refine (FAL.out _ (HTw.out.off HOx.out)).mono ?_
    rintro e u4 ⟨rfl,hO1⟩
    have HOf := Lib.hid (HOx.out.trans hO1 (fun _ _ c => c))
    clear hO1
    go_wp2
    go_ret
    exact ⟨rfl,HOf.out⟩

theorem door_met (os : Os) (args : Array Value) : laidMetH Tryd.prog [("sharecore/field.fields",Rows.laid_sharecore_field_fields)] ((World.doorLaid Tryd.prog 400 os).forCall (fun _ _ => 0) ⟨#[],args,[]⟩).memory :=
 laidMetH_of_parts3 (fuel := 8) (laidMet_of_run' 8 (by kernel_rfl) (by kernel_rfl)) (by kernel_rfl) (by kernel_rfl)

set_option maxRecDepth 100000 in
theorem lifted (os : Os) (started : os.Started) (H : Type) (enc : TypeId × Value -> H) :
  ReturnsInHanded {} Tryd.checked os 5 .any (fun w args => (Rows.lagrangeInterpolatesSpec.pre enc Tryd.prog Tryd.f5 [] false w args /\ laidMetH Tryd.prog [("sharecore/field.fields",Rows.laid_sharecore_field_fields)] w) /\ sizedMet enc Tryd.prog Tryd.f5 (OpenSpec.ofChange Rows.lagrangeInterpolatesSpec) false w args)
   (Rows.lagrangeInterpolatesSpec.post enc Tryd.prog Tryd.f5 false true false false) := by
 refine returnsInHanded_of_change_and (C := Tryd.checked) (X := fun w _ => laidMetH Tryd.prog [("sharecore/field.fields",Rows.laid_sharecore_field_fields)] w) (fun _ _ _ hh h => h.of_heap hh) own started (by kernel_rfl) Tryd.func5
  (ChangeSpec.witness_shaped (enc := enc) (C := Tryd.checked) (os := os) (X := fun w _ => laidMetH Tryd.prog [("sharecore/field.fields",Rows.laid_sharecore_field_fields)] w) false (World.doorLaid Tryd.prog 400 os) #[.bool false,.slice none 0 0,.slice none 0 0] 8 rfl (World.shaped_of_RefB (by kernel_rfl) (by kernel_rfl)) (by kernel_rfl) (by kernel_rfl) (by kernel_rfl) (door_met os _)) ?_
 intro W base args ds gs before hval0 hW _ _ hL _
 have hval : ∀ (j : Nat) t v,Tryd.f5.params[j]? = some t -> args[j]? = some v -> Value.okWide Tryd.prog W .any base t v := hval0
 have hW' := hW
 obtain ⟨p,q,hA0,hV,rfl,hfz,hnd⟩ := hW
 have hA : DataW.TrodAll enc Tryd.prog W 0 (fun _ => true) true Tryd.f5.params.toList args.toList ds p := hA0
 rw [Tryd.params5] at hA hval
 obtain ⟨v0,vs0,d0,ds0,p0,q0,hargs,rfl,rfl,h0,r0⟩ := trodAll_cons hA
 obtain ⟨v1,vs1,d1,ds1,p1,q1,rfl,rfl,rfl,h1,r1⟩ := trodAll_cons r0
 obtain ⟨v2,vs2,d2,ds2,p2,q2,rfl,rfl,rfl,h2,r2⟩ := trodAll_cons r1
 obtain ⟨rfl,rfl,rfl⟩ := trodAll_nil r2
 obtain rfl : args = #[v0,v1,v2] := by cases args; simp_all
 obtain ⟨rfl,rfl⟩ := trodVars_none hV
 obtain ⟨i0,rfl,rfl,rfl⟩ := open_bool Tryd.underlying4 (hval 0 4 v0 rfl rfl) h0
 have w0 := trivial
 obtain ⟨a1,n1,cap1,rfl⟩ := okWide_slice Tryd.underlying22 (hval 1 22 v1 rfl rfl)
 have k1 := h1
 have lt1 : ∀ x ∈ p1,x.block < W.heap.size := by obtain ⟨m,hm⟩ := k1; exact DataW.trod_lt m _ _ _ hm
 obtain ⟨is1,hn1,w1⟩ : ∃ xs,n1 = xs.length /\ IvAt W (.slice a1 n1 cap1) xs (fun k => k < W.heap.size) := by
  obtain ⟨fuel,hf⟩ := h1
  exact ints_of_trod hf
 obtain ⟨a2,n2,cap2,rfl⟩ := okWide_slice Tryd.underlying39 (hval 2 39 v2 rfl rfl)
 have k2 := h2
 have lt2 : ∀ x ∈ p2,x.block < W.heap.size := by obtain ⟨m,hm⟩ := k2; exact DataW.trod_lt m _ _ _ hm
 obtain ⟨xs2,hn2,w2⟩ : ∃ xs,n2 = xs.length /\ VsAt W (.slice a2 n2 cap2) xs (fun k => k < W.heap.size) := by
  obtain ⟨fuel,hf⟩ := h2
  exact vecs_of_trod hf
 have hT := tab_of_laid hL
 clear hA0 hval0
 refine (walk i0 a1 n1 cap1 is1 a2 n2 cap2 xs2 W w0 hn1 w1 hn2 w2 hT).mono fun e W' ⟨he,hoff⟩ => ?_
 have bel : Below W.heap.size W W' := hoff.below (Nat.le_refl _) (fun _ _ c => c)
 subst he
 exact ⟨_,rfl,_,_,_,[],_,[],hW',trodAll_mk1 (shut_bool Tryd.underlying4 _),(trodAll_cons_mk (shut_bool Tryd.underlying4 _) (trodAll_cons_mk (Below.trod laidOut (by kernel_rfl) (of_decide_eq_true (by kernel_rfl)) k1 bel lt1) (trodAll_cons_mk (Below.trod laidOut (by kernel_rfl) (of_decide_eq_true (by kernel_rfl)) k2 bel lt2) trodAll_mk0))),rfl,bel.frame _,fun h => by cases h⟩

theorem over : Rows.lagrangeInterpolatesRow.holds Tryd.pinned (OpenSpec.ofChange Rows.lagrangeInterpolatesSpec) :=
 OpenClaim.holds_of_wide 5 Tryd.f5 rfl rfl rfl rfl rfl rfl rfl ⟨rfl,rfl,rfl,rfl,rfl⟩ rfl rfl rfl rfl rfl (by kernel_rfl) Tryd.func5 (by kernel_rfl)
  (of_decide_eq_true (by kernel_rfl)) (by unfold Func.isWrapper; first | (rw [if_pos (by decide +kernel)]; kernel_rfl) | (rw [if_neg (by decide +kernel)]; exact ⟨rfl,rfl⟩))
  (fun os started H enc _ => lifted os started H enc)

theorem proved : Rows.LagrangeInterpolatesCardSaid :=
 Claim7.holds_tied_plain_at .later [] [.data] true (true,"52e3f175f7e7c68eca78e9b4b0e19955f01f7bfa3cfafd6aaba7d864c2871f24") false
  over (fun _ h => by cases h) (by kernel_rfl) (fun _ h => by cases h) lagrangeInterpolates_row_tie rfl ⟨rfl,rfl⟩ (by kernel_rfl) rfl
  (fun f fn hf hfn => by
   obtain rfl : f = 5 := Option.some.inj ((show Tryd.prog.funcNamed "sharecore/sharecorelaw09.LagrangeInterpolates" = some 5 by kernel_rfl).symm.trans hf) |>.symm
   obtain rfl : fn = Tryd.f5 := (Option.some.inj (Tryd.func5.symm.trans hfn)).symm
   exact ⟨by kernel_rfl,fun j t ht => by
    rw [Tryd.params5] at ht
    have hm : t ∈ [4,22,39] := by simpa using Array.mem_of_getElem? ht
    have hall : ([4,22,39].all fun u => !Tryd.prog.wantsStandIn u) = true := by kernel_rfl
    exact (show Tryd.prog.wantsStandIn t = false by simpa using List.all_eq_true.1 hall t hm)⟩)
  (by kernel_rfl)
#print axioms proved
end Go.Proofs.YtcebegfnplplcaaDoor.lagrangeInterpolates
-- squeezed
