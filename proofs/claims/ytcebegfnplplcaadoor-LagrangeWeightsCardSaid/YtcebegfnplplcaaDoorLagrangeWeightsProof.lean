/-
  For every field and list of numbers, the examples of the chapter hold, and Weights and Zero return the elements, or the error, of the reference: the statement of P9.2. No condition.
-/
import Derived.Test.YtcebegfnplplcaaDoorRows
import Derived.Test.YtcebegfnplplcaaDoorTie
import Derived.Test.YtcebegfnplplcaaDoorCards
import Derived.LaidMore
import Derived.LaidHandle
import Derived.SevenTiedAt
import Derived.Stop.Joined
import Derived.JoinedOf
import Derived.Test.YtcebegfnplplcaaDoorLimbWords
import Derived.Test.YtcebegfnplplcaaDoorIntAll
import Derived.Test.YtcebegfnplplcaaDoorFieldTab
import Derived.Test.YtcebegfnplplcaaDoorFieldHeld
import Derived.Test.YtcebegfnplplcaaDoorLagAlive
import Derived.Test.YtcebegfnplplcaaDoorLagBase
import Derived.Test.YtcebegfnplplcaaDoorLagProg
import Derived.Test.YtcebegfnplplcaaDoorLagRefs
import Derived.Test.YtcebegfnplplcaaDoorInvAll
import Derived.WalkKit
import Derived.ProofKit
import Derived.OpenShut
import Derived.ShutString
import Derived.ChangeOld
import Derived.Below
namespace Go.Proofs.YtcebegfnplplcaaDoor.lagrangeWeights
open Go.ChangeShapes Go.WideShapes Go.ChangeAt Go.RowKit
set_option linter.unusedVariables false

theorem own : ownKnob Tryd.prog.godebug = none := by kernel_rfl
theorem laidOut : laidOutB Tryd.prog = true := by kernel_rfl

theorem refwts_ls {p : Nat} (hp : p < R256) (hbig : 256 <= p) (xs : List Int) (hr : ∀ x ∈ xs,1 <= x /\ x <= 255) (hl : xs.length <= 10000) (v : Value) (w : World) (hV : Iv w v xs) :
  Calls Tryd.prog 16 #[V p,v] w fun e w' => ∃ z,e = .returned z /\ Ls w' z (wgtL p (ptV xs)) /\ Off (fun _ => False) w w' := by
 refine (refwts_any hp hbig xs hr hl v w hV).mono ?_
 rintro e w' ⟨a,c,B,rfl,_,hown,hO⟩
 have hlen : (wgtL p (ptV xs)).length = xs.length := by simp [wgtL,ptV]
 exact ⟨_,rfl,Ls.of (ls_of_own hown hlen.symm (by omega)),hO⟩
set_option maxRecDepth 100000 in
set_option maxHeartbeats 4000000 in
theorem walk (i0 : Bool) (a1 : Option Addr) (n1 cap1 : Nat) (is1 : List Int) (w : World) (w0 : True) (hn1 : n1 = is1.length) (w1 : IvAt w (.slice a1 n1 cap1) is1 (fun k => k < w.heap.size)) (hT : TabAt w) :
  Calls Tryd.prog 4 #[.bool i0,.slice a1 n1 cap1] w fun e w' => e = .returned (.bool true) /\ Off (fun _ => False) w w' := by
 obtain ⟨id,p,i,r,s,hF,hid⟩ := fld_of i0
 have hp := hF.mp.lt
 have h1 := hF.mp.one
 have hp0 : 0 < p := by omega
 obtain ⟨_,_,_,hbig⟩ := fld_full hF
 have FG := Lib.hid (fun W hT => get9_any i0 hF hid W hT)
 have FAL : Hid (∀ W,TabAt W -> Calls Tryd.prog 9 #[] W fun e w' => e = .returned (.bool true) /\ Off (fun _ => False) W w') := Lib.hid (fun W hT => alive9_any W hT)
 have HL := Lib.hid (Iv.of w1)
 by_cases hmx : 6 < n1
 ·have hbi : decide ((6 : Int) < (n1 : Int)) = true := by simp; omega
  have hbp : (6 : Int) < (n1 : Int) := by omega
  clear hn1 w1 HL hmx hF hid hp h1 hp0 FG hbig
  go_enter Tryd.func4,Tryd.ntmps4
  go_wp2_with fail
  refine (FAL.out _ (hT.off (Off.refl _ w))).mono ?_
  rintro e u0 ⟨rfl,hO⟩
  have HO := Lib.hid ((Off.refl _ w : Off (fun _ => False) w _).trans hO (fun _ _ c => c))
  clear hO
  go_wp2
  go_ret
  exact ⟨rfl,HO.out⟩
 ·have hbi : decide ((6 : Int) < (n1 : Int)) = false := by simp; omega
  have hbp : ¬ (6 : Int) < (n1 : Int) := by omega
  obtain ⟨v1,hv1⟩ : ∃ v : Value,v = .slice a1 n1 cap1 := ⟨_,rfl⟩
  have HLv := Lib.hid (show Iv w v1 is1 by rw [hv1]; exact HL.out)
  have HV1 := Lib.hid hv1
  have FCk := Lib.hid (show ∀ W,Iv W v1 is1 -> Calls Tryd.prog 11 #[v1] W fun e w' => e = .returned (.int .i64 (chkV is1)) /\ Off (fun _ => False) W w' from fun W h => refcheck_any is1 (by omega) v1 W h)
  have HTw := Lib.hid hT
  by_cases hc : chkV is1 = 0
  ·obtain ⟨hr,hnd⟩ := chkV_zero hc
   obtain ⟨wl,hwl⟩ : ∃ l,l = wgtL p (ptV is1) := ⟨_,rfl⟩
   obtain ⟨zl,hzl⟩ : ∃ l,l = zerL p (ptV is1) := ⟨_,rfl⟩
   have FC := Lib.hid (show ∀ W,Iv W (.slice a1 n1 cap1) is1 -> Calls Tryd.prog 11 #[.slice a1 n1 cap1] W fun e w' => e = .returned (.int .i64 0) /\ Off (fun _ => False) W w' from fun W h => by have g := refcheck_any is1 (by omega) _ W h; rw [hc] at g; exact g)
   have FW := Lib.hid (show ∀ W v,Iv W v is1 -> Calls Tryd.prog 13 #[.pointer none,FV id p i r s,v] W fun e w' => ∃ u,e = .returned (.tuple #[u,.int .i64 0]) /\ Ls w' u (wl.map (fm p)) /\ Off (fun _ => False) W w' from fun W v h => by rw [hwl]; exact weights_ls hF is1 hc (by omega) v W h)
   have FZ := Lib.hid (show ∀ W v,Iv W v is1 -> Calls Tryd.prog 14 #[.pointer none,FV id p i r s,v] W fun e w' => ∃ u,e = .returned (.tuple #[u,.int .i64 0]) /\ Ls w' u (zl.map (fm p)) /\ Off (fun _ => False) W w' from fun W v h => by rw [hzl]; exact zero_ls hF is1 hc (by omega) v W h)
   have FRW := Lib.hid (show ∀ W v,Iv W v is1 -> Calls Tryd.prog 16 #[V p,v] W fun e w' => ∃ z,e = .returned z /\ Ls w' z wl /\ Off (fun _ => False) W w' from fun W v h => by rw [hwl]; exact refwts_ls hp hbig is1 hr (by omega) v W h)
   have FRZ := Lib.hid (show ∀ W v,Iv W v is1 -> Calls Tryd.prog 17 #[V p,v] W fun e w' => ∃ z,e = .returned z /\ Ls w' z zl /\ Off (fun _ => False) W w' from fun W v h => by rw [hzl]; exact refzer_any hp hbig is1 hr (by omega) v W h)
   have FSw := Lib.hid (show ∀ W u v,Ls W u (wl.map (fm p)) -> Ls W v wl -> Calls Tryd.prog 15 #[V p,u,v] W fun e w' => e = .returned (.bool true) /\ Off (fun _ => False) W w' from fun W u v h k => same9_any hp h1 wl (by rw [hwl]; exact fun x hx => Nat.lt_trans (wgtL_lt hp0 _ x hx) hp) u v W h k)
   have FSz := Lib.hid (show ∀ W u v,Ls W u (zl.map (fm p)) -> Ls W v zl -> Calls Tryd.prog 15 #[V p,u,v] W fun e w' => e = .returned (.bool true) /\ Off (fun _ => False) W w' from fun W u v h k => same9_any hp h1 zl (by rw [hzl]; exact fun x hx => Nat.lt_trans (zerL_lt hp0 _ x hx) hp) u v W h k)
   clear hc hr hnd hwl hzl hF hid hp h1 hp0 hbig hn1 w1 HLv FCk hv1 HV1 hmx v1
   go_enter Tryd.func4,Tryd.ntmps4
   go_wp2_with fail
   refine (FG.out _ (hT.off (Off.refl _ w))).mono ?_
   rintro e u0 ⟨rfl,hO1⟩
   obtain ⟨W1,hW1⟩ : ∃ W1,W1 = (u0.alloc (.cells #[.int .i64 id,.int .u64 (wd p 0 : Int),.int .u64 (wd p 1 : Int),.int .u64 (wd p 2 : Int),.int .u64 (wd p 3 : Int),.int .u64 (i : Int),.int .u64 (wd r 0 : Int),.int .u64 (wd r 1 : Int),.int .u64 (wd r 2 : Int),.int .u64 (wd r 3 : Int),.int .u64 (wd s 0 : Int),.int .u64 (wd s 1 : Int),.int .u64 (wd s 2 : Int),.int .u64 (wd s 3 : Int)] 32)).alloc (.cells #[.int .u64 (wd p 0 : Int),.int .u64 (wd p 1 : Int),.int .u64 (wd p 2 : Int),.int .u64 (wd p 3 : Int)] 29) := ⟨_,rfl⟩
   have o1 : Off (fun _ => False) u0 W1 := by rw [hW1]; exact ((Off.refl _ u0).alloc _).alloc _
   have g_F : W1.heap[u0.heap.size]? = some (.cells #[.int .i64 id,.int .u64 (wd p 0 : Int),.int .u64 (wd p 1 : Int),.int .u64 (wd p 2 : Int),.int .u64 (wd p 3 : Int),.int .u64 (i : Int),.int .u64 (wd r 0 : Int),.int .u64 (wd r 1 : Int),.int .u64 (wd r 2 : Int),.int .u64 (wd r 3 : Int),.int .u64 (wd s 0 : Int),.int .u64 (wd s 1 : Int),.int .u64 (wd s 2 : Int),.int .u64 (wd s 3 : Int)] 32 (0,0)) := by rw [hW1]; exact heap_old' (heap_new' rfl _) _
   have g_P : W1.heap[u0.heap.size + 1]? = some (.cells #[.int .u64 (wd p 0 : Int),.int .u64 (wd p 1 : Int),.int .u64 (wd p 2 : Int),.int .u64 (wd p 3 : Int)] 29 (0,0)) := by rw [hW1]; exact heap_new' (by simp) _
   obtain ⟨fb,hfb⟩ : ∃ fb,fb = u0.heap.size := ⟨_,rfl⟩
   obtain ⟨pb,hpb⟩ : ∃ pb,pb = u0.heap.size + 1 := ⟨_,rfl⟩
   rw [<- hfb] at g_F
   rw [<- hpb] at g_P
   have hOw := hO1.trans o1 (fun _ _ c => c)
   clear hO1 o1
   rw [hW1] at hOw g_F g_P
   go_wp2_with fail
   rw [<- hW1] at hOw g_F g_P ⊢
   rw [<- hpb,<- hfb]
   refine (FW.out _ _ (HL.out.off hOw)).mono ?_
   rintro e u1 ⟨zw,rfl,h_zw,hO1⟩
   have g_F := hO1.heap g_F (fun c => c)
   have g_P := hO1.heap g_P (fun c => c)
   have hOw := hOw.trans hO1 (fun _ _ c => c)
   clear hW1 hfb hpb
   clear hO1
   obtain ⟨f0,f1,f2,f3,f4,f5,f6,f7,f8,f9,f10,f11,f12,f13⟩ := fv_cells g_F
   have hlf := heap_lt g_F
   have H_zw := Lib.hid h_zw
   have GF := Lib.hid g_F
   have GP := Lib.hid g_P
   have HOw := Lib.hid hOw
   clear g_F g_P hOw h_zw
   go_wp2_with fail
   clear f0 f1 f2 f3 f4 f5 f6 f7 f8 f9 f10 f11 f12 f13 hlf
   have h_zw := H_zw.out
   have g_F := GF.out
   have g_P := GP.out
   have hOw := HOw.out
   clear GF GP HOw H_zw
   refine (FZ.out _ _ (HL.out.off hOw)).mono ?_
   rintro e u2 ⟨zz,rfl,h_zz,hO1⟩
   have g_F := hO1.heap g_F (fun c => c)
   have g_P := hO1.heap g_P (fun c => c)
   have hOw := hOw.trans hO1 (fun _ _ c => c)
   have h_zw := h_zw.off hO1
   clear hO1
   have H_zw := Lib.hid h_zw
   have H_zz := Lib.hid h_zz
   have GF := Lib.hid g_F
   have GP := Lib.hid g_P
   have HOw := Lib.hid hOw
   clear g_F g_P hOw h_zw h_zz
   go_wp2_with fail
   have h_zw := H_zw.out
   have h_zz := H_zz.out
   have g_F := GF.out
   have g_P := GP.out
   have hOw := HOw.out
   clear GF GP HOw H_zw H_zz
   refine (FC.out _ (HL.out.off hOw)).mono ?_
   rintro e u3 ⟨rfl,hO1⟩
   have g_F := hO1.heap g_F (fun c => c)
   have g_P := hO1.heap g_P (fun c => c)
   have hOw := hOw.trans hO1 (fun _ _ c => c)
   have h_zw := h_zw.off hO1
   have h_zz := h_zz.off hO1
   clear hO1
   have HTW := Lib.hid (fun W (h : Off (fun _ => False) u3 W) => HTw.out.off (hOw.trans h (fun _ _ c => c)))
   have HK : Hid (∀ W',Off (fun _ => False) u3 W' -> (W'.cell? ⟨fb,0,none⟩ = some (.int .i64 id) /\ W'.cell? ⟨fb,1,none⟩ = some (.int .u64 (wd p 0 : Int)) /\ W'.cell? ⟨fb,2,none⟩ = some (.int .u64 (wd p 1 : Int)) /\ W'.cell? ⟨fb,3,none⟩ = some (.int .u64 (wd p 2 : Int)) /\ W'.cell? ⟨fb,4,none⟩ = some (.int .u64 (wd p 3 : Int)) /\ W'.cell? ⟨fb,5,none⟩ = some (.int .u64 (i : Int)) /\ W'.cell? ⟨fb,6,none⟩ = some (.int .u64 (wd r 0 : Int)) /\ W'.cell? ⟨fb,7,none⟩ = some (.int .u64 (wd r 1 : Int)) /\ W'.cell? ⟨fb,8,none⟩ = some (.int .u64 (wd r 2 : Int)) /\ W'.cell? ⟨fb,9,none⟩ = some (.int .u64 (wd r 3 : Int)) /\ W'.cell? ⟨fb,10,none⟩ = some (.int .u64 (wd s 0 : Int)) /\ W'.cell? ⟨fb,11,none⟩ = some (.int .u64 (wd s 1 : Int)) /\ W'.cell? ⟨fb,12,none⟩ = some (.int .u64 (wd s 2 : Int)) /\ W'.cell? ⟨fb,13,none⟩ = some (.int .u64 (wd s 3 : Int))) /\ (W'.cell? ⟨pb,0,none⟩ = some (.int .u64 (wd p 0 : Int)) /\ W'.cell? ⟨pb,1,none⟩ = some (.int .u64 (wd p 1 : Int)) /\ W'.cell? ⟨pb,2,none⟩ = some (.int .u64 (wd p 2 : Int)) /\ W'.cell? ⟨pb,3,none⟩ = some (.int .u64 (wd p 3 : Int))) /\ Off (fun _ => False) u3 W') := Lib.hid (fun W' h => ⟨fv_cells (h.heap g_F (fun c => c)),cells4 (h.heap g_P (fun c => c)),h⟩)
   have HOw := Lib.hid hOw
   have FR1 := Lib.hid (show ∀ W,Off (fun _ => False) u3 W -> _ from fun W h => FRW.out W _ (HL.out.off (hOw.trans h (fun _ _ c => c))))
   have FR2 := Lib.hid (show ∀ W,Off (fun _ => False) u3 W -> _ from fun W h => FRZ.out W _ (HL.out.off (hOw.trans h (fun _ _ c => c))))
   have FS1 := Lib.hid (show ∀ W v,Off (fun _ => False) u3 W -> Ls W v wl -> _ from fun W v h k => FSw.out W zw v (h_zw.off h) k)
   have FS2 := Lib.hid (show ∀ W v,Off (fun _ => False) u3 W -> Ls W v zl -> _ from fun W v h k => FSz.out W zz v (h_zz.off h) k)
   clear g_F g_P hOw h_zw h_zz FRW FRZ FSw FSz FW FZ FC FG HL HTw hT
   go_upto_region 9 with fail
   obtain ⟨x58,hx⟩ : ∃ x : Value,x = .bool true := ⟨_,rfl⟩
   have X58 := Lib.hid hx
   clear hx
   obtain ⟨x59,hx⟩ : ∃ x : Value,x = .bool true := ⟨_,rfl⟩
   have X59 := Lib.hid hx
   clear hx
   obtain ⟨x60,hx⟩ : ∃ x : Value,x = .int .i64 0 := ⟨_,rfl⟩
   have X60 := Lib.hid hx
   clear hx
   obtain ⟨x61,hx⟩ : ∃ x : Value,x = .bool true := ⟨_,rfl⟩
   have X61 := Lib.hid hx
   clear hx
   obtain ⟨x62,hx⟩ : ∃ x : Value,x = .bool true := ⟨_,rfl⟩
   have X62 := Lib.hid hx
   clear hx
   obtain ⟨x63,hx⟩ : ∃ x : Value,x = .bool true := ⟨_,rfl⟩
   have X63 := Lib.hid hx
   clear hx
   obtain ⟨x64,hx⟩ : ∃ x : Value,x = .int .i64 0 := ⟨_,rfl⟩
   have X64 := Lib.hid hx
   clear hx
   obtain ⟨x65,hx⟩ : ∃ x : Value,x = .bool true := ⟨_,rfl⟩
   have X65 := Lib.hid hx
   clear hx
   obtain ⟨x66,hx⟩ : ∃ x : Value,x = .bool true := ⟨_,rfl⟩
   have X66 := Lib.hid hx
   clear hx
   obtain ⟨x67,hx⟩ : ∃ x : Value,x = .bool true := ⟨_,rfl⟩
   have X67 := Lib.hid hx
   clear hx
   obtain ⟨x68,hx⟩ : ∃ x : Value,x = V p := ⟨_,rfl⟩
   have X68 := Lib.hid hx
   clear hx
   obtain ⟨x69,hx⟩ : ∃ x : Value,x = zw := ⟨_,rfl⟩
   have X69 := Lib.hid hx
   clear hx
   obtain ⟨x70,hx⟩ : ∃ x : Value,x = V p := ⟨_,rfl⟩
   have X70 := Lib.hid hx
   clear hx
   obtain ⟨x71,hx⟩ : ∃ x : Value,x = .slice a1 n1 cap1 := ⟨_,rfl⟩
   have X71 := Lib.hid hx
   clear hx
   obtain ⟨x73,hx⟩ : ∃ x : Value,x = .bool true := ⟨_,rfl⟩
   have X73 := Lib.hid hx
   clear hx
   obtain ⟨x74,hx⟩ : ∃ x : Value,x = .bool true := ⟨_,rfl⟩
   have X74 := Lib.hid hx
   clear hx
   obtain ⟨x75,hx⟩ : ∃ x : Value,x = .bool true := ⟨_,rfl⟩
   have X75 := Lib.hid hx
   clear hx
   obtain ⟨x76,hx⟩ : ∃ x : Value,x = V p := ⟨_,rfl⟩
   have X76 := Lib.hid hx
   clear hx
   obtain ⟨x77,hx⟩ : ∃ x : Value,x = zz := ⟨_,rfl⟩
   have X77 := Lib.hid hx
   clear hx
   obtain ⟨x78,hx⟩ : ∃ x : Value,x = V p := ⟨_,rfl⟩
   have X78 := Lib.hid hx
   clear hx
   obtain ⟨x79,hx⟩ : ∃ x : Value,x = .slice a1 n1 cap1 := ⟨_,rfl⟩
   have X79 := Lib.hid hx
   clear hx
   obtain ⟨x81,hx⟩ : ∃ x : Value,x = .bool true := ⟨_,rfl⟩
   have X81 := Lib.hid hx
   clear hx
   obtain ⟨x82,hx⟩ : ∃ x : Value,x = .bool true := ⟨_,rfl⟩
   have X82 := Lib.hid hx
   clear hx
   obtain ⟨x4,hx⟩ : ∃ x : Value,x = .bool true := ⟨_,rfl⟩
   have X4 := Lib.hid hx
   clear hx
   refine wp_region_inv (fun a0 l a' w' => ∃ (u72 : Value),∃ (u80 : Value),a' = (Act.put (fill a0 58 [sel (l 0) x58 undef,sel (l 1) x59 undef,sel (l 2) x60 undef,sel (l 3) x61 undef,sel (l 4) x62 undef,sel (l 5) x63 undef,sel (l 6) x64 undef,sel (l 7) x65 undef,sel (l 8) x66 undef,sel (l 9) x67 undef,sel (l 10) x68 undef,sel (l 11) x69 undef,sel (l 12) x70 undef,sel (l 13) x71 undef,sel (l 14) u72 undef,sel (l 15) x73 undef,sel (l 16) x74 undef,sel (l 17) x75 undef,sel (l 18) x76 undef,sel (l 19) x77 undef,sel (l 20) x78 undef,sel (l 21) x79 undef,sel (l 22) u80 undef,sel (l 23) x81 undef,sel (l 24) x82 undef]) (some 4) (sel (l 25) x4 (.bool false))) /\ Lk l 14 u72 w' (wl) /\ Lk l 22 u80 w' (zl) /\ Off (fun _ => False) u3 w') (by kernel_rfl) (by kernel_rfl) ?_ ⟨?_,?_,?_,?_,?_,?_,?_,?_,?_,?_,?_,?_,?_,?_,?_,?_,?_,?_,?_,?_,?_,?_,?_,?_,?_,?_,trivial⟩ ?_
   ·refine ⟨undef,undef,?_,Lk.start _ _ _ _,Lk.start _ _ _ _,(Off.refl _ u3).drew⟩
    simp only [fill_eq,List.take_succ_cons,List.take_zero,List.cons_append,List.nil_append,Act.put,List.setIfInBounds_toArray,List.set_cons_zero,List.set_cons_succ,sel_start]
   ·as_aux_lemma =>
     rintro l a wr ⟨u72,u80,ha,M14,M22,hO⟩ hl hd K' hK
     have hx := X58.out; subst hx
     simp only [fill_eq,List.take_succ_cons,List.take_zero,List.cons_append,List.nil_append,Act.put,List.setIfInBounds_toArray,List.set_cons_zero,List.set_cons_succ] at ha
     subst ha
     rw [if_pos (by rfl)]
     go_simp
     refine (held_inv (FAL.out wr (HTW.out wr hO)) hO).mono ?_
     rintro e w1 ⟨rfl,hO1,hOW⟩
     go_wp2_with fail
     refine hK.out _ _ ⟨u72,u80,?_,M14.keep hOW rfl,M22.keep hOW rfl,hO1⟩
     simp only [fill_eq,List.take_succ_cons,List.take_zero,List.cons_append,List.nil_append,Act.put,List.setIfInBounds_toArray,List.set_cons_zero,List.set_cons_succ,sel_new]
     rfl
   ·as_aux_lemma =>
     rintro l a wr ⟨u72,u80,ha,M14,M22,hO⟩ hl hd K' hK
     have d0 := hd 0 (by decide)
     have hx := X58.out; subst hx
     have hx := X59.out; subst hx
     simp only [fill_eq,List.take_succ_cons,List.take_zero,List.cons_append,List.nil_append,Act.put,List.setIfInBounds_toArray,List.set_cons_zero,List.set_cons_succ,sel_of d0] at ha
     subst ha
     rw [if_pos (by rfl)]
     go_simp
     refine hK.out _ _ ⟨u72,u80,?_,M14.keep (Off.refl _ wr) rfl,M22.keep (Off.refl _ wr) rfl,hO⟩
     simp only [fill_eq,List.take_succ_cons,List.take_zero,List.cons_append,List.nil_append,Act.put,List.setIfInBounds_toArray,List.set_cons_zero,List.set_cons_succ,sel_new,sel_dep d0]
     rfl
   ·as_aux_lemma =>
     rintro l a wr ⟨u72,u80,ha,M14,M22,hO⟩ hl hd K' hK
     have d1 := hd 1 (by decide)
     have hx := X59.out; subst hx
     have hx := X60.out; subst hx
     simp only [fill_eq,List.take_succ_cons,List.take_zero,List.cons_append,List.nil_append,Act.put,List.setIfInBounds_toArray,List.set_cons_zero,List.set_cons_succ,sel_of d1] at ha
     subst ha
     rw [if_pos (by rfl)]
     go_simp
     refine hK.out _ _ ⟨u72,u80,?_,M14.keep (Off.refl _ wr) rfl,M22.keep (Off.refl _ wr) rfl,hO⟩
     simp only [fill_eq,List.take_succ_cons,List.take_zero,List.cons_append,List.nil_append,Act.put,List.setIfInBounds_toArray,List.set_cons_zero,List.set_cons_succ,sel_new,sel_dep d1]
     rfl
   ·as_aux_lemma =>
     rintro l a wr ⟨u72,u80,ha,M14,M22,hO⟩ hl hd K' hK
     have d1 := hd 1 (by decide)
     have d2 := hd 2 (by decide)
     have hx := X59.out; subst hx
     have hx := X60.out; subst hx
     have hx := X61.out; subst hx
     simp only [fill_eq,List.take_succ_cons,List.take_zero,List.cons_append,List.nil_append,Act.put,List.setIfInBounds_toArray,List.set_cons_zero,List.set_cons_succ,sel_of d1,sel_of d2] at ha
     subst ha
     rw [if_pos (by rfl)]
     go_simp
     refine hK.out _ _ ⟨u72,u80,?_,M14.keep (Off.refl _ wr) rfl,M22.keep (Off.refl _ wr) rfl,hO⟩
     simp only [fill_eq,List.take_succ_cons,List.take_zero,List.cons_append,List.nil_append,Act.put,List.setIfInBounds_toArray,List.set_cons_zero,List.set_cons_succ,sel_new,sel_dep d1,sel_dep d2]
     rfl
   ·as_aux_lemma =>
     rintro l a wr ⟨u72,u80,ha,M14,M22,hO⟩ hl hd K' hK
     have d1 := hd 1 (by decide)
     have d3 := hd 3 (by decide)
     have hx := X59.out; subst hx
     have hx := X61.out; subst hx
     have hx := X62.out; subst hx
     simp only [fill_eq,List.take_succ_cons,List.take_zero,List.cons_append,List.nil_append,Act.put,List.setIfInBounds_toArray,List.set_cons_zero,List.set_cons_succ,sel_of d1,sel_of d3] at ha
     subst ha
     rw [if_pos (by rfl)]
     go_simp
     refine hK.out _ _ ⟨u72,u80,?_,M14.keep (Off.refl _ wr) rfl,M22.keep (Off.refl _ wr) rfl,hO⟩
     simp only [fill_eq,List.take_succ_cons,List.take_zero,List.cons_append,List.nil_append,Act.put,List.setIfInBounds_toArray,List.set_cons_zero,List.set_cons_succ,sel_new,sel_dep d1,sel_dep d3]
     rfl
   ·as_aux_lemma =>
     rintro l a wr ⟨u72,u80,ha,M14,M22,hO⟩ hl hd K' hK
     have d4 := hd 4 (by decide)
     have hx := X62.out; subst hx
     have hx := X63.out; subst hx
     simp only [fill_eq,List.take_succ_cons,List.take_zero,List.cons_append,List.nil_append,Act.put,List.setIfInBounds_toArray,List.set_cons_zero,List.set_cons_succ,sel_of d4] at ha
     subst ha
     rw [if_pos (by rfl)]
     go_simp
     refine hK.out _ _ ⟨u72,u80,?_,M14.keep (Off.refl _ wr) rfl,M22.keep (Off.refl _ wr) rfl,hO⟩
     simp only [fill_eq,List.take_succ_cons,List.take_zero,List.cons_append,List.nil_append,Act.put,List.setIfInBounds_toArray,List.set_cons_zero,List.set_cons_succ,sel_new,sel_dep d4]
     rfl
   ·as_aux_lemma =>
     rintro l a wr ⟨u72,u80,ha,M14,M22,hO⟩ hl hd K' hK
     have d5 := hd 5 (by decide)
     have hx := X63.out; subst hx
     have hx := X64.out; subst hx
     simp only [fill_eq,List.take_succ_cons,List.take_zero,List.cons_append,List.nil_append,Act.put,List.setIfInBounds_toArray,List.set_cons_zero,List.set_cons_succ,sel_of d5] at ha
     subst ha
     rw [if_pos (by rfl)]
     go_simp
     refine hK.out _ _ ⟨u72,u80,?_,M14.keep (Off.refl _ wr) rfl,M22.keep (Off.refl _ wr) rfl,hO⟩
     simp only [fill_eq,List.take_succ_cons,List.take_zero,List.cons_append,List.nil_append,Act.put,List.setIfInBounds_toArray,List.set_cons_zero,List.set_cons_succ,sel_new,sel_dep d5]
     rfl
   ·as_aux_lemma =>
     rintro l a wr ⟨u72,u80,ha,M14,M22,hO⟩ hl hd K' hK
     have d5 := hd 5 (by decide)
     have d6 := hd 6 (by decide)
     have hx := X63.out; subst hx
     have hx := X64.out; subst hx
     have hx := X65.out; subst hx
     simp only [fill_eq,List.take_succ_cons,List.take_zero,List.cons_append,List.nil_append,Act.put,List.setIfInBounds_toArray,List.set_cons_zero,List.set_cons_succ,sel_of d5,sel_of d6] at ha
     subst ha
     rw [if_pos (by rfl)]
     go_simp
     refine hK.out _ _ ⟨u72,u80,?_,M14.keep (Off.refl _ wr) rfl,M22.keep (Off.refl _ wr) rfl,hO⟩
     simp only [fill_eq,List.take_succ_cons,List.take_zero,List.cons_append,List.nil_append,Act.put,List.setIfInBounds_toArray,List.set_cons_zero,List.set_cons_succ,sel_new,sel_dep d5,sel_dep d6]
     rfl
   ·as_aux_lemma =>
     rintro l a wr ⟨u72,u80,ha,M14,M22,hO⟩ hl hd K' hK
     have d5 := hd 5 (by decide)
     have d7 := hd 7 (by decide)
     have hx := X63.out; subst hx
     have hx := X65.out; subst hx
     have hx := X66.out; subst hx
     simp only [fill_eq,List.take_succ_cons,List.take_zero,List.cons_append,List.nil_append,Act.put,List.setIfInBounds_toArray,List.set_cons_zero,List.set_cons_succ,sel_of d5,sel_of d7] at ha
     subst ha
     rw [if_pos (by rfl)]
     go_simp
     refine hK.out _ _ ⟨u72,u80,?_,M14.keep (Off.refl _ wr) rfl,M22.keep (Off.refl _ wr) rfl,hO⟩
     simp only [fill_eq,List.take_succ_cons,List.take_zero,List.cons_append,List.nil_append,Act.put,List.setIfInBounds_toArray,List.set_cons_zero,List.set_cons_succ,sel_new,sel_dep d5,sel_dep d7]
     rfl
   ·as_aux_lemma =>
     rintro l a wr ⟨u72,u80,ha,M14,M22,hO⟩ hl hd K' hK
     have d8 := hd 8 (by decide)
     have hx := X66.out; subst hx
     have hx := X67.out; subst hx
     simp only [fill_eq,List.take_succ_cons,List.take_zero,List.cons_append,List.nil_append,Act.put,List.setIfInBounds_toArray,List.set_cons_zero,List.set_cons_succ,sel_of d8] at ha
     subst ha
     rw [if_pos (by rfl)]
     go_simp
     refine hK.out _ _ ⟨u72,u80,?_,M14.keep (Off.refl _ wr) rfl,M22.keep (Off.refl _ wr) rfl,hO⟩
     simp only [fill_eq,List.take_succ_cons,List.take_zero,List.cons_append,List.nil_append,Act.put,List.setIfInBounds_toArray,List.set_cons_zero,List.set_cons_succ,sel_new,sel_dep d8]
     rfl
   ·as_aux_lemma =>
     rintro l a wr ⟨u72,u80,ha,M14,M22,hO⟩ hl hd K' hK
     have d9 := hd 9 (by decide)
     have hx := X67.out; subst hx
     have hx := X68.out; subst hx
     simp only [fill_eq,List.take_succ_cons,List.take_zero,List.cons_append,List.nil_append,Act.put,List.setIfInBounds_toArray,List.set_cons_zero,List.set_cons_succ,sel_of d9] at ha
     subst ha
     have hc := HK.out wr hO
     have p0 := hc.2.1.1
     have p1 := hc.2.1.2.1
     have p2 := hc.2.1.2.2.1
     have p3 := hc.2.1.2.2.2
     clear hc
     rw [if_pos (by rfl)]
     go_simp
     refine hK.out _ _ ⟨u72,u80,?_,M14.keep (Off.refl _ wr) rfl,M22.keep (Off.refl _ wr) rfl,hO⟩
     simp only [fill_eq,List.take_succ_cons,List.take_zero,List.cons_append,List.nil_append,Act.put,List.setIfInBounds_toArray,List.set_cons_zero,List.set_cons_succ,sel_new,sel_dep d9]
     rfl
   ·as_aux_lemma =>
     rintro l a wr ⟨u72,u80,ha,M14,M22,hO⟩ hl hd K' hK
     have d9 := hd 9 (by decide)
     have hx := X67.out; subst hx
     have hx := X69.out; subst hx
     simp only [fill_eq,List.take_succ_cons,List.take_zero,List.cons_append,List.nil_append,Act.put,List.setIfInBounds_toArray,List.set_cons_zero,List.set_cons_succ,sel_of d9] at ha
     subst ha
     rw [if_pos (by rfl)]
     go_simp
     refine hK.out _ _ ⟨u72,u80,?_,M14.keep (Off.refl _ wr) rfl,M22.keep (Off.refl _ wr) rfl,hO⟩
     simp only [fill_eq,List.take_succ_cons,List.take_zero,List.cons_append,List.nil_append,Act.put,List.setIfInBounds_toArray,List.set_cons_zero,List.set_cons_succ,sel_new,sel_dep d9]
     rfl
   ·as_aux_lemma =>
     rintro l a wr ⟨u72,u80,ha,M14,M22,hO⟩ hl hd K' hK
     have d9 := hd 9 (by decide)
     have hx := X67.out; subst hx
     have hx := X70.out; subst hx
     simp only [fill_eq,List.take_succ_cons,List.take_zero,List.cons_append,List.nil_append,Act.put,List.setIfInBounds_toArray,List.set_cons_zero,List.set_cons_succ,sel_of d9] at ha
     subst ha
     have hc := HK.out wr hO
     have p0 := hc.2.1.1
     have p1 := hc.2.1.2.1
     have p2 := hc.2.1.2.2.1
     have p3 := hc.2.1.2.2.2
     clear hc
     rw [if_pos (by rfl)]
     go_simp
     refine hK.out _ _ ⟨u72,u80,?_,M14.keep (Off.refl _ wr) rfl,M22.keep (Off.refl _ wr) rfl,hO⟩
     simp only [fill_eq,List.take_succ_cons,List.take_zero,List.cons_append,List.nil_append,Act.put,List.setIfInBounds_toArray,List.set_cons_zero,List.set_cons_succ,sel_new,sel_dep d9]
     rfl
   ·as_aux_lemma =>
     rintro l a wr ⟨u72,u80,ha,M14,M22,hO⟩ hl hd K' hK
     have d9 := hd 9 (by decide)
     have hx := X67.out; subst hx
     have hx := X71.out; subst hx
     simp only [fill_eq,List.take_succ_cons,List.take_zero,List.cons_append,List.nil_append,Act.put,List.setIfInBounds_toArray,List.set_cons_zero,List.set_cons_succ,sel_of d9] at ha
     subst ha
     rw [if_pos (by rfl)]
     go_simp
     refine hK.out _ _ ⟨u72,u80,?_,M14.keep (Off.refl _ wr) rfl,M22.keep (Off.refl _ wr) rfl,hO⟩
     simp only [fill_eq,List.take_succ_cons,List.take_zero,List.cons_append,List.nil_append,Act.put,List.setIfInBounds_toArray,List.set_cons_zero,List.set_cons_succ,sel_new,sel_dep d9]
     rfl
   ·as_aux_lemma =>
     rintro l a wr ⟨u72,u80,ha,M14,M22,hO⟩ hl hd K' hK
     have d9 := hd 9 (by decide)
     have d12 := hd 12 (by decide)
     have d13 := hd 13 (by decide)
     have hx := X67.out; subst hx
     have hx := X70.out; subst hx
     have hx := X71.out; subst hx
     simp only [fill_eq,List.take_succ_cons,List.take_zero,List.cons_append,List.nil_append,Act.put,List.setIfInBounds_toArray,List.set_cons_zero,List.set_cons_succ,sel_of d9,sel_of d12,sel_of d13] at ha
     subst ha
     rw [if_pos (by rfl)]
     go_simp
     refine (FR1.out wr hO).mono ?_
     rintro e w1 ⟨uv,rfl,hm,hOW⟩
     have hO1 := hO.trans hOW (fun _ _ c => c)
     go_wp2_with fail
     refine hK.out _ _ ⟨uv,u80,?_,Lk.new hm,M22.keep hOW rfl,hO1⟩
     simp only [fill_eq,List.take_succ_cons,List.take_zero,List.cons_append,List.nil_append,Act.put,List.setIfInBounds_toArray,List.set_cons_zero,List.set_cons_succ,sel_new,sel_dep d9,sel_dep d12,sel_dep d13]
     rfl
   ·as_aux_lemma =>
     rintro l a wr ⟨u72,u80,ha,M14,M22,hO⟩ hl hd K' hK
     have d9 := hd 9 (by decide)
     have d10 := hd 10 (by decide)
     have d11 := hd 11 (by decide)
     have d14 := hd 14 (by decide)
     have hx := X67.out; subst hx
     have hx := X68.out; subst hx
     have hx := X69.out; subst hx
     have m14 := M14 d14
     have hx := X73.out; subst hx
     simp only [fill_eq,List.take_succ_cons,List.take_zero,List.cons_append,List.nil_append,Act.put,List.setIfInBounds_toArray,List.set_cons_zero,List.set_cons_succ,sel_of d9,sel_of d10,sel_of d11,sel_of d14] at ha
     subst ha
     rw [if_pos (by rfl)]
     go_simp
     refine (held_inv (FS1.out wr u72 hO m14) hO).mono ?_
     rintro e w1 ⟨rfl,hO1,hOW⟩
     go_wp2_with fail
     refine hK.out _ _ ⟨u72,u80,?_,M14.keep hOW rfl,M22.keep hOW rfl,hO1⟩
     simp only [fill_eq,List.take_succ_cons,List.take_zero,List.cons_append,List.nil_append,Act.put,List.setIfInBounds_toArray,List.set_cons_zero,List.set_cons_succ,sel_new,sel_dep d9,sel_dep d10,sel_dep d11,sel_dep d14]
     rfl
   ·as_aux_lemma =>
     rintro l a wr ⟨u72,u80,ha,M14,M22,hO⟩ hl hd K' hK
     have d9 := hd 9 (by decide)
     have d15 := hd 15 (by decide)
     have hx := X67.out; subst hx
     have hx := X73.out; subst hx
     have hx := X74.out; subst hx
     simp only [fill_eq,List.take_succ_cons,List.take_zero,List.cons_append,List.nil_append,Act.put,List.setIfInBounds_toArray,List.set_cons_zero,List.set_cons_succ,sel_of d9,sel_of d15] at ha
     subst ha
     rw [if_pos (by rfl)]
     go_simp
     refine hK.out _ _ ⟨u72,u80,?_,M14.keep (Off.refl _ wr) rfl,M22.keep (Off.refl _ wr) rfl,hO⟩
     simp only [fill_eq,List.take_succ_cons,List.take_zero,List.cons_append,List.nil_append,Act.put,List.setIfInBounds_toArray,List.set_cons_zero,List.set_cons_succ,sel_new,sel_dep d9,sel_dep d15]
     rfl
   ·as_aux_lemma =>
     rintro l a wr ⟨u72,u80,ha,M14,M22,hO⟩ hl hd K' hK
     have d16 := hd 16 (by decide)
     have hx := X74.out; subst hx
     have hx := X75.out; subst hx
     simp only [fill_eq,List.take_succ_cons,List.take_zero,List.cons_append,List.nil_append,Act.put,List.setIfInBounds_toArray,List.set_cons_zero,List.set_cons_succ,sel_of d16] at ha
     subst ha
     rw [if_pos (by rfl)]
     go_simp
     refine hK.out _ _ ⟨u72,u80,?_,M14.keep (Off.refl _ wr) rfl,M22.keep (Off.refl _ wr) rfl,hO⟩
     simp only [fill_eq,List.take_succ_cons,List.take_zero,List.cons_append,List.nil_append,Act.put,List.setIfInBounds_toArray,List.set_cons_zero,List.set_cons_succ,sel_new,sel_dep d16]
     rfl
   ·as_aux_lemma =>
     rintro l a wr ⟨u72,u80,ha,M14,M22,hO⟩ hl hd K' hK
     have d17 := hd 17 (by decide)
     have hx := X75.out; subst hx
     have hx := X76.out; subst hx
     simp only [fill_eq,List.take_succ_cons,List.take_zero,List.cons_append,List.nil_append,Act.put,List.setIfInBounds_toArray,List.set_cons_zero,List.set_cons_succ,sel_of d17] at ha
     subst ha
     have hc := HK.out wr hO
     have p0 := hc.2.1.1
     have p1 := hc.2.1.2.1
     have p2 := hc.2.1.2.2.1
     have p3 := hc.2.1.2.2.2
     clear hc
     rw [if_pos (by rfl)]
     go_simp
     refine hK.out _ _ ⟨u72,u80,?_,M14.keep (Off.refl _ wr) rfl,M22.keep (Off.refl _ wr) rfl,hO⟩
     simp only [fill_eq,List.take_succ_cons,List.take_zero,List.cons_append,List.nil_append,Act.put,List.setIfInBounds_toArray,List.set_cons_zero,List.set_cons_succ,sel_new,sel_dep d17]
     rfl
   ·as_aux_lemma =>
     rintro l a wr ⟨u72,u80,ha,M14,M22,hO⟩ hl hd K' hK
     have d17 := hd 17 (by decide)
     have hx := X75.out; subst hx
     have hx := X77.out; subst hx
     simp only [fill_eq,List.take_succ_cons,List.take_zero,List.cons_append,List.nil_append,Act.put,List.setIfInBounds_toArray,List.set_cons_zero,List.set_cons_succ,sel_of d17] at ha
     subst ha
     rw [if_pos (by rfl)]
     go_simp
     refine hK.out _ _ ⟨u72,u80,?_,M14.keep (Off.refl _ wr) rfl,M22.keep (Off.refl _ wr) rfl,hO⟩
     simp only [fill_eq,List.take_succ_cons,List.take_zero,List.cons_append,List.nil_append,Act.put,List.setIfInBounds_toArray,List.set_cons_zero,List.set_cons_succ,sel_new,sel_dep d17]
     rfl
   ·as_aux_lemma =>
     rintro l a wr ⟨u72,u80,ha,M14,M22,hO⟩ hl hd K' hK
     have d17 := hd 17 (by decide)
     have hx := X75.out; subst hx
     have hx := X78.out; subst hx
     simp only [fill_eq,List.take_succ_cons,List.take_zero,List.cons_append,List.nil_append,Act.put,List.setIfInBounds_toArray,List.set_cons_zero,List.set_cons_succ,sel_of d17] at ha
     subst ha
     have hc := HK.out wr hO
     have p0 := hc.2.1.1
     have p1 := hc.2.1.2.1
     have p2 := hc.2.1.2.2.1
     have p3 := hc.2.1.2.2.2
     clear hc
     rw [if_pos (by rfl)]
     go_simp
     refine hK.out _ _ ⟨u72,u80,?_,M14.keep (Off.refl _ wr) rfl,M22.keep (Off.refl _ wr) rfl,hO⟩
     simp only [fill_eq,List.take_succ_cons,List.take_zero,List.cons_append,List.nil_append,Act.put,List.setIfInBounds_toArray,List.set_cons_zero,List.set_cons_succ,sel_new,sel_dep d17]
     rfl
   ·as_aux_lemma =>
     rintro l a wr ⟨u72,u80,ha,M14,M22,hO⟩ hl hd K' hK
     have d17 := hd 17 (by decide)
     have hx := X75.out; subst hx
     have hx := X79.out; subst hx
     simp only [fill_eq,List.take_succ_cons,List.take_zero,List.cons_append,List.nil_append,Act.put,List.setIfInBounds_toArray,List.set_cons_zero,List.set_cons_succ,sel_of d17] at ha
     subst ha
     rw [if_pos (by rfl)]
     go_simp
     refine hK.out _ _ ⟨u72,u80,?_,M14.keep (Off.refl _ wr) rfl,M22.keep (Off.refl _ wr) rfl,hO⟩
     simp only [fill_eq,List.take_succ_cons,List.take_zero,List.cons_append,List.nil_append,Act.put,List.setIfInBounds_toArray,List.set_cons_zero,List.set_cons_succ,sel_new,sel_dep d17]
     rfl
   ·as_aux_lemma =>
     rintro l a wr ⟨u72,u80,ha,M14,M22,hO⟩ hl hd K' hK
     have d17 := hd 17 (by decide)
     have d20 := hd 20 (by decide)
     have d21 := hd 21 (by decide)
     have hx := X75.out; subst hx
     have hx := X78.out; subst hx
     have hx := X79.out; subst hx
     simp only [fill_eq,List.take_succ_cons,List.take_zero,List.cons_append,List.nil_append,Act.put,List.setIfInBounds_toArray,List.set_cons_zero,List.set_cons_succ,sel_of d17,sel_of d20,sel_of d21] at ha
     subst ha
     rw [if_pos (by rfl)]
     go_simp
     refine (FR2.out wr hO).mono ?_
     rintro e w1 ⟨uv,rfl,hm,hOW⟩
     have hO1 := hO.trans hOW (fun _ _ c => c)
     go_wp2_with fail
     refine hK.out _ _ ⟨u72,uv,?_,M14.keep hOW rfl,Lk.new hm,hO1⟩
     simp only [fill_eq,List.take_succ_cons,List.take_zero,List.cons_append,List.nil_append,Act.put,List.setIfInBounds_toArray,List.set_cons_zero,List.set_cons_succ,sel_new,sel_dep d17,sel_dep d20,sel_dep d21]
     rfl
   ·as_aux_lemma =>
     rintro l a wr ⟨u72,u80,ha,M14,M22,hO⟩ hl hd K' hK
     have d17 := hd 17 (by decide)
     have d18 := hd 18 (by decide)
     have d19 := hd 19 (by decide)
     have d22 := hd 22 (by decide)
     have hx := X75.out; subst hx
     have hx := X76.out; subst hx
     have hx := X77.out; subst hx
     have m22 := M22 d22
     have hx := X81.out; subst hx
     simp only [fill_eq,List.take_succ_cons,List.take_zero,List.cons_append,List.nil_append,Act.put,List.setIfInBounds_toArray,List.set_cons_zero,List.set_cons_succ,sel_of d17,sel_of d18,sel_of d19,sel_of d22] at ha
     subst ha
     rw [if_pos (by rfl)]
     go_simp
     refine (held_inv (FS2.out wr u80 hO m22) hO).mono ?_
     rintro e w1 ⟨rfl,hO1,hOW⟩
     go_wp2_with fail
     refine hK.out _ _ ⟨u72,u80,?_,M14.keep hOW rfl,M22.keep hOW rfl,hO1⟩
     simp only [fill_eq,List.take_succ_cons,List.take_zero,List.cons_append,List.nil_append,Act.put,List.setIfInBounds_toArray,List.set_cons_zero,List.set_cons_succ,sel_new,sel_dep d17,sel_dep d18,sel_dep d19,sel_dep d22]
     rfl
   ·as_aux_lemma =>
     rintro l a wr ⟨u72,u80,ha,M14,M22,hO⟩ hl hd K' hK
     have d17 := hd 17 (by decide)
     have d23 := hd 23 (by decide)
     have hx := X75.out; subst hx
     have hx := X81.out; subst hx
     have hx := X82.out; subst hx
     simp only [fill_eq,List.take_succ_cons,List.take_zero,List.cons_append,List.nil_append,Act.put,List.setIfInBounds_toArray,List.set_cons_zero,List.set_cons_succ,sel_of d17,sel_of d23] at ha
     subst ha
     rw [if_pos (by rfl)]
     go_simp
     refine hK.out _ _ ⟨u72,u80,?_,M14.keep (Off.refl _ wr) rfl,M22.keep (Off.refl _ wr) rfl,hO⟩
     simp only [fill_eq,List.take_succ_cons,List.take_zero,List.cons_append,List.nil_append,Act.put,List.setIfInBounds_toArray,List.set_cons_zero,List.set_cons_succ,sel_new,sel_dep d17,sel_dep d23]
     rfl
   ·as_aux_lemma =>
     rintro l a wr ⟨u72,u80,ha,M14,M22,hO⟩ hl hd K' hK
     have d24 := hd 24 (by decide)
     have hx := X82.out; subst hx
     have hx := X4.out; subst hx
     simp only [fill_eq,List.take_succ_cons,List.take_zero,List.cons_append,List.nil_append,Act.put,List.setIfInBounds_toArray,List.set_cons_zero,List.set_cons_succ,sel_of d24] at ha
     subst ha
     rw [if_pos (by rfl)]
     go_simp
     refine hK.out _ _ ⟨u72,u80,?_,M14.keep (Off.refl _ wr) rfl,M22.keep (Off.refl _ wr) rfl,hO⟩
     simp only [fill_eq,List.take_succ_cons,List.take_zero,List.cons_append,List.nil_append,Act.put,List.setIfInBounds_toArray,List.set_cons_zero,List.set_cons_succ,sel_new,sel_dep d24]
     rfl
   ·rintro l a wc ⟨u72,u80,ha,M14,M22,hO⟩ hd
    simp only [fill_eq,List.take_succ_cons,List.take_zero,List.cons_append,List.nil_append,Act.put,List.setIfInBounds_toArray,List.set_cons_zero,List.set_cons_succ,sel_of (hd 0 (by decide)),sel_of (hd 1 (by decide)),sel_of (hd 2 (by decide)),sel_of (hd 3 (by decide)),sel_of (hd 4 (by decide)),sel_of (hd 5 (by decide)),sel_of (hd 6 (by decide)),sel_of (hd 7 (by decide)),sel_of (hd 8 (by decide)),sel_of (hd 9 (by decide)),sel_of (hd 10 (by decide)),sel_of (hd 11 (by decide)),sel_of (hd 12 (by decide)),sel_of (hd 13 (by decide)),sel_of (hd 14 (by decide)),sel_of (hd 15 (by decide)),sel_of (hd 16 (by decide)),sel_of (hd 17 (by decide)),sel_of (hd 18 (by decide)),sel_of (hd 19 (by decide)),sel_of (hd 20 (by decide)),sel_of (hd 21 (by decide)),sel_of (hd 22 (by decide)),sel_of (hd 23 (by decide)),sel_of (hd 24 (by decide)),sel_of (hd 25 (by decide))] at ha
    subst ha
    have hx := X4.out; subst hx
    have HOf := Lib.hid (HOw.out.trans hO (fun _ _ c => c))
    clear hO hd
    go_wp2
    go_ret
    exact ⟨rfl,HOf.out⟩
  ·obtain ⟨c,hcv⟩ : ∃ c,c = chkV is1 := ⟨_,rfl⟩
   have hci : decide (c ≠ 0) = true := by rw [hcv]; simp [hc]
   have hcp : ¬ c = 0 := by rw [hcv]; exact hc
   have FC := Lib.hid (show ∀ W,Iv W (.slice a1 n1 cap1) is1 -> Calls Tryd.prog 11 #[.slice a1 n1 cap1] W fun e w' => e = .returned (.int .i64 c) /\ Off (fun _ => False) W w' from fun W h => by rw [hcv]; exact refcheck_any is1 (by omega) _ W h)
   have FW := Lib.hid (show ∀ W v,Iv W v is1 -> Calls Tryd.prog 13 #[.pointer none,FV id p i r s,v] W fun e w' => e = .returned (.tuple #[.slice none 0 0,.int .i64 c]) /\ Off (fun _ => False) W w' from fun W v h => by rw [hcv]; exact weights_err is1 hc (by omega) none v W h)
   have FZ := Lib.hid (show ∀ W v,Iv W v is1 -> Calls Tryd.prog 14 #[.pointer none,FV id p i r s,v] W fun e w' => e = .returned (.tuple #[.slice none 0 0,.int .i64 c]) /\ Off (fun _ => False) W w' from fun W v h => by rw [hcv]; exact zero_err is1 hc (by omega) none v W h)
   clear hc hcv hF hid hp h1 hp0 hbig hn1 w1 HLv FCk hv1 HV1 hmx v1
   go_enter Tryd.func4,Tryd.ntmps4
   go_wp2_with fail
   refine (FG.out _ (hT.off (Off.refl _ w))).mono ?_
   rintro e u0 ⟨rfl,hO1⟩
   obtain ⟨W1,hW1⟩ : ∃ W1,W1 = (u0.alloc (.cells #[.int .i64 id,.int .u64 (wd p 0 : Int),.int .u64 (wd p 1 : Int),.int .u64 (wd p 2 : Int),.int .u64 (wd p 3 : Int),.int .u64 (i : Int),.int .u64 (wd r 0 : Int),.int .u64 (wd r 1 : Int),.int .u64 (wd r 2 : Int),.int .u64 (wd r 3 : Int),.int .u64 (wd s 0 : Int),.int .u64 (wd s 1 : Int),.int .u64 (wd s 2 : Int),.int .u64 (wd s 3 : Int)] 32)).alloc (.cells #[.int .u64 (wd p 0 : Int),.int .u64 (wd p 1 : Int),.int .u64 (wd p 2 : Int),.int .u64 (wd p 3 : Int)] 29) := ⟨_,rfl⟩
   have o1 : Off (fun _ => False) u0 W1 := by rw [hW1]; exact ((Off.refl _ u0).alloc _).alloc _
   have g_F : W1.heap[u0.heap.size]? = some (.cells #[.int .i64 id,.int .u64 (wd p 0 : Int),.int .u64 (wd p 1 : Int),.int .u64 (wd p 2 : Int),.int .u64 (wd p 3 : Int),.int .u64 (i : Int),.int .u64 (wd r 0 : Int),.int .u64 (wd r 1 : Int),.int .u64 (wd r 2 : Int),.int .u64 (wd r 3 : Int),.int .u64 (wd s 0 : Int),.int .u64 (wd s 1 : Int),.int .u64 (wd s 2 : Int),.int .u64 (wd s 3 : Int)] 32 (0,0)) := by rw [hW1]; exact heap_old' (heap_new' rfl _) _
   have g_P : W1.heap[u0.heap.size + 1]? = some (.cells #[.int .u64 (wd p 0 : Int),.int .u64 (wd p 1 : Int),.int .u64 (wd p 2 : Int),.int .u64 (wd p 3 : Int)] 29 (0,0)) := by rw [hW1]; exact heap_new' (by simp) _
   obtain ⟨fb,hfb⟩ : ∃ fb,fb = u0.heap.size := ⟨_,rfl⟩
   obtain ⟨pb,hpb⟩ : ∃ pb,pb = u0.heap.size + 1 := ⟨_,rfl⟩
   rw [<- hfb] at g_F
   rw [<- hpb] at g_P
   have hOw := hO1.trans o1 (fun _ _ c => c)
   clear hO1 o1
   rw [hW1] at hOw g_F g_P
   go_wp2_with fail
   rw [<- hW1] at hOw g_F g_P ⊢
   rw [<- hpb,<- hfb]
   refine (FW.out _ _ (HL.out.off hOw)).mono ?_
   rintro e u1 ⟨rfl,hO1⟩
   have g_F := hO1.heap g_F (fun c => c)
   have g_P := hO1.heap g_P (fun c => c)
   have hOw := hOw.trans hO1 (fun _ _ c => c)
   clear hW1 hfb hpb
   clear hO1
   obtain ⟨f0,f1,f2,f3,f4,f5,f6,f7,f8,f9,f10,f11,f12,f13⟩ := fv_cells g_F
   have hlf := heap_lt g_F
   have GF := Lib.hid g_F
   have GP := Lib.hid g_P
   have HOw := Lib.hid hOw
   clear g_F g_P hOw
   go_wp2_with fail
   clear f0 f1 f2 f3 f4 f5 f6 f7 f8 f9 f10 f11 f12 f13 hlf
   have g_F := GF.out
   have g_P := GP.out
   have hOw := HOw.out
   clear GF GP HOw
   refine (FZ.out _ _ (HL.out.off hOw)).mono ?_
   rintro e u2 ⟨rfl,hO1⟩
   have g_F := hO1.heap g_F (fun c => c)
   have g_P := hO1.heap g_P (fun c => c)
   have hOw := hOw.trans hO1 (fun _ _ c => c)
   clear hO1
   have GF := Lib.hid g_F
   have GP := Lib.hid g_P
   have HOw := Lib.hid hOw
   clear g_F g_P hOw
   go_wp2_with fail
   have g_F := GF.out
   have g_P := GP.out
   have hOw := HOw.out
   clear GF GP HOw
   refine (FC.out _ (HL.out.off hOw)).mono ?_
   rintro e u3 ⟨rfl,hO1⟩
   have g_F := hO1.heap g_F (fun c => c)
   have g_P := hO1.heap g_P (fun c => c)
   have hOw := hOw.trans hO1 (fun _ _ c => c)
   clear hO1
   have GF := Lib.hid g_F
   have GP := Lib.hid g_P
   have HOw := Lib.hid hOw
   clear g_F g_P hOw
   go_wp2_with fail
   have g_F := GF.out
   have g_P := GP.out
   have hOw := HOw.out
   clear GF GP HOw
   refine (FAL.out _ (HTw.out.off hOw)).mono ?_
   rintro e u4 ⟨rfl,hO1⟩
   have HOf := Lib.hid (hOw.trans hO1 (fun _ _ c => c))
   clear hOw hO1 g_F g_P
   go_wp2
   go_ret
   exact ⟨rfl,HOf.out⟩

theorem door_met (os : Os) (args : Array Value) : laidMetH Tryd.prog [("sharecore/field.fields",Rows.laid_sharecore_field_fields)] ((World.doorLaid Tryd.prog 400 os).forCall (fun _ _ => 0) ⟨#[],args,[]⟩).memory :=
 laidMetH_of_parts3 (fuel := 8) (laidMet_of_run' 8 (by kernel_rfl) (by kernel_rfl)) (by kernel_rfl) (by kernel_rfl)

set_option maxRecDepth 100000 in
theorem lifted (os : Os) (started : os.Started) (H : Type) (enc : TypeId × Value -> H) :
  ReturnsInHanded {} Tryd.checked os 4 .any (fun w args => (Rows.lagrangeWeightsSpec.pre enc Tryd.prog Tryd.f4 [] false w args /\ laidMetH Tryd.prog [("sharecore/field.fields",Rows.laid_sharecore_field_fields)] w) /\ sizedMet enc Tryd.prog Tryd.f4 (OpenSpec.ofChange Rows.lagrangeWeightsSpec) false w args)
   (Rows.lagrangeWeightsSpec.post enc Tryd.prog Tryd.f4 false true false false) := by
 refine returnsInHanded_of_change_and (C := Tryd.checked) (X := fun w _ => laidMetH Tryd.prog [("sharecore/field.fields",Rows.laid_sharecore_field_fields)] w) (fun _ _ _ hh h => h.of_heap hh) own started (by kernel_rfl) Tryd.func4
  (ChangeSpec.witness_shaped (enc := enc) (C := Tryd.checked) (os := os) (X := fun w _ => laidMetH Tryd.prog [("sharecore/field.fields",Rows.laid_sharecore_field_fields)] w) false (World.doorLaid Tryd.prog 400 os) #[.bool false,.slice none 0 0] 8 rfl (World.shaped_of_RefB (by kernel_rfl) (by kernel_rfl)) (by kernel_rfl) (by kernel_rfl) (by kernel_rfl) (door_met os _)) ?_
 intro W base args ds gs before hval0 hW _ _ hL _
 have hval : ∀ (j : Nat) t v,Tryd.f4.params[j]? = some t -> args[j]? = some v -> Value.okWide Tryd.prog W .any base t v := hval0
 have hW' := hW
 obtain ⟨p,q,hA0,hV,rfl,hfz,hnd⟩ := hW
 have hA : DataW.TrodAll enc Tryd.prog W 0 (fun _ => true) true Tryd.f4.params.toList args.toList ds p := hA0
 rw [Tryd.params4] at hA hval
 obtain ⟨v0,vs0,d0,ds0,p0,q0,hargs,rfl,rfl,h0,r0⟩ := trodAll_cons hA
 obtain ⟨v1,vs1,d1,ds1,p1,q1,rfl,rfl,rfl,h1,r1⟩ := trodAll_cons r0
 obtain ⟨rfl,rfl,rfl⟩ := trodAll_nil r1
 obtain rfl : args = #[v0,v1] := by cases args; simp_all
 obtain ⟨rfl,rfl⟩ := trodVars_none hV
 obtain ⟨i0,rfl,rfl,rfl⟩ := open_bool Tryd.underlying4 (hval 0 4 v0 rfl rfl) h0
 have w0 := trivial
 obtain ⟨a1,n1,cap1,rfl⟩ := okWide_slice Tryd.underlying22 (hval 1 22 v1 rfl rfl)
 have k1 := h1
 have lt1 : ∀ x ∈ p1,x.block < W.heap.size := by obtain ⟨m,hm⟩ := k1; exact DataW.trod_lt m _ _ _ hm
 obtain ⟨is1,hn1,w1⟩ : ∃ xs,n1 = xs.length /\ IvAt W (.slice a1 n1 cap1) xs (fun k => k < W.heap.size) := by
  obtain ⟨fuel,hf⟩ := h1
  exact ints_of_trod hf
 have hT := tab_of_laid hL
 clear hA0 hval0
 refine (walk i0 a1 n1 cap1 is1 W w0 hn1 w1 hT).mono fun e W' ⟨he,hoff⟩ => ?_
 have bel : Below W.heap.size W W' := hoff.below (Nat.le_refl _) (fun _ _ c => c)
 subst he
 exact ⟨_,rfl,_,_,_,[],_,[],hW',trodAll_mk1 (shut_bool Tryd.underlying4 _),(trodAll_cons_mk (shut_bool Tryd.underlying4 _) (trodAll_cons_mk (Below.trod laidOut (by kernel_rfl) (of_decide_eq_true (by kernel_rfl)) k1 bel lt1) trodAll_mk0)),rfl,bel.frame _,fun h => by cases h⟩

theorem over : Rows.lagrangeWeightsRow.holds Tryd.pinned (OpenSpec.ofChange Rows.lagrangeWeightsSpec) :=
 OpenClaim.holds_of_wide 4 Tryd.f4 rfl rfl rfl rfl rfl rfl rfl ⟨rfl,rfl,rfl,rfl,rfl⟩ rfl rfl rfl rfl rfl (by kernel_rfl) Tryd.func4 (by kernel_rfl)
  (of_decide_eq_true (by kernel_rfl)) (by unfold Func.isWrapper; first | (rw [if_pos (by decide +kernel)]; kernel_rfl) | (rw [if_neg (by decide +kernel)]; exact ⟨rfl,rfl⟩))
  (fun os started H enc _ => lifted os started H enc)

theorem proved : Rows.LagrangeWeightsCardSaid :=
 Claim7.holds_tied_plain_at .later [] [.data] true (true,"52e3f175f7e7c68eca78e9b4b0e19955f01f7bfa3cfafd6aaba7d864c2871f24") false
  over (fun _ h => by cases h) (by kernel_rfl) (fun _ h => by cases h) lagrangeWeights_row_tie rfl ⟨rfl,rfl⟩ (by kernel_rfl) rfl
  (fun f fn hf hfn => by
   obtain rfl : f = 4 := Option.some.inj ((show Tryd.prog.funcNamed "sharecore/sharecorelaw09.LagrangeWeights" = some 4 by kernel_rfl).symm.trans hf) |>.symm
   obtain rfl : fn = Tryd.f4 := (Option.some.inj (Tryd.func4.symm.trans hfn)).symm
   exact ⟨by kernel_rfl,fun j t ht => by
    rw [Tryd.params4] at ht
    have hm : t ∈ [4,22] := by simpa using Array.mem_of_getElem? ht
    have hall : ([4,22].all fun u => !Tryd.prog.wantsStandIn u) = true := by kernel_rfl
    exact (show Tryd.prog.wantsStandIn t = false by simpa using List.all_eq_true.1 hall t hm)⟩)
  (by kernel_rfl)
#print axioms proved
end Go.Proofs.YtcebegfnplplcaaDoor.lagrangeWeights
-- squeezed
