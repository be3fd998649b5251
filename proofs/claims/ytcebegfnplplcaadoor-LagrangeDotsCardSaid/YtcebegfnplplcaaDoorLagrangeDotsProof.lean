/-
  For every field and two lists of numbers, the examples of the chapter hold, and Dot returns the sum of the products, or zero and ErrLength: the statement of P9.3. No condition.
-/
import Derived.Test.YtcebegfnplplcaaDoorRows
import Derived.Test.YtcebegfnplplcaaDoorTie
import Derived.Test.YtcebegfnplplcaaDoorCards
import Derived.LaidMore
import Derived.LaidHandle
import Derived.SevenTiedAt
import Derived.Stop.Joined
import Derived.JoinedOf
import Derived.Test.YtcebegfnplplcaaDoorLimbWords
import Derived.Test.YtcebegfnplplcaaDoorIntAll
import Derived.Test.YtcebegfnplplcaaDoorVecOpen
import Derived.Test.YtcebegfnplplcaaDoorFieldTab
import Derived.Test.YtcebegfnplplcaaDoorFieldHeld
import Derived.Test.YtcebegfnplplcaaDoorLagAlive
import Derived.Test.YtcebegfnplplcaaDoorLagProg
import Derived.Test.YtcebegfnplplcaaDoorLagRefs
import Derived.Test.YtcebegfnplplcaaDoorPolLists
import Derived.Test.YtcebegfnplplcaaDoorInvAll
import Derived.WalkKit
import Derived.ProofKit
import Derived.OpenShut
import Derived.ShutString
import Derived.ChangeOld
import Derived.Below
namespace Go.Proofs.YtcebegfnplplcaaDoor.lagrangeDots
open Go.ChangeShapes Go.WideShapes Go.ChangeAt Go.RowKit
set_option linter.unusedVariables false

theorem own : ownKnob Tryd.prog.godebug = none := by kernel_rfl
theorem laidOut : laidOutB Tryd.prog = true := by kernel_rfl

theorem mods_lt {p : Nat} (h : 0 < p) (xs : List Nat) : ∀ v ∈ xs.map (· % p),v < p := by
 intro v hv
 obtain ⟨x,_,rfl⟩ := List.mem_map.1 hv
 exact Nat.mod_lt _ h
/-- What the statement's loop keeps. -/
structure DtW (w W : World) (id : Int) (p i r s fb pb yb y sb t : Nat) : Prop where
 F : W.heap[fb]? = some (.cells #[.int .i64 id,.int .u64 (wd p 0 : Int),.int .u64 (wd p 1 : Int),.int .u64 (wd p 2 : Int),.int .u64 (wd p 3 : Int),.int .u64 (i : Int),.int .u64 (wd r 0 : Int),.int .u64 (wd r 1 : Int),.int .u64 (wd r 2 : Int),.int .u64 (wd r 3 : Int),.int .u64 (wd s 0 : Int),.int .u64 (wd s 1 : Int),.int .u64 (wd s 2 : Int),.int .u64 (wd s 3 : Int)] 32 (0,0))
 P : W.heap[pb]? = some (.cells #[.int .u64 (wd p 0 : Int),.int .u64 (wd p 1 : Int),.int .u64 (wd p 2 : Int),.int .u64 (wd p 3 : Int)] 29 (0,0))
 Y : W.heap[yb]? = some (.cells #[.int .u64 (wd y 0 : Int),.int .u64 (wd y 1 : Int),.int .u64 (wd y 2 : Int),.int .u64 (wd y 3 : Int)] 30 (0,0))
 S : W.heap[sb]? = some (.cells #[.int .u64 (wd t 0 : Int),.int .u64 (wd t 1 : Int),.int .u64 (wd t 2 : Int),.int .u64 (wd t 3 : Int)] 29 (0,0))
 off : Off (fun _ => False) w W
set_option maxRecDepth 100000 in
set_option maxHeartbeats 4000000 in
theorem walk (i0 : Bool) (a1 : Option Addr) (n1 cap1 : Nat) (xs1 : List Nat) (a2 : Option Addr) (n2 cap2 : Nat) (xs2 : List Nat) (w : World) (w0 : True) (hn1 : n1 = xs1.length) (w1 : VsAt w (.slice a1 n1 cap1) xs1 (fun k => k < w.heap.size)) (hn2 : n2 = xs2.length) (w2 : VsAt w (.slice a2 n2 cap2) xs2 (fun k => k < w.heap.size)) (hT : TabAt w) :
  Calls Tryd.prog 6 #[.bool i0,.slice a1 n1 cap1,.slice a2 n2 cap2] w fun e w' => e = .returned (.bool true) /\ Off (fun _ => False) w w' := by
 obtain ⟨id,p,i,r,s,hF,hid⟩ := fld_of i0
 have hp := hF.mp.lt
 have h1 := hF.mp.one
 have hp0 : 0 < p := by omega
 obtain ⟨_,_,_,hbig⟩ := fld_full hF
 have FG := Lib.hid (fun W hT => get9_any i0 hF hid W hT)
 have FAL : Hid (∀ W,TabAt W -> Calls Tryd.prog 9 #[] W fun e w' => e = .returned (.bool true) /\ Off (fun _ => False) W w') := Lib.hid (fun W hT => alive9_any W hT)
 obtain ⟨hnl1,hnm1,hxs1⟩ := w1.len
 obtain ⟨hnl2,hnm2,hxs2⟩ := w2.len
 by_cases hmx : 30 < n1
 ·have hbi : decide ((30 : Int) < (n1 : Int)) = true := by simp; omega
  have hbp : (30 : Int) < (n1 : Int) := by omega
  clear hn1 w1 hnl1 hnm1 hxs1 hF hid hp h1 hp0 FG hbig hn2 w2 hnl2 hnm2 hxs2 hmx
  go_enter Tryd.func6,Tryd.ntmps6
  go_wp2_with fail
  refine (FAL.out _ (hT.off (Off.refl _ w))).mono ?_
  rintro e u0 ⟨rfl,hO⟩
  have HO := Lib.hid ((Off.refl _ w : Off (fun _ => False) w _).trans hO (fun _ _ c => c))
  clear hO
  go_wp2
  go_ret
  exact ⟨rfl,HO.out⟩
 ·have hbi : decide ((30 : Int) < (n1 : Int)) = false := by simp; omega
  have hbp : ¬ (30 : Int) < (n1 : Int) := by omega
  by_cases hmx2 : 30 < n2
  ·have hbi2 : decide ((30 : Int) < (n2 : Int)) = true := by simp; omega
   have hbp2 : (30 : Int) < (n2 : Int) := by omega
   clear hn1 w1 hnl1 hnm1 hxs1 hF hid hp h1 hp0 FG hbig hn2 w2 hnl2 hnm2 hxs2 hmx hmx2
   go_enter Tryd.func6,Tryd.ntmps6
   go_wp2_with fail
   refine (FAL.out _ (hT.off (Off.refl _ w))).mono ?_
   rintro e u0 ⟨rfl,hO⟩
   have HO := Lib.hid ((Off.refl _ w : Off (fun _ => False) w _).trans hO (fun _ _ c => c))
   clear hO
   go_wp2
   go_ret
   exact ⟨rfl,HO.out⟩
  ·have hbi2 : decide ((30 : Int) < (n2 : Int)) = false := by simp; omega
   have hbp2 : ¬ (30 : Int) < (n2 : Int) := by omega
   obtain ⟨vs,hvs⟩ : ∃ l,l = xs1.map (· % p) := ⟨_,rfl⟩
   have hvsl : vs.length = n1 := by rw [hvs,List.length_map]; exact hnl1.symm
   have hvsp : ∀ v ∈ vs,v < p := by rw [hvs]; exact mods_lt hp0 xs1
   have FV1 := Lib.hid (show ∀ W v,Ls W v xs1 -> Calls Tryd.prog 18 #[V p,v] W fun e w' => ∃ z1 z2,e = .returned (.tuple #[z1,z2]) /\ Ls w' z1 vs /\ Ls w' z2 (vs.map (fm p)) /\ Off (fun _ => False) W w' from fun W v h => by rw [hvs]; exact values_any hp h1 xs1 hxs1 (by omega) v W h)
   have HL1 := Lib.hid (ls_of_vs w1 (by omega))
   obtain ⟨us,hus⟩ : ∃ l,l = xs2.map (· % p) := ⟨_,rfl⟩
   have husl : us.length = n2 := by rw [hus,List.length_map]; exact hnl2.symm
   have husp : ∀ v ∈ us,v < p := by rw [hus]; exact mods_lt hp0 xs2
   have FV2 := Lib.hid (show ∀ W v,Ls W v xs2 -> Calls Tryd.prog 18 #[V p,v] W fun e w' => ∃ z1 z2,e = .returned (.tuple #[z1,z2]) /\ Ls w' z1 us /\ Ls w' z2 (us.map (fm p)) /\ Off (fun _ => False) W w' from fun W v h => by rw [hus]; exact values_any hp h1 xs2 hxs2 (by omega) v W h)
   have HL2 := Lib.hid (ls_of_vs w2 (by omega))
   have HTw := Lib.hid hT
   have HVl := Lib.hid hvsl
   have HUl := Lib.hid husl
   by_cases hnn : n1 = n2
   ·subst hnn
    obtain ⟨tt,htt⟩ : ∃ t,t = dotF p vs us n1 := ⟨_,rfl⟩
    have http : tt < p := by rw [htt]; exact dotF_lt hp0 _ _ _
    obtain ⟨y,hy⟩ : ∃ y,y = fm p tt := ⟨_,rfl⟩
    have FD := Lib.hid (show ∀ W v u,Ls W v (vs.map (fm p)) -> Ls W u (us.map (fm p)) -> Calls Tryd.prog 21 #[.pointer none,FV id p i r s,v,u] W fun e w' => e = .returned (.tuple #[V y,.int .i64 0]) /\ Off (fun _ => False) W w' from fun W v u h k => by have g := dot_ls hF vs us (by omega) (by omega) v u W h k; rw [hvsl,<- htt,<- hy] at g; exact g)
    have FFm := Lib.hid (show ∀ W,Calls Tryd.prog 24 #[V p,V tt] W fun e w' => e = .returned (V y) /\ Off (fun _ => False) W w' from fun W => by rw [hy]; exact form9_any p tt hp h1 (by omega) W)
    have e1 := equalIn_elem_same
    have HM := Lib.hid (fun a b ha hb W => mod_mul p a b hp h1 ha (Nat.lt_trans hb hp) W : ∀ a b,a < p -> b < p -> ∀ W,_)
    have HA := Lib.hid (fun a b ha hb W => mod_add p a b hp ha hb W : ∀ a b,a < p -> b < p -> ∀ W,_)
    have HVp := Lib.hid hvsp
    have HUp := Lib.hid husp
    have HTt := Lib.hid htt
    have HP0 := Lib.hid hp0
    have hn30 : n1 <= 30 := by omega
    clear htt http hy hF hid hp h1 hp0 hbig hn1 w1 hnl1 hnm1 hxs1 hn2 w2 hnl2 hnm2 hxs2 hvs hvsl hvsp hus husl husp hmx hmx2
    go_enter Tryd.func6,Tryd.ntmps6
    go_wp2_with fail
    refine (FG.out _ (hT.off (Off.refl _ w))).mono ?_
    rintro e u0 ⟨rfl,hO1⟩
    obtain ⟨W1,hW1⟩ : ∃ W1,W1 = (u0.alloc (.cells #[.int .i64 id,.int .u64 (wd p 0 : Int),.int .u64 (wd p 1 : Int),.int .u64 (wd p 2 : Int),.int .u64 (wd p 3 : Int),.int .u64 (i : Int),.int .u64 (wd r 0 : Int),.int .u64 (wd r 1 : Int),.int .u64 (wd r 2 : Int),.int .u64 (wd r 3 : Int),.int .u64 (wd s 0 : Int),.int .u64 (wd s 1 : Int),.int .u64 (wd s 2 : Int),.int .u64 (wd s 3 : Int)] 32)).alloc (.cells #[.int .u64 (wd p 0 : Int),.int .u64 (wd p 1 : Int),.int .u64 (wd p 2 : Int),.int .u64 (wd p 3 : Int)] 29) := ⟨_,rfl⟩
    have o1 : Off (fun _ => False) u0 W1 := by rw [hW1]; exact ((Off.refl _ u0).alloc _).alloc _
    have g_F : W1.heap[u0.heap.size]? = some (.cells #[.int .i64 id,.int .u64 (wd p 0 : Int),.int .u64 (wd p 1 : Int),.int .u64 (wd p 2 : Int),.int .u64 (wd p 3 : Int),.int .u64 (i : Int),.int .u64 (wd r 0 : Int),.int .u64 (wd r 1 : Int),.int .u64 (wd r 2 : Int),.int .u64 (wd r 3 : Int),.int .u64 (wd s 0 : Int),.int .u64 (wd s 1 : Int),.int .u64 (wd s 2 : Int),.int .u64 (wd s 3 : Int)] 32 (0,0)) := by rw [hW1]; exact heap_old' (heap_new' rfl _) _
    have g_P : W1.heap[u0.heap.size + 1]? = some (.cells #[.int .u64 (wd p 0 : Int),.int .u64 (wd p 1 : Int),.int .u64 (wd p 2 : Int),.int .u64 (wd p 3 : Int)] 29 (0,0)) := by rw [hW1]; exact heap_new' (by simp) _
    obtain ⟨fb,hfb⟩ : ∃ fb,fb = u0.heap.size := ⟨_,rfl⟩
    obtain ⟨pb,hpb⟩ : ∃ pb,pb = u0.heap.size + 1 := ⟨_,rfl⟩
    rw [<- hfb] at g_F
    rw [<- hpb] at g_P
    have hOw := hO1.trans o1 (fun _ _ c => c)
    clear hO1 o1
    rw [hW1] at hOw g_F g_P
    go_wp2_with fail
    rw [<- hW1] at hOw g_F g_P ⊢
    rw [<- hpb,<- hfb]
    refine (FV1.out _ _ (HL1.out.off hOw)).mono ?_
    rintro e u1 ⟨z1,z2,rfl,h_z1,h_z2,hO1⟩
    have g_F := hO1.heap g_F (fun c => c)
    have g_P := hO1.heap g_P (fun c => c)
    have hOw := hOw.trans hO1 (fun _ _ c => c)
    clear hW1 hfb hpb
    clear hO1
    obtain ⟨p0,p1,p2,p3⟩ := cells4 g_P
    have hlp := heap_lt g_P
    have H_z1 := Lib.hid h_z1
    have H_z2 := Lib.hid h_z2
    have GF := Lib.hid g_F
    have GP := Lib.hid g_P
    have HOw := Lib.hid hOw
    clear g_F g_P hOw h_z1 h_z2
    go_wp2_with fail
    clear p0 p1 p2 p3 hlp
    have h_z1 := H_z1.out
    have h_z2 := H_z2.out
    have g_F := GF.out
    have g_P := GP.out
    have hOw := HOw.out
    clear GF GP HOw H_z1 H_z2
    refine (FV2.out _ _ (HL2.out.off hOw)).mono ?_
    rintro e u2 ⟨z3,z4,rfl,h_z3,h_z4,hO1⟩
    have g_F := hO1.heap g_F (fun c => c)
    have g_P := hO1.heap g_P (fun c => c)
    have hOw := hOw.trans hO1 (fun _ _ c => c)
    have h_z1 := h_z1.off hO1
    have h_z2 := h_z2.off hO1
    clear hO1
    obtain ⟨f0,f1,f2,f3,f4,f5,f6,f7,f8,f9,f10,f11,f12,f13⟩ := fv_cells g_F
    have hlf := heap_lt g_F
    have H_z1 := Lib.hid h_z1
    have H_z2 := Lib.hid h_z2
    have H_z3 := Lib.hid h_z3
    have H_z4 := Lib.hid h_z4
    have GF := Lib.hid g_F
    have GP := Lib.hid g_P
    have HOw := Lib.hid hOw
    clear g_F g_P hOw h_z1 h_z2 h_z3 h_z4
    go_wp2_with fail
    clear f0 f1 f2 f3 f4 f5 f6 f7 f8 f9 f10 f11 f12 f13 hlf
    have h_z1 := H_z1.out
    have h_z2 := H_z2.out
    have h_z3 := H_z3.out
    have h_z4 := H_z4.out
    have g_F := GF.out
    have g_P := GP.out
    have hOw := HOw.out
    clear GF GP HOw H_z1 H_z2 H_z3 H_z4
    refine (FD.out _ _ _ h_z2 h_z4).mono ?_
    rintro e u3 ⟨rfl,hO1⟩
    have g_F := hO1.heap g_F (fun c => c)
    have g_P := hO1.heap g_P (fun c => c)
    have hOw := hOw.trans hO1 (fun _ _ c => c)
    have h_z1 := h_z1.off hO1
    have h_z3 := h_z3.off hO1
    clear hO1 h_z2 h_z4
    obtain ⟨az,capz,hz1e,hzl⟩ := Ls.open h_z1
    obtain ⟨aw,capw,hz3e,hwl⟩ := Ls.open h_z3
    rw [HVl.out] at hz1e hzl
    rw [HUl.out] at hz3e hwl
    subst hz1e
    subst hz3e
    obtain ⟨W2,hW2⟩ : ∃ W2,W2 = (u3.alloc (.cells #[.int .u64 (wd y 0 : Int),.int .u64 (wd y 1 : Int),.int .u64 (wd y 2 : Int),.int .u64 (wd y 3 : Int)] 30)).alloc (.cells #[.int .u64 0,.int .u64 0,.int .u64 0,.int .u64 0] 29) := ⟨_,rfl⟩
    have o2 : Off (fun _ => False) u3 W2 := by rw [hW2]; exact ((Off.refl _ u3).alloc _).alloc _
    have g_Y : W2.heap[u3.heap.size]? = some (.cells #[.int .u64 (wd y 0 : Int),.int .u64 (wd y 1 : Int),.int .u64 (wd y 2 : Int),.int .u64 (wd y 3 : Int)] 30 (0,0)) := by rw [hW2]; exact heap_old' (heap_new' rfl _) _
    have g_S : W2.heap[u3.heap.size + 1]? = some (.cells #[.int .u64 0,.int .u64 0,.int .u64 0,.int .u64 0] 29 (0,0)) := by rw [hW2]; exact heap_new' (by simp) _
    obtain ⟨yb,hyb⟩ : ∃ yb,yb = u3.heap.size := ⟨_,rfl⟩
    obtain ⟨sb,hsb⟩ : ∃ sb,sb = u3.heap.size + 1 := ⟨_,rfl⟩
    have hfl := heap_lt g_F
    have hpl := heap_lt g_P
    rw [<- hyb] at g_Y
    rw [<- hsb] at g_S
    have HNE := Lib.hid (show fb ≠ sb /\ pb ≠ sb /\ yb ≠ sb /\ w.heap.size <= sb from ⟨by omega,by omega,by omega,by have := hOw.size; omega⟩)
    have HZ1 := Lib.hid ((hzl.off o2 (fun _ _ _ c => c)).mono (fun k _ c => by have := c.1; omega) : LsAt W2 (.slice az n1 capz) vs (fun k => k ≠ sb))
    have HZ3 := Lib.hid ((hwl.off o2 (fun _ _ _ c => c)).mono (fun k _ c => by have := c.1; omega) : LsAt W2 (.slice aw n1 capw) us (fun k => k ≠ sb))
    have HD0 := Lib.hid (show DtW w W2 id p i r s fb pb yb y sb (dotF p vs us 0) from ⟨o2.heap g_F (fun c => c),o2.heap g_P (fun c => c),g_Y,by rw [show dotF p vs us 0 = 0 from rfl]; simp only [wd_zero]; exact g_S,hOw.trans o2 (fun _ _ c => c)⟩)
    have HEq := Lib.hid (And.intro hW2 (And.intro hyb hsb))
    clear o2 g_Y g_S g_F g_P hOw hfl hpl h_z1 h_z3 hzl hwl hW2 hyb hsb
    go_wp2_with fail
    rw [<- HEq.out.1,<- HEq.out.2.2,<- HEq.out.2.1]
    go_loopw [67] (fun ix wr => ∃ k : Nat,k <= n1 /\ ix = .int .i64 (k : Int) /\ DtW w wr id p i r s fb pb yb y sb (dotF p vs us k) /\ Off (fun k => k = sb) W2 wr) (fun ix _ => n1 - (intOf ix).toNat)
    case atStart => exact ⟨0,Nat.zero_le _,rfl,HD0.out,Off.refl _ _⟩
    case round =>
     obtain ⟨k,hk,rfl,hE,hOs⟩ := hrel
     by_cases hlt : k < n1
     ·obtain ⟨c,hck⟩ : ∃ c,vs[k]? = some c := ⟨_,List.getElem?_eq_getElem (by rw [HVl.out]; exact hlt)⟩
      obtain ⟨d,hdk⟩ : ∃ c,us[k]? = some c := ⟨_,List.getElem?_eq_getElem (by rw [HUl.out]; exact hlt)⟩
      obtain ⟨b,off,rfl,hbn,c0,c1,c2,c3⟩ := (HZ1.out.off hOs (fun _ _ h1 h2 => h1 h2)).get hck
      obtain ⟨b2,off2,rfl,hbn2,d0,d1,d2,d3⟩ := (HZ3.out.off hOs (fun _ _ h1 h2 => h1 h2)).get hdk
      have hcp : c < p := HVp.out c (List.mem_of_getElem? hck)
      have hdp : d < p := HUp.out d (List.mem_of_getElem? hdk)
      obtain ⟨u,hu⟩ : ∃ u,u = dotF p vs us k := ⟨_,rfl⟩
      have hup : u < p := by rw [hu]; exact dotF_lt HP0.out _ _ _
      obtain ⟨mm,hm⟩ : ∃ m,m = c * d % p := ⟨_,rfl⟩
      obtain ⟨z,hz⟩ : ∃ z,z = (u + mm) % p := ⟨_,rfl⟩
      have hmp : mm < p := by rw [hm]; exact Nat.mod_lt _ HP0.out
      have HMu := Lib.hid (show ∀ W,Calls Tryd.prog 23 #[V p,V c,V d] W fun e w' => e = .returned (V mm) /\ Off (fun _ => False) W w' from fun W => by rw [hm]; exact HM.out c d hcp hdp W)
      have HAd := Lib.hid (show ∀ W,Calls Tryd.prog 22 #[V p,V u,V mm] W fun e w' => e = .returned (V z) /\ Off (fun _ => False) W w' from fun W => by rw [hz]; exact HA.out u mm hup hmp W)
      have HZn := Lib.hid (show z = dotF p vs us (k + 1) by rw [dotF_next,<- hu,hz,hm,List.getD_eq_getElem?_getD,List.getD_eq_getElem?_getD,hck,hdk]; rfl)
      rw [<- hu] at hE
      have HE := Lib.hid hE
      have HPr := Lib.hid hE.S
      have HOs := Lib.hid hOs
      have HK : Hid (∀ W',Off (fun k => k = sb) wr W' -> (W'.cell? ⟨pb,0,none⟩ = some (.int .u64 (wd p 0 : Int)) /\ W'.cell? ⟨pb,1,none⟩ = some (.int .u64 (wd p 1 : Int)) /\ W'.cell? ⟨pb,2,none⟩ = some (.int .u64 (wd p 2 : Int)) /\ W'.cell? ⟨pb,3,none⟩ = some (.int .u64 (wd p 3 : Int))) /\ (W'.cell? ⟨b,off + k * 4,none⟩ = some (.int .u64 (wd c 0 : Int)) /\ W'.cell? ⟨b,off + k * 4 + 1,none⟩ = some (.int .u64 (wd c 1 : Int)) /\ W'.cell? ⟨b,off + k * 4 + 2,none⟩ = some (.int .u64 (wd c 2 : Int)) /\ W'.cell? ⟨b,off + k * 4 + 3,none⟩ = some (.int .u64 (wd c 3 : Int))) /\ (W'.cell? ⟨b2,off2 + k * 4,none⟩ = some (.int .u64 (wd d 0 : Int)) /\ W'.cell? ⟨b2,off2 + k * 4 + 1,none⟩ = some (.int .u64 (wd d 1 : Int)) /\ W'.cell? ⟨b2,off2 + k * 4 + 2,none⟩ = some (.int .u64 (wd d 2 : Int)) /\ W'.cell? ⟨b2,off2 + k * 4 + 3,none⟩ = some (.int .u64 (wd d 3 : Int))) /\ Off (fun k => k = sb) wr W') := Lib.hid (fun W' h => ⟨cells4 (h.heap hE.P HNE.out.2.1),⟨h.cell c0 hbn,h.cell c1 hbn,h.cell c2 hbn,h.cell c3 hbn⟩,⟨h.cell d0 hbn2,h.cell d1 hbn2,h.cell d2 hbn2,h.cell d3 hbn2⟩,h⟩)
      have hkn : (k : Int) < (n1 : Int) := by omega
      have hwk : IntKind.i64.wrap ((k : Int) + 1) = (k : Int) + 1 := by rw [IntKind.wrap_i64]; omega
      clear hE hOs hck hdk hcp hdp hu hup hm hz hmp hbn hbn2 c0 c1 c2 c3 d0 d1 d2 d3
      go_upto_region 13 with fail
      refine wp_region_inv (fun a0 l a' w' => ∃ (u70 : Value) (u71 : Value) (u72 : Value) (u73 : Value) (u74 : Value) (u75 : Value) (u76 : Value) (u77 : Value) (u78 : Value) (u79 : Value) (u80 : Value) (u81 : Value) (u82 : Value),a' = (Act.put (Act.put (Act.put (Act.put (Act.put (Act.put (Act.put (Act.put (Act.put (Act.put (Act.put (Act.put (Act.put a0 (some 70) u70) (some 71) u71) (some 72) u72) (some 73) u73) (some 74) u74) (some 75) u75) (some 76) u76) (some 77) u77) (some 78) u78) (some 79) u79) (some 80) u80) (some 81) u81) (some 82) u82) /\ Slot l 0 u70 (V p) /\ Slot l 1 u71 (V u) /\ Slot l 2 u72 (V p) /\ Slot l 3 u73 (.slice (some ⟨b,off,none⟩) n1 capz) /\ Slot l 4 u74 (.int .i64 (k : Int)) /\ Slot l 5 u75 (.pointer (some ⟨b,off + k * 4,none⟩)) /\ Slot l 6 u76 (V c) /\ Slot l 7 u77 (.slice (some ⟨b2,off2,none⟩) n1 capw) /\ Slot l 8 u78 (.int .i64 (k : Int)) /\ Slot l 9 u79 (.pointer (some ⟨b2,off2 + k * 4,none⟩)) /\ Slot l 10 u80 (V d) /\ Slot l 11 u81 (V mm) /\ Slot l 12 u82 (V z) /\ Old l 13 sb wr w' (.cells #[.int .u64 (wd u 0 : Int),.int .u64 (wd u 1 : Int),.int .u64 (wd u 2 : Int),.int .u64 (wd u 3 : Int)] 29) (.cells #[.int .u64 (wd z 0 : Int),.int .u64 (wd z 1 : Int),.int .u64 (wd z 2 : Int),.int .u64 (wd z 3 : Int)] 29) /\ Dep l 1 13 /\ Off (fun k => k = sb) wr w') (by kernel_rfl) (by kernel_rfl) ?_ ⟨?_,?_,?_,?_,?_,?_,?_,?_,?_,?_,?_,?_,?_,?_,trivial⟩ ?_
      ·refine ⟨?z70,?z71,?z72,?z73,?z74,?z75,?z76,?z77,?z78,?z79,?z80,?z81,?z82,?fr,Slot.start _ _ _,Slot.start _ _ _,Slot.start _ _ _,Slot.start _ _ _,Slot.start _ _ _,Slot.start _ _ _,Slot.start _ _ _,Slot.start _ _ _,Slot.start _ _ _,Slot.start _ _ _,Slot.start _ _ _,Slot.start _ _ _,Slot.start _ _ _,Old.start HPr.out _ _,Dep.start _ _,(Off.refl _ wr).drew⟩
       case fr => first | (simp only [Act.put,List.setIfInBounds_toArray,List.set_cons_zero,List.set_cons_succ]; rfl) | simp only [Act.put,List.setIfInBounds_toArray,List.set_cons_zero,List.set_cons_succ]
      ·intro l a wr hI hl hd K' hK
       obtain ⟨u70,u71,u72,u73,u74,u75,u76,u77,u78,u79,u80,u81,u82,ha,s0,s1,s2,s3,s4,s5,s6,s7,s8,s9,s10,s11,s12,O0,P1_13,hO⟩ := hI
       simp only [Act.put,List.setIfInBounds_toArray,List.set_cons_zero,List.set_cons_succ] at ha
       subst ha
       have hc := HK.out wr hO
       have p0 := hc.1.1
       have p1 := hc.1.2.1
       have p2 := hc.1.2.2.1
       have p3 := hc.1.2.2.2
       clear hc
       go_simp
       refine hK.out _ _ ⟨_,_,_,_,_,_,_,_,_,_,_,_,_,?_,Slot.new _ _ _,s1.keep rfl,s2.keep rfl,s3.keep rfl,s4.keep rfl,s5.keep rfl,s6.keep rfl,s7.keep rfl,s8.keep rfl,s9.keep rfl,s10.keep rfl,s11.keep rfl,s12.keep rfl,O0.keep (Off.refl _ wr) rfl,P1_13.keep rfl,hO⟩
       simp only [Act.put,List.setIfInBounds_toArray,List.set_cons_zero,List.set_cons_succ]
      ·intro l a wr hI hl hd K' hK
       obtain ⟨u70,u71,u72,u73,u74,u75,u76,u77,u78,u79,u80,u81,u82,ha,s0,s1,s2,s3,s4,s5,s6,s7,s8,s9,s10,s11,s12,O0,P1_13,hO⟩ := hI
       simp only [Act.put,List.setIfInBounds_toArray,List.set_cons_zero,List.set_cons_succ] at ha
       subst ha
       have hZ := O0.was (P1_13 hl)
       obtain ⟨p0,p1,p2,p3⟩ := cells4 hZ
       clear hZ
       go_simp
       refine hK.out _ _ ⟨_,_,_,_,_,_,_,_,_,_,_,_,_,?_,s0.keep rfl,Slot.new _ _ _,s2.keep rfl,s3.keep rfl,s4.keep rfl,s5.keep rfl,s6.keep rfl,s7.keep rfl,s8.keep rfl,s9.keep rfl,s10.keep rfl,s11.keep rfl,s12.keep rfl,O0.keep (Off.refl _ wr) rfl,P1_13.keep rfl,hO⟩
       simp only [Act.put,List.setIfInBounds_toArray,List.set_cons_zero,List.set_cons_succ]
      ·intro l a wr hI hl hd K' hK
       obtain ⟨u70,u71,u72,u73,u74,u75,u76,u77,u78,u79,u80,u81,u82,ha,s0,s1,s2,s3,s4,s5,s6,s7,s8,s9,s10,s11,s12,O0,P1_13,hO⟩ := hI
       simp only [Act.put,List.setIfInBounds_toArray,List.set_cons_zero,List.set_cons_succ] at ha
       subst ha
       have hc := HK.out wr hO
       have p0 := hc.1.1
       have p1 := hc.1.2.1
       have p2 := hc.1.2.2.1
       have p3 := hc.1.2.2.2
       clear hc
       go_simp
       refine hK.out _ _ ⟨_,_,_,_,_,_,_,_,_,_,_,_,_,?_,s0.keep rfl,s1.keep rfl,Slot.new _ _ _,s3.keep rfl,s4.keep rfl,s5.keep rfl,s6.keep rfl,s7.keep rfl,s8.keep rfl,s9.keep rfl,s10.keep rfl,s11.keep rfl,s12.keep rfl,O0.keep (Off.refl _ wr) rfl,P1_13.keep rfl,hO⟩
       simp only [Act.put,List.setIfInBounds_toArray,List.set_cons_zero,List.set_cons_succ]
      ·intro l a wr hI hl hd K' hK
       obtain ⟨u70,u71,u72,u73,u74,u75,u76,u77,u78,u79,u80,u81,u82,ha,s0,s1,s2,s3,s4,s5,s6,s7,s8,s9,s10,s11,s12,O0,P1_13,hO⟩ := hI
       simp only [Act.put,List.setIfInBounds_toArray,List.set_cons_zero,List.set_cons_succ] at ha
       subst ha
       go_simp
       refine hK.out _ _ ⟨_,_,_,_,_,_,_,_,_,_,_,_,_,?_,s0.keep rfl,s1.keep rfl,s2.keep rfl,Slot.new _ _ _,s4.keep rfl,s5.keep rfl,s6.keep rfl,s7.keep rfl,s8.keep rfl,s9.keep rfl,s10.keep rfl,s11.keep rfl,s12.keep rfl,O0.keep (Off.refl _ wr) rfl,P1_13.keep rfl,hO⟩
       simp only [Act.put,List.setIfInBounds_toArray,List.set_cons_zero,List.set_cons_succ]
      ·intro l a wr hI hl hd K' hK
       obtain ⟨u70,u71,u72,u73,u74,u75,u76,u77,u78,u79,u80,u81,u82,ha,s0,s1,s2,s3,s4,s5,s6,s7,s8,s9,s10,s11,s12,O0,P1_13,hO⟩ := hI
       simp only [Act.put,List.setIfInBounds_toArray,List.set_cons_zero,List.set_cons_succ] at ha
       subst ha
       go_simp
       refine hK.out _ _ ⟨_,_,_,_,_,_,_,_,_,_,_,_,_,?_,s0.keep rfl,s1.keep rfl,s2.keep rfl,s3.keep rfl,Slot.new _ _ _,s5.keep rfl,s6.keep rfl,s7.keep rfl,s8.keep rfl,s9.keep rfl,s10.keep rfl,s11.keep rfl,s12.keep rfl,O0.keep (Off.refl _ wr) rfl,P1_13.keep rfl,hO⟩
       simp only [Act.put,List.setIfInBounds_toArray,List.set_cons_zero,List.set_cons_succ]
      ·intro l a wr hI hl hd K' hK
       obtain ⟨u70,u71,u72,u73,u74,u75,u76,u77,u78,u79,u80,u81,u82,ha,s0,s1,s2,s3,s4,s5,s6,s7,s8,s9,s10,s11,s12,O0,P1_13,hO⟩ := hI
       simp only [Act.put,List.setIfInBounds_toArray,List.set_cons_zero,List.set_cons_succ] at ha
       have q3 := s3 (hd 3 (by decide))
       have q4 := s4 (hd 4 (by decide))
       subst ha q3 q4
       go_simp
       refine hK.out _ _ ⟨_,_,_,_,_,_,_,_,_,_,_,_,_,?_,s0.keep rfl,s1.keep rfl,s2.keep rfl,s3.keep rfl,s4.keep rfl,Slot.new _ _ _,s6.keep rfl,s7.keep rfl,s8.keep rfl,s9.keep rfl,s10.keep rfl,s11.keep rfl,s12.keep rfl,O0.keep (Off.refl _ wr) rfl,P1_13.keep rfl,hO⟩
       simp only [Act.put,List.setIfInBounds_toArray,List.set_cons_zero,List.set_cons_succ]
      ·intro l a wr hI hl hd K' hK
       obtain ⟨u70,u71,u72,u73,u74,u75,u76,u77,u78,u79,u80,u81,u82,ha,s0,s1,s2,s3,s4,s5,s6,s7,s8,s9,s10,s11,s12,O0,P1_13,hO⟩ := hI
       simp only [Act.put,List.setIfInBounds_toArray,List.set_cons_zero,List.set_cons_succ] at ha
       have q5 := s5 (hd 5 (by decide))
       subst ha q5
       have hc := HK.out wr hO
       have p0 := hc.2.1.1
       have p1 := hc.2.1.2.1
       have p2 := hc.2.1.2.2.1
       have p3 := hc.2.1.2.2.2
       clear hc
       go_simp
       refine hK.out _ _ ⟨_,_,_,_,_,_,_,_,_,_,_,_,_,?_,s0.keep rfl,s1.keep rfl,s2.keep rfl,s3.keep rfl,s4.keep rfl,s5.keep rfl,Slot.new _ _ _,s7.keep rfl,s8.keep rfl,s9.keep rfl,s10.keep rfl,s11.keep rfl,s12.keep rfl,O0.keep (Off.refl _ wr) rfl,P1_13.keep rfl,hO⟩
       simp only [Act.put,List.setIfInBounds_toArray,List.set_cons_zero,List.set_cons_succ]
      ·intro l a wr hI hl hd K' hK
       obtain ⟨u70,u71,u72,u73,u74,u75,u76,u77,u78,u79,u80,u81,u82,ha,s0,s1,s2,s3,s4,s5,s6,s7,s8,s9,s10,s11,s12,O0,P1_13,hO⟩ := hI
       simp only [Act.put,List.setIfInBounds_toArray,List.set_cons_zero,List.set_cons_succ] at ha
       subst ha
       go_simp
       refine hK.out _ _ ⟨_,_,_,_,_,_,_,_,_,_,_,_,_,?_,s0.keep rfl,s1.keep rfl,s2.keep rfl,s3.keep rfl,s4.keep rfl,s5.keep rfl,s6.keep rfl,Slot.new _ _ _,s8.keep rfl,s9.keep rfl,s10.keep rfl,s11.keep rfl,s12.keep rfl,O0.keep (Off.refl _ wr) rfl,P1_13.keep rfl,hO⟩
       simp only [Act.put,List.setIfInBounds_toArray,List.set_cons_zero,List.set_cons_succ]
      ·intro l a wr hI hl hd K' hK
       obtain ⟨u70,u71,u72,u73,u74,u75,u76,u77,u78,u79,u80,u81,u82,ha,s0,s1,s2,s3,s4,s5,s6,s7,s8,s9,s10,s11,s12,O0,P1_13,hO⟩ := hI
       simp only [Act.put,List.setIfInBounds_toArray,List.set_cons_zero,List.set_cons_succ] at ha
       subst ha
       go_simp
       refine hK.out _ _ ⟨_,_,_,_,_,_,_,_,_,_,_,_,_,?_,s0.keep rfl,s1.keep rfl,s2.keep rfl,s3.keep rfl,s4.keep rfl,s5.keep rfl,s6.keep rfl,s7.keep rfl,Slot.new _ _ _,s9.keep rfl,s10.keep rfl,s11.keep rfl,s12.keep rfl,O0.keep (Off.refl _ wr) rfl,P1_13.keep rfl,hO⟩
       simp only [Act.put,List.setIfInBounds_toArray,List.set_cons_zero,List.set_cons_succ]
      ·intro l a wr hI hl hd K' hK
       obtain ⟨u70,u71,u72,u73,u74,u75,u76,u77,u78,u79,u80,u81,u82,ha,s0,s1,s2,s3,s4,s5,s6,s7,s8,s9,s10,s11,s12,O0,P1_13,hO⟩ := hI
       simp only [Act.put,List.setIfInBounds_toArray,List.set_cons_zero,List.set_cons_succ] at ha
       have q7 := s7 (hd 7 (by decide))
       have q8 := s8 (hd 8 (by decide))
       subst ha q7 q8
       go_simp
       refine hK.out _ _ ⟨_,_,_,_,_,_,_,_,_,_,_,_,_,?_,s0.keep rfl,s1.keep rfl,s2.keep rfl,s3.keep rfl,s4.keep rfl,s5.keep rfl,s6.keep rfl,s7.keep rfl,s8.keep rfl,Slot.new _ _ _,s10.keep rfl,s11.keep rfl,s12.keep rfl,O0.keep (Off.refl _ wr) rfl,P1_13.keep rfl,hO⟩
       simp only [Act.put,List.setIfInBounds_toArray,List.set_cons_zero,List.set_cons_succ]
      ·intro l a wr hI hl hd K' hK
       obtain ⟨u70,u71,u72,u73,u74,u75,u76,u77,u78,u79,u80,u81,u82,ha,s0,s1,s2,s3,s4,s5,s6,s7,s8,s9,s10,s11,s12,O0,P1_13,hO⟩ := hI
       simp only [Act.put,List.setIfInBounds_toArray,List.set_cons_zero,List.set_cons_succ] at ha
       have q9 := s9 (hd 9 (by decide))
       subst ha q9
       have hc := HK.out wr hO
       have p0 := hc.2.2.1.1
       have p1 := hc.2.2.1.2.1
       have p2 := hc.2.2.1.2.2.1
       have p3 := hc.2.2.1.2.2.2
       clear hc
       go_simp
       refine hK.out _ _ ⟨_,_,_,_,_,_,_,_,_,_,_,_,_,?_,s0.keep rfl,s1.keep rfl,s2.keep rfl,s3.keep rfl,s4.keep rfl,s5.keep rfl,s6.keep rfl,s7.keep rfl,s8.keep rfl,s9.keep rfl,Slot.new _ _ _,s11.keep rfl,s12.keep rfl,O0.keep (Off.refl _ wr) rfl,P1_13.keep rfl,hO⟩
       simp only [Act.put,List.setIfInBounds_toArray,List.set_cons_zero,List.set_cons_succ]
      ·intro l a wr hI hl hd K' hK
       obtain ⟨u70,u71,u72,u73,u74,u75,u76,u77,u78,u79,u80,u81,u82,ha,s0,s1,s2,s3,s4,s5,s6,s7,s8,s9,s10,s11,s12,O0,P1_13,hO⟩ := hI
       simp only [Act.put,List.setIfInBounds_toArray,List.set_cons_zero,List.set_cons_succ] at ha
       have q2 := s2 (hd 2 (by decide))
       have q6 := s6 (hd 6 (by decide))
       have q10 := s10 (hd 10 (by decide))
       subst ha q2 q6 q10
       go_simp
       refine (held_inv (HMu.out wr) hO).mono ?_
       rintro e w1 ⟨rfl,hO1,hOW⟩
       go_wp2_with fail
       refine hK.out _ _ ⟨_,_,_,_,_,_,_,_,_,_,_,_,_,?_,s0.keep rfl,s1.keep rfl,s2.keep rfl,s3.keep rfl,s4.keep rfl,s5.keep rfl,s6.keep rfl,s7.keep rfl,s8.keep rfl,s9.keep rfl,s10.keep rfl,Slot.new _ _ _,s12.keep rfl,O0.keep hOW rfl,P1_13.keep rfl,hO1⟩
       simp only [Act.put,List.setIfInBounds_toArray,List.set_cons_zero,List.set_cons_succ]
      ·intro l a wr hI hl hd K' hK
       obtain ⟨u70,u71,u72,u73,u74,u75,u76,u77,u78,u79,u80,u81,u82,ha,s0,s1,s2,s3,s4,s5,s6,s7,s8,s9,s10,s11,s12,O0,P1_13,hO⟩ := hI
       simp only [Act.put,List.setIfInBounds_toArray,List.set_cons_zero,List.set_cons_succ] at ha
       have q0 := s0 (hd 0 (by decide))
       have q1 := s1 (hd 1 (by decide))
       have q11 := s11 (hd 11 (by decide))
       subst ha q0 q1 q11
       go_simp
       refine (held_inv (HAd.out wr) hO).mono ?_
       rintro e w1 ⟨rfl,hO1,hOW⟩
       go_wp2_with fail
       refine hK.out _ _ ⟨_,_,_,_,_,_,_,_,_,_,_,_,_,?_,s0.keep rfl,s1.keep rfl,s2.keep rfl,s3.keep rfl,s4.keep rfl,s5.keep rfl,s6.keep rfl,s7.keep rfl,s8.keep rfl,s9.keep rfl,s10.keep rfl,s11.keep rfl,Slot.new _ _ _,O0.keep hOW rfl,P1_13.keep rfl,hO1⟩
       simp only [Act.put,List.setIfInBounds_toArray,List.set_cons_zero,List.set_cons_succ]
      ·intro l a wr hI hl hd K' hK
       obtain ⟨u70,u71,u72,u73,u74,u75,u76,u77,u78,u79,u80,u81,u82,ha,s0,s1,s2,s3,s4,s5,s6,s7,s8,s9,s10,s11,s12,O0,P1_13,hO⟩ := hI
       simp only [Act.put,List.setIfInBounds_toArray,List.set_cons_zero,List.set_cons_succ] at ha
       have q12 := s12 (hd 12 (by decide))
       subst ha q12
       have hZ := (O0.was hl)
       obtain ⟨m0,m1,m2,m3⟩ := cells4 hZ
       have fz := fun j => frozen_of_heap hZ j
       have lt := heap_lt hZ
       clear hZ
       go_simp
       refine hK.out _ _ ⟨_,_,_,_,_,_,_,_,_,_,_,_,_,?_,s0.keep rfl,s1.keep rfl,s2.keep rfl,s3.keep rfl,s4.keep rfl,s5.keep rfl,s6.keep rfl,s7.keep rfl,s8.keep rfl,s9.keep rfl,s10.keep rfl,s11.keep rfl,s12.keep rfl,O0.put hl rfl,Dep.at (hd 1 (by decide)),setCells_in hO (fun _ => rfl) [.int .u64 (wd z 0 : Int),.int .u64 (wd z 1 : Int),.int .u64 (wd z 2 : Int),.int .u64 (wd z 3 : Int)]⟩
       simp only [Act.put,List.setIfInBounds_toArray,List.set_cons_zero,List.set_cons_succ]
      ·intro l a wc hI hd
       obtain ⟨u70,u71,u72,u73,u74,u75,u76,u77,u78,u79,u80,u81,u82,ha,s0,s1,s2,s3,s4,s5,s6,s7,s8,s9,s10,s11,s12,O0,P1_13,hO⟩ := hI
       simp only [Act.put,List.setIfInBounds_toArray,List.set_cons_zero,List.set_cons_succ] at ha
       have q0 := s0 (hd 0 (by decide))
       have q1 := s1 (hd 1 (by decide))
       have q2 := s2 (hd 2 (by decide))
       have q3 := s3 (hd 3 (by decide))
       have q4 := s4 (hd 4 (by decide))
       have q5 := s5 (hd 5 (by decide))
       have q6 := s6 (hd 6 (by decide))
       have q7 := s7 (hd 7 (by decide))
       have q8 := s8 (hd 8 (by decide))
       have q9 := s9 (hd 9 (by decide))
       have q10 := s10 (hd 10 (by decide))
       have q11 := s11 (hd 11 (by decide))
       have q12 := s12 (hd 12 (by decide))
       have r0 : wc.heap[sb]? = some (.cells #[.int .u64 (wd z 0 : Int),.int .u64 (wd z 1 : Int),.int .u64 (wd z 2 : Int),.int .u64 (wd z 3 : Int)] 29) := O0.now (hd 13 (by decide))
       subst ha q0 q1 q2 q3 q4 q5 q6 q7 q8 q9 q10 q11 q12
       clear hd s0 s1 s2 s3 s4 s5 s6 s7 s8 s9 s10 s11 s12 O0 P1_13
       have hD2 : DtW w wc id p i r s fb pb yb y sb (dotF p vs us (k + 1)) := ⟨hO.heap HE.out.F HNE.out.1,hO.heap HE.out.P HNE.out.2.1,hO.heap HE.out.Y HNE.out.2.2.1,by rw [<- HZn.out]; exact r0,HE.out.off.trans hO (fun k hk e => by have := HNE.out.2.2.2; omega)⟩
       have HD2 := Lib.hid hD2
       have HO2 := Lib.hid (HOs.out.trans hO (fun _ _ c => c))
       clear hD2 r0 hO
       go_wp2
       go_roundw
       case rel => exact ⟨k + 1,by omega,by simp,HD2.out,HO2.out⟩
       case measure => simp [intOf] <;> omega
     ·obtain rfl : k = n1 := by omega
      rw [<- HTt.out] at hE
      have HTX := Lib.hid (fun W (h : Off (fun _ => False) wr W) => HTw.out.off (hE.off.trans h (fun _ _ c => c)))
      have HK : Hid (∀ W',Off (fun _ => False) wr W' -> (W'.cell? ⟨pb,0,none⟩ = some (.int .u64 (wd p 0 : Int)) /\ W'.cell? ⟨pb,1,none⟩ = some (.int .u64 (wd p 1 : Int)) /\ W'.cell? ⟨pb,2,none⟩ = some (.int .u64 (wd p 2 : Int)) /\ W'.cell? ⟨pb,3,none⟩ = some (.int .u64 (wd p 3 : Int))) /\ (W'.cell? ⟨sb,0,none⟩ = some (.int .u64 (wd tt 0 : Int)) /\ W'.cell? ⟨sb,1,none⟩ = some (.int .u64 (wd tt 1 : Int)) /\ W'.cell? ⟨sb,2,none⟩ = some (.int .u64 (wd tt 2 : Int)) /\ W'.cell? ⟨sb,3,none⟩ = some (.int .u64 (wd tt 3 : Int))) /\ (W'.cell? ⟨yb,0,none⟩ = some (.int .u64 (wd y 0 : Int)) /\ W'.cell? ⟨yb,1,none⟩ = some (.int .u64 (wd y 1 : Int)) /\ W'.cell? ⟨yb,2,none⟩ = some (.int .u64 (wd y 2 : Int)) /\ W'.cell? ⟨yb,3,none⟩ = some (.int .u64 (wd y 3 : Int))) /\ Off (fun _ => False) wr W') := Lib.hid (fun W' h => ⟨cells4 (h.heap hE.P (fun c => c)),cells4 (h.heap hE.S (fun c => c)),cells4 (h.heap hE.Y (fun c => c)),h⟩)
      have HOw := Lib.hid hE.off
      have HTW := HTX
      clear hE hOs
      go_upto_region 15 with fail
      obtain ⟨x84,hx⟩ : ∃ x : Value,x = .bool true := ⟨_,rfl⟩
      have X84 := Lib.hid hx
      clear hx
      obtain ⟨x85,hx⟩ : ∃ x : Value,x = .bool true := ⟨_,rfl⟩
      have X85 := Lib.hid hx
      clear hx
      obtain ⟨x86,hx⟩ : ∃ x : Value,x = .int .i64 0 := ⟨_,rfl⟩
      have X86 := Lib.hid hx
      clear hx
      obtain ⟨x87,hx⟩ : ∃ x : Value,x = .bool true := ⟨_,rfl⟩
      have X87 := Lib.hid hx
      clear hx
      obtain ⟨x88,hx⟩ : ∃ x : Value,x = .bool true := ⟨_,rfl⟩
      have X88 := Lib.hid hx
      clear hx
      obtain ⟨x89,hx⟩ : ∃ x : Value,x = .bool true := ⟨_,rfl⟩
      have X89 := Lib.hid hx
      clear hx
      obtain ⟨x90,hx⟩ : ∃ x : Value,x = V y := ⟨_,rfl⟩
      have X90 := Lib.hid hx
      clear hx
      obtain ⟨x91,hx⟩ : ∃ x : Value,x = V p := ⟨_,rfl⟩
      have X91 := Lib.hid hx
      clear hx
      obtain ⟨x92,hx⟩ : ∃ x : Value,x = V tt := ⟨_,rfl⟩
      have X92 := Lib.hid hx
      clear hx
      obtain ⟨x93,hx⟩ : ∃ x : Value,x = V y := ⟨_,rfl⟩
      have X93 := Lib.hid hx
      clear hx
      obtain ⟨x94,hx⟩ : ∃ x : Value,x = .bool true := ⟨_,rfl⟩
      have X94 := Lib.hid hx
      clear hx
      obtain ⟨x95,hx⟩ : ∃ x : Value,x = .bool true := ⟨_,rfl⟩
      have X95 := Lib.hid hx
      clear hx
      obtain ⟨x6,hx⟩ : ∃ x : Value,x = .bool true := ⟨_,rfl⟩
      have X6 := Lib.hid hx
      clear hx
      refine wp_region_inv (fun a0 l a' w' => a' = (Act.put (fill a0 84 [sel (l 0) x84 undef,sel (l 1) x85 undef,sel (l 2) x86 undef,sel (l 3) x87 undef,sel (l 4) x88 undef,sel (l 5) x89 undef,sel (l 6) x90 undef,sel (l 7) x91 undef,sel (l 8) x92 undef,sel (l 9) x93 undef,sel (l 10) x94 undef,sel (l 11) x95 undef]) (some 6) (sel (l 12) x6 (.bool false))) /\ Off (fun _ => False) wr w') (by kernel_rfl) (by kernel_rfl) ?_ ⟨?_,?_,?_,?_,?_,?_,?_,?_,?_,?_,?_,?_,?_,trivial⟩ ?_
      ·refine ⟨?_,(Off.refl _ wr).drew⟩
       simp only [fill_eq,List.take_succ_cons,List.take_zero,List.cons_append,List.nil_append,Act.put,List.setIfInBounds_toArray,List.set_cons_zero,List.set_cons_succ,sel_start]
      ·as_aux_lemma =>
        rintro l a wr ⟨ha,hO⟩ hl hd K' hK
        have hx := X84.out; subst hx
        simp only [fill_eq,List.take_succ_cons,List.take_zero,List.cons_append,List.nil_append,Act.put,List.setIfInBounds_toArray,List.set_cons_zero,List.set_cons_succ] at ha
        subst ha
        rw [if_pos (by rfl)]
        go_simp
        refine (held_inv (FAL.out wr (HTW.out wr hO)) hO).mono ?_
        rintro e w1 ⟨rfl,hO1,hOW⟩
        go_wp2_with fail
        refine hK.out _ _ ⟨?_,hO1⟩
        simp only [fill_eq,List.take_succ_cons,List.take_zero,List.cons_append,List.nil_append,Act.put,List.setIfInBounds_toArray,List.set_cons_zero,List.set_cons_succ,sel_new]
        rfl
      ·as_aux_lemma =>
        rintro l a wr ⟨ha,hO⟩ hl hd K' hK
        have d0 := hd 0 (by decide)
        have hx := X84.out; subst hx
        have hx := X85.out; subst hx
        simp only [fill_eq,List.take_succ_cons,List.take_zero,List.cons_append,List.nil_append,Act.put,List.setIfInBounds_toArray,List.set_cons_zero,List.set_cons_succ,sel_of d0] at ha
        subst ha
        rw [if_pos (by rfl)]
        go_simp
        refine hK.out _ _ ⟨?_,hO⟩
        simp only [fill_eq,List.take_succ_cons,List.take_zero,List.cons_append,List.nil_append,Act.put,List.setIfInBounds_toArray,List.set_cons_zero,List.set_cons_succ,sel_new,sel_dep d0]
        rfl
      ·as_aux_lemma =>
        rintro l a wr ⟨ha,hO⟩ hl hd K' hK
        have d1 := hd 1 (by decide)
        have hx := X85.out; subst hx
        have hx := X86.out; subst hx
        simp only [fill_eq,List.take_succ_cons,List.take_zero,List.cons_append,List.nil_append,Act.put,List.setIfInBounds_toArray,List.set_cons_zero,List.set_cons_succ,sel_of d1] at ha
        subst ha
        rw [if_pos (by rfl)]
        go_simp
        refine hK.out _ _ ⟨?_,hO⟩
        simp only [fill_eq,List.take_succ_cons,List.take_zero,List.cons_append,List.nil_append,Act.put,List.setIfInBounds_toArray,List.set_cons_zero,List.set_cons_succ,sel_new,sel_dep d1]
        rfl
      ·as_aux_lemma =>
        rintro l a wr ⟨ha,hO⟩ hl hd K' hK
        have d1 := hd 1 (by decide)
        have d2 := hd 2 (by decide)
        have hx := X85.out; subst hx
        have hx := X86.out; subst hx
        have hx := X87.out; subst hx
        simp only [fill_eq,List.take_succ_cons,List.take_zero,List.cons_append,List.nil_append,Act.put,List.setIfInBounds_toArray,List.set_cons_zero,List.set_cons_succ,sel_of d1,sel_of d2] at ha
        subst ha
        rw [if_pos (by rfl)]
        go_simp
        refine hK.out _ _ ⟨?_,hO⟩
        simp only [fill_eq,List.take_succ_cons,List.take_zero,List.cons_append,List.nil_append,Act.put,List.setIfInBounds_toArray,List.set_cons_zero,List.set_cons_succ,sel_new,sel_dep d1,sel_dep d2]
        rfl
      ·as_aux_lemma =>
        rintro l a wr ⟨ha,hO⟩ hl hd K' hK
        have d1 := hd 1 (by decide)
        have d3 := hd 3 (by decide)
        have hx := X85.out; subst hx
        have hx := X87.out; subst hx
        have hx := X88.out; subst hx
        simp only [fill_eq,List.take_succ_cons,List.take_zero,List.cons_append,List.nil_append,Act.put,List.setIfInBounds_toArray,List.set_cons_zero,List.set_cons_succ,sel_of d1,sel_of d3] at ha
        subst ha
        rw [if_pos (by rfl)]
        go_simp
        refine hK.out _ _ ⟨?_,hO⟩
        simp only [fill_eq,List.take_succ_cons,List.take_zero,List.cons_append,List.nil_append,Act.put,List.setIfInBounds_toArray,List.set_cons_zero,List.set_cons_succ,sel_new,sel_dep d1,sel_dep d3]
        rfl
      ·as_aux_lemma =>
        rintro l a wr ⟨ha,hO⟩ hl hd K' hK
        have d4 := hd 4 (by decide)
        have hx := X88.out; subst hx
        have hx := X89.out; subst hx
        simp only [fill_eq,List.take_succ_cons,List.take_zero,List.cons_append,List.nil_append,Act.put,List.setIfInBounds_toArray,List.set_cons_zero,List.set_cons_succ,sel_of d4] at ha
        subst ha
        rw [if_pos (by rfl)]
        go_simp
        refine hK.out _ _ ⟨?_,hO⟩
        simp only [fill_eq,List.take_succ_cons,List.take_zero,List.cons_append,List.nil_append,Act.put,List.setIfInBounds_toArray,List.set_cons_zero,List.set_cons_succ,sel_new,sel_dep d4]
        rfl
      ·as_aux_lemma =>
        rintro l a wr ⟨ha,hO⟩ hl hd K' hK
        have d5 := hd 5 (by decide)
        have hx := X89.out; subst hx
        have hx := X90.out; subst hx
        simp only [fill_eq,List.take_succ_cons,List.take_zero,List.cons_append,List.nil_append,Act.put,List.setIfInBounds_toArray,List.set_cons_zero,List.set_cons_succ,sel_of d5] at ha
        subst ha
        have hc := HK.out wr hO
        have p0 := hc.2.2.1.1
        have p1 := hc.2.2.1.2.1
        have p2 := hc.2.2.1.2.2.1
        have p3 := hc.2.2.1.2.2.2
        clear hc
        rw [if_pos (by rfl)]
        go_simp
        refine hK.out _ _ ⟨?_,hO⟩
        simp only [fill_eq,List.take_succ_cons,List.take_zero,List.cons_append,List.nil_append,Act.put,List.setIfInBounds_toArray,List.set_cons_zero,List.set_cons_succ,sel_new,sel_dep d5]
        rfl
      ·as_aux_lemma =>
        rintro l a wr ⟨ha,hO⟩ hl hd K' hK
        have d5 := hd 5 (by decide)
        have hx := X89.out; subst hx
        have hx := X91.out; subst hx
        simp only [fill_eq,List.take_succ_cons,List.take_zero,List.cons_append,List.nil_append,Act.put,List.setIfInBounds_toArray,List.set_cons_zero,List.set_cons_succ,sel_of d5] at ha
        subst ha
        have hc := HK.out wr hO
        have p0 := hc.1.1
        have p1 := hc.1.2.1
        have p2 := hc.1.2.2.1
        have p3 := hc.1.2.2.2
        clear hc
        rw [if_pos (by rfl)]
        go_simp
        refine hK.out _ _ ⟨?_,hO⟩
        simp only [fill_eq,List.take_succ_cons,List.take_zero,List.cons_append,List.nil_append,Act.put,List.setIfInBounds_toArray,List.set_cons_zero,List.set_cons_succ,sel_new,sel_dep d5]
        rfl
      ·as_aux_lemma =>
        rintro l a wr ⟨ha,hO⟩ hl hd K' hK
        have d5 := hd 5 (by decide)
        have hx := X89.out; subst hx
        have hx := X92.out; subst hx
        simp only [fill_eq,List.take_succ_cons,List.take_zero,List.cons_append,List.nil_append,Act.put,List.setIfInBounds_toArray,List.set_cons_zero,List.set_cons_succ,sel_of d5] at ha
        subst ha
        have hc := HK.out wr hO
        have p0 := hc.2.1.1
        have p1 := hc.2.1.2.1
        have p2 := hc.2.1.2.2.1
        have p3 := hc.2.1.2.2.2
        clear hc
        rw [if_pos (by rfl)]
        go_simp
        refine hK.out _ _ ⟨?_,hO⟩
        simp only [fill_eq,List.take_succ_cons,List.take_zero,List.cons_append,List.nil_append,Act.put,List.setIfInBounds_toArray,List.set_cons_zero,List.set_cons_succ,sel_new,sel_dep d5]
        rfl
      ·as_aux_lemma =>
        rintro l a wr ⟨ha,hO⟩ hl hd K' hK
        have d5 := hd 5 (by decide)
        have d7 := hd 7 (by decide)
        have d8 := hd 8 (by decide)
        have hx := X89.out; subst hx
        have hx := X91.out; subst hx
        have hx := X92.out; subst hx
        have hx := X93.out; subst hx
        simp only [fill_eq,List.take_succ_cons,List.take_zero,List.cons_append,List.nil_append,Act.put,List.setIfInBounds_toArray,List.set_cons_zero,List.set_cons_succ,sel_of d5,sel_of d7,sel_of d8] at ha
        subst ha
        rw [if_pos (by rfl)]
        go_simp
        refine (held_inv (FFm.out wr) hO).mono ?_
        rintro e w1 ⟨rfl,hO1,hOW⟩
        go_wp2_with fail
        refine hK.out _ _ ⟨?_,hO1⟩
        simp only [fill_eq,List.take_succ_cons,List.take_zero,List.cons_append,List.nil_append,Act.put,List.setIfInBounds_toArray,List.set_cons_zero,List.set_cons_succ,sel_new,sel_dep d5,sel_dep d7,sel_dep d8]
        rfl
      ·as_aux_lemma =>
        rintro l a wr ⟨ha,hO⟩ hl hd K' hK
        have d5 := hd 5 (by decide)
        have d6 := hd 6 (by decide)
        have d9 := hd 9 (by decide)
        have hx := X89.out; subst hx
        have hx := X90.out; subst hx
        have hx := X93.out; subst hx
        have hx := X94.out; subst hx
        simp only [fill_eq,List.take_succ_cons,List.take_zero,List.cons_append,List.nil_append,Act.put,List.setIfInBounds_toArray,List.set_cons_zero,List.set_cons_succ,sel_of d5,sel_of d6,sel_of d9] at ha
        subst ha
        rw [if_pos (by rfl)]
        go_simp
        refine hK.out _ _ ⟨?_,hO⟩
        simp only [fill_eq,List.take_succ_cons,List.take_zero,List.cons_append,List.nil_append,Act.put,List.setIfInBounds_toArray,List.set_cons_zero,List.set_cons_succ,sel_new,sel_dep d5,sel_dep d6,sel_dep d9]
        rfl
      ·as_aux_lemma =>
        rintro l a wr ⟨ha,hO⟩ hl hd K' hK
        have d5 := hd 5 (by decide)
        have d10 := hd 10 (by decide)
        have hx := X89.out; subst hx
        have hx := X94.out; subst hx
        have hx := X95.out; subst hx
        simp only [fill_eq,List.take_succ_cons,List.take_zero,List.cons_append,List.nil_append,Act.put,List.setIfInBounds_toArray,List.set_cons_zero,List.set_cons_succ,sel_of d5,sel_of d10] at ha
        subst ha
        rw [if_pos (by rfl)]
        go_simp
        refine hK.out _ _ ⟨?_,hO⟩
        simp only [fill_eq,List.take_succ_cons,List.take_zero,List.cons_append,List.nil_append,Act.put,List.setIfInBounds_toArray,List.set_cons_zero,List.set_cons_succ,sel_new,sel_dep d5,sel_dep d10]
        rfl
      ·as_aux_lemma =>
        rintro l a wr ⟨ha,hO⟩ hl hd K' hK
        have d11 := hd 11 (by decide)
        have hx := X95.out; subst hx
        have hx := X6.out; subst hx
        simp only [fill_eq,List.take_succ_cons,List.take_zero,List.cons_append,List.nil_append,Act.put,List.setIfInBounds_toArray,List.set_cons_zero,List.set_cons_succ,sel_of d11] at ha
        subst ha
        rw [if_pos (by rfl)]
        go_simp
        refine hK.out _ _ ⟨?_,hO⟩
        simp only [fill_eq,List.take_succ_cons,List.take_zero,List.cons_append,List.nil_append,Act.put,List.setIfInBounds_toArray,List.set_cons_zero,List.set_cons_succ,sel_new,sel_dep d11]
        rfl
      ·rintro l a wc ⟨ha,hO⟩ hd
       simp only [fill_eq,List.take_succ_cons,List.take_zero,List.cons_append,List.nil_append,Act.put,List.setIfInBounds_toArray,List.set_cons_zero,List.set_cons_succ,sel_of (hd 0 (by decide)),sel_of (hd 1 (by decide)),sel_of (hd 2 (by decide)),sel_of (hd 3 (by decide)),sel_of (hd 4 (by decide)),sel_of (hd 5 (by decide)),sel_of (hd 6 (by decide)),sel_of (hd 7 (by decide)),sel_of (hd 8 (by decide)),sel_of (hd 9 (by decide)),sel_of (hd 10 (by decide)),sel_of (hd 11 (by decide)),sel_of (hd 12 (by decide))] at ha
       subst ha
       have hx := X6.out; subst hx
       have HOf := Lib.hid (HOw.out.trans hO (fun _ _ c => c))
       clear hO hd
       go_wp2
       go_ret
       exact ⟨rfl,HOf.out⟩
   ·have hnp : ¬ (n1 : Int) = (n2 : Int) := by omega
    have hni : decide ((n1 : Int) ≠ (n2 : Int)) = true := by simp; omega
    have hne2 : ((n1 : Int) == (n2 : Int)) = false := by simp; omega
    have e1 := fun W => (show (Op.equalIn 10000 30 (.agg #[.int .u64 0,.int .u64 0,.int .u64 0,.int .u64 0]) (.agg #[.int .u64 0,.int .u64 0,.int .u64 0,.int .u64 0])).run Tryd.prog W = .ok true W from by have h := equalIn_elem_same 0 W; rw [lit_small 0 (by decide)] at h; exact h)
    have FD := Lib.hid (show ∀ W v u,Ls W v (vs.map (fm p)) -> Ls W u (us.map (fm p)) -> Calls Tryd.prog 21 #[.pointer none,FV id p i r s,v,u] W fun e w' => e = .returned (.tuple #[.agg #[.int .u64 0,.int .u64 0,.int .u64 0,.int .u64 0],.int .i64 8]) /\ Off (fun _ => False) W w' from fun W v u h k => by have g := dot_ls_len (id := id) (p := p) (i0 := i) (r := r) (s := s) (vs.map (fm p)) (us.map (fm p)) (by rw [List.length_map,List.length_map]; omega) v u W h k; rw [lit_small 0 (by decide)] at g; exact g)
    clear hnn hF hid hp h1 hp0 hbig hn1 w1 hnl1 hnm1 hxs1 hn2 w2 hnl2 hnm2 hxs2 hvs hvsl hvsp hus husl husp hmx hmx2
    go_enter Tryd.func6,Tryd.ntmps6
    go_wp2_with fail
    refine (FG.out _ (hT.off (Off.refl _ w))).mono ?_
    rintro e u0 ⟨rfl,hO1⟩
    obtain ⟨W1,hW1⟩ : ∃ W1,W1 = (u0.alloc (.cells #[.int .i64 id,.int .u64 (wd p 0 : Int),.int .u64 (wd p 1 : Int),.int .u64 (wd p 2 : Int),.int .u64 (wd p 3 : Int),.int .u64 (i : Int),.int .u64 (wd r 0 : Int),.int .u64 (wd r 1 : Int),.int .u64 (wd r 2 : Int),.int .u64 (wd r 3 : Int),.int .u64 (wd s 0 : Int),.int .u64 (wd s 1 : Int),.int .u64 (wd s 2 : Int),.int .u64 (wd s 3 : Int)] 32)).alloc (.cells #[.int .u64 (wd p 0 : Int),.int .u64 (wd p 1 : Int),.int .u64 (wd p 2 : Int),.int .u64 (wd p 3 : Int)] 29) := ⟨_,rfl⟩
    have o1 : Off (fun _ => False) u0 W1 := by rw [hW1]; exact ((Off.refl _ u0).alloc _).alloc _
    have g_F : W1.heap[u0.heap.size]? = some (.cells #[.int .i64 id,.int .u64 (wd p 0 : Int),.int .u64 (wd p 1 : Int),.int .u64 (wd p 2 : Int),.int .u64 (wd p 3 : Int),.int .u64 (i : Int),.int .u64 (wd r 0 : Int),.int .u64 (wd r 1 : Int),.int .u64 (wd r 2 : Int),.int .u64 (wd r 3 : Int),.int .u64 (wd s 0 : Int),.int .u64 (wd s 1 : Int),.int .u64 (wd s 2 : Int),.int .u64 (wd s 3 : Int)] 32 (0,0)) := by rw [hW1]; exact heap_old' (heap_new' rfl _) _
    have g_P : W1.heap[u0.heap.size + 1]? = some (.cells #[.int .u64 (wd p 0 : Int),.int .u64 (wd p 1 : Int),.int .u64 (wd p 2 : Int),.int .u64 (wd p 3 : Int)] 29 (0,0)) := by rw [hW1]; exact heap_new' (by simp) _
    obtain ⟨fb,hfb⟩ : ∃ fb,fb = u0.heap.size := ⟨_,rfl⟩
    obtain ⟨pb,hpb⟩ : ∃ pb,pb = u0.heap.size + 1 := ⟨_,rfl⟩
    rw [<- hfb] at g_F
    rw [<- hpb] at g_P
    have hOw := hO1.trans o1 (fun _ _ c => c)
    clear hO1 o1
    rw [hW1] at hOw g_F g_P
    go_wp2_with fail
    rw [<- hW1] at hOw g_F g_P ⊢
    rw [<- hpb,<- hfb]
    refine (FV1.out _ _ (HL1.out.off hOw)).mono ?_
    rintro e u1 ⟨z1,z2,rfl,h_z1,h_z2,hO1⟩
    have g_F := hO1.heap g_F (fun c => c)
    have g_P := hO1.heap g_P (fun c => c)
    have hOw := hOw.trans hO1 (fun _ _ c => c)
    clear hW1 hfb hpb
    clear hO1
    obtain ⟨p0,p1,p2,p3⟩ := cells4 g_P
    have hlp := heap_lt g_P
    have H_z1 := Lib.hid h_z1
    have H_z2 := Lib.hid h_z2
    have GF := Lib.hid g_F
    have GP := Lib.hid g_P
    have HOw := Lib.hid hOw
    clear g_F g_P hOw h_z1 h_z2
    go_wp2_with fail
    clear p0 p1 p2 p3 hlp
    have h_z1 := H_z1.out
    have h_z2 := H_z2.out
    have g_F := GF.out
    have g_P := GP.out
    have hOw := HOw.out
    clear GF GP HOw H_z1 H_z2
    refine (FV2.out _ _ (HL2.out.off hOw)).mono ?_
    rintro e u2 ⟨z3,z4,rfl,h_z3,h_z4,hO1⟩
    have g_F := hO1.heap g_F (fun c => c)
    have g_P := hO1.heap g_P (fun c => c)
    have hOw := hOw.trans hO1 (fun _ _ c => c)
    have h_z1 := h_z1.off hO1
    have h_z2 := h_z2.off hO1
    clear hO1
    obtain ⟨f0,f1,f2,f3,f4,f5,f6,f7,f8,f9,f10,f11,f12,f13⟩ := fv_cells g_F
    have hlf := heap_lt g_F
    have H_z1 := Lib.hid h_z1
    have H_z2 := Lib.hid h_z2
    have H_z3 := Lib.hid h_z3
    have H_z4 := Lib.hid h_z4
    have GF := Lib.hid g_F
    have GP := Lib.hid g_P
    have HOw := Lib.hid hOw
    clear g_F g_P hOw h_z1 h_z2 h_z3 h_z4
    go_wp2_with fail
    clear f0 f1 f2 f3 f4 f5 f6 f7 f8 f9 f10 f11 f12 f13 hlf
    have h_z1 := H_z1.out
    have h_z2 := H_z2.out
    have h_z3 := H_z3.out
    have h_z4 := H_z4.out
    have g_F := GF.out
    have g_P := GP.out
    have hOw := HOw.out
    clear GF GP HOw H_z1 H_z2 H_z3 H_z4
    refine (FD.out _ _ _ h_z2 h_z4).mono ?_
    rintro e u3 ⟨rfl,hO1⟩
    have g_F := hO1.heap g_F (fun c => c)
    have g_P := hO1.heap g_P (fun c => c)
    have hOw := hOw.trans hO1 (fun _ _ c => c)
    have h_z1 := h_z1.off hO1
    have h_z3 := h_z3.off hO1
    clear hO1 h_z2 h_z4
    have HOx := Lib.hid hOw
    clear hOw g_F g_P h_z1 h_z3
    go_wp2_with fail
    refine (FAL.out _ (HTw.out.off (HOx.out.alloc _))).mono ?_
    rintro e u4 ⟨rfl,hO1⟩
    have hx : u4.heap[u3.heap.size]? = some (.cells #[.int .u64 0,.int .u64 0,.int .u64 0,.int .u64 0] 30 (0,0)) := hO1.heap (heap_new' rfl _) (fun c => c)
    obtain ⟨x0,x1,x2,x3⟩ := cells4 hx
    have hlx := heap_lt hx
    have HOf := Lib.hid ((HOx.out.alloc _).trans hO1 (fun _ _ c => c))
    clear hO1 hx
    go_wp2
    go_ret
    exact ⟨rfl,HOf.out⟩

theorem door_met (os : Os) (args : Array Value) : laidMetH Tryd.prog [("sharecore/field.fields",Rows.laid_sharecore_field_fields)] ((World.doorLaid Tryd.prog 400 os).forCall (fun _ _ => 0) ⟨#[],args,[]⟩).memory :=
 laidMetH_of_parts3 (fuel := 8) (laidMet_of_run' 8 (by kernel_rfl) (by kernel_rfl)) (by kernel_rfl) (by kernel_rfl)

set_option maxRecDepth 100000 in
theorem lifted (os : Os) (started : os.Started) (H : Type) (enc : TypeId × Value -> H) :
  ReturnsInHanded {} Tryd.checked os 6 .any (fun w args => (Rows.lagrangeDotsSpec.pre enc Tryd.prog Tryd.f6 [] false w args /\ laidMetH Tryd.prog [("sharecore/field.fields",Rows.laid_sharecore_field_fields)] w) /\ sizedMet enc Tryd.prog Tryd.f6 (OpenSpec.ofChange Rows.lagrangeDotsSpec) false w args)
   (Rows.lagrangeDotsSpec.post enc Tryd.prog Tryd.f6 false true false false) := by
 refine returnsInHanded_of_change_and (C := Tryd.checked) (X := fun w _ => laidMetH Tryd.prog [("sharecore/field.fields",Rows.laid_sharecore_field_fields)] w) (fun _ _ _ hh h => h.of_heap hh) own started (by kernel_rfl) Tryd.func6
  (ChangeSpec.witness_shaped (enc := enc) (C := Tryd.checked) (os := os) (X := fun w _ => laidMetH Tryd.prog [("sharecore/field.fields",Rows.laid_sharecore_field_fields)] w) false (World.doorLaid Tryd.prog 400 os) #[.bool false,.slice none 0 0,.slice none 0 0] 8 rfl (World.shaped_of_RefB (by kernel_rfl) (by kernel_rfl)) (by kernel_rfl) (by kernel_rfl) (by kernel_rfl) (door_met os _)) ?_
 intro W base args ds gs before hval0 hW _ _ hL _
 have hval : ∀ (j : Nat) t v,Tryd.f6.params[j]? = some t -> args[j]? = some v -> Value.okWide Tryd.prog W .any base t v := hval0
 have hW' := hW
 obtain ⟨p,q,hA0,hV,rfl,hfz,hnd⟩ := hW
 have hA : DataW.TrodAll enc Tryd.prog W 0 (fun _ => true) true Tryd.f6.params.toList args.toList ds p := hA0
 rw [Tryd.params6] at hA hval
 obtain ⟨v0,vs0,d0,ds0,p0,q0,hargs,rfl,rfl,h0,r0⟩ := trodAll_cons hA
 obtain ⟨v1,vs1,d1,ds1,p1,q1,rfl,rfl,rfl,h1,r1⟩ := trodAll_cons r0
 obtain ⟨v2,vs2,d2,ds2,p2,q2,rfl,rfl,rfl,h2,r2⟩ := trodAll_cons r1
 obtain ⟨rfl,rfl,rfl⟩ := trodAll_nil r2
 obtain rfl : args = #[v0,v1,v2] := by cases args; simp_all
 obtain ⟨rfl,rfl⟩ := trodVars_none hV
 obtain ⟨i0,rfl,rfl,rfl⟩ := open_bool Tryd.underlying4 (hval 0 4 v0 rfl rfl) h0
 have w0 := trivial
 obtain ⟨a1,n1,cap1,rfl⟩ := okWide_slice Tryd.underlying39 (hval 1 39 v1 rfl rfl)
 have k1 := h1
 have lt1 : ∀ x ∈ p1,x.block < W.heap.size := by obtain ⟨m,hm⟩ := k1; exact DataW.trod_lt m _ _ _ hm
 obtain ⟨xs1,hn1,w1⟩ : ∃ xs,n1 = xs.length /\ VsAt W (.slice a1 n1 cap1) xs (fun k => k < W.heap.size) := by
  obtain ⟨fuel,hf⟩ := h1
  exact vecs_of_trod hf
 obtain ⟨a2,n2,cap2,rfl⟩ := okWide_slice Tryd.underlying39 (hval 2 39 v2 rfl rfl)
 have k2 := h2
 have lt2 : ∀ x ∈ p2,x.block < W.heap.size := by obtain ⟨m,hm⟩ := k2; exact DataW.trod_lt m _ _ _ hm
 obtain ⟨xs2,hn2,w2⟩ : ∃ xs,n2 = xs.length /\ VsAt W (.slice a2 n2 cap2) xs (fun k => k < W.heap.size) := by
  obtain ⟨fuel,hf⟩ := h2
  exact vecs_of_trod hf
 have hT := tab_of_laid hL
 clear hA0 hval0
 refine (walk i0 a1 n1 cap1 xs1 a2 n2 cap2 xs2 W w0 hn1 w1 hn2 w2 hT).mono fun e W' ⟨he,hoff⟩ => ?_
 have bel : Below W.heap.size W W' := hoff.below (Nat.le_refl _) (fun _ _ c => c)
 subst he
 exact ⟨_,rfl,_,_,_,[],_,[],hW',trodAll_mk1 (shut_bool Tryd.underlying4 _),(trodAll_cons_mk (shut_bool Tryd.underlying4 _) (trodAll_cons_mk (Below.trod laidOut (by kernel_rfl) (of_decide_eq_true (by kernel_rfl)) k1 bel lt1) (trodAll_cons_mk (Below.trod laidOut (by kernel_rfl) (of_decide_eq_true (by kernel_rfl)) k2 bel lt2) trodAll_mk0))),rfl,bel.frame _,fun h => by cases h⟩

theorem over : Rows.lagrangeDotsRow.holds Tryd.pinned (OpenSpec.ofChange Rows.lagrangeDotsSpec) :=
 OpenClaim.holds_of_wide 6 Tryd.f6 rfl rfl rfl rfl rfl rfl rfl ⟨rfl,rfl,rfl,rfl,rfl⟩ rfl rfl rfl rfl rfl (by kernel_rfl) Tryd.func6 (by kernel_rfl)
  (of_decide_eq_true (by kernel_rfl)) (by unfold Func.isWrapper; first | (rw [if_pos (by decide +kernel)]; kernel_rfl) | (rw [if_neg (by decide +kernel)]; exact ⟨rfl,rfl⟩))
  (fun os started H enc _ => lifted os started H enc)

theorem proved : Rows.LagrangeDotsCardSaid :=
 Claim7.holds_tied_plain_at .later [] [.data] true (true,"52e3f175f7e7c68eca78e9b4b0e19955f01f7bfa3cfafd6aaba7d864c2871f24") false
  over (fun _ h => by cases h) (by kernel_rfl) (fun _ h => by cases h) lagrangeDots_row_tie rfl ⟨rfl,rfl⟩ (by kernel_rfl) rfl
  (fun f fn hf hfn => by
   obtain rfl : f = 6 := Option.some.inj ((show Tryd.prog.funcNamed "sharecore/sharecorelaw09.LagrangeDots" = some 6 by kernel_rfl).symm.trans hf) |>.symm
   obtain rfl : fn = Tryd.f6 := (Option.some.inj (Tryd.func6.symm.trans hfn)).symm
   exact ⟨by kernel_rfl,fun j t ht => by
    rw [Tryd.params6] at ht
    have hm : t ∈ [4,39] := by simpa using Array.mem_of_getElem? ht
    have hall : ([4,39].all fun u => !Tryd.prog.wantsStandIn u) = true := by kernel_rfl
    exact (show Tryd.prog.wantsStandIn t = false by simpa using List.all_eq_true.1 hall t hm)⟩)
  (by kernel_rfl)
#print axioms proved
end Go.Proofs.YtcebegfnplplcaaDoor.lagrangeDots
-- squeezed
