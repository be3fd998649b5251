/-
  For every field, list of numbers and polynomial, the examples of the chapter hold, Interpolate of the polynomial's values yields the polynomial, and Dot with Zero's coefficients its value at zero: the statement of P9.6. No condition.
-/
import Derived.Test.YtcebegfnplplcaaDoorRows
import Derived.Test.YtcebegfnplplcaaDoorTie
import Derived.Test.YtcebegfnplplcaaDoorCards
import Derived.LaidMore
import Derived.LaidHandle
import Derived.SevenTiedAt
import Derived.Stop.Joined
import Derived.JoinedOf
import Derived.Test.YtcebegfnplplcaaDoorLimbWords
import Derived.Test.YtcebegfnplplcaaDoorIntAll
import Derived.Test.YtcebegfnplplcaaDoorVecOpen
import Derived.Test.YtcebegfnplplcaaDoorFieldTab
import Derived.Test.YtcebegfnplplcaaDoorFieldHeld
import Derived.Test.YtcebegfnplplcaaDoorLagAlive
import Derived.Test.YtcebegfnplplcaaDoorLagBase
import Derived.Test.YtcebegfnplplcaaDoorLagProg
import Derived.Test.YtcebegfnplplcaaDoorLagRefs
import Derived.Test.YtcebegfnplplcaaDoorLagApp
import Derived.Test.YtcebegfnplplcaaDoorLagEval
import Derived.Test.YtcebegfnplplcaaDoorPolLists
import Derived.Test.YtcebegfnplplcaaDoorInvAll
import Derived.WalkKit
import Derived.ProofKit
import Derived.OpenShut
import Derived.ShutString
import Derived.ChangeOld
import Derived.Below
namespace Go.Proofs.YtcebegfnplplcaaDoor.lagrangeRecovers
open Go.ChangeShapes Go.WideShapes Go.ChangeAt Go.RowKit
set_option linter.unusedVariables false

theorem own : ownKnob Tryd.prog.godebug = none := by kernel_rfl
theorem laidOut : laidOutB Tryd.prog = true := by kernel_rfl

theorem mods_lt {p : Nat} (h : 0 < p) (xs : List Nat) : ∀ v ∈ xs.map (· % p),v < p := by
 intro v hv
 obtain ⟨x,_,rfl⟩ := List.mem_map.1 hv
 exact Nat.mod_lt _ h
theorem itp_ls_new {id : Int} {p i0 r s : Nat} (hF : Fld id p i0 r s) (xs : List Int) (hc : chkV xs = 0) (hl : xs.length <= 90) (ys : List Nat) (hy : ys.length = xs.length) (v u : Value) (w : World) (hV : Iv w v xs) (hU : Ls w u (ys.map (fm p))) :
  Calls Tryd.prog 19 #[.pointer none,FV id p i0 r s,v,u] w fun e w' => ∃ z,e = .returned (.tuple #[z,.int .i64 0]) /\ LsAt w' z ((itpL p (ptV xs) ys).map (fm p)) (fun j => w.heap.size <= j) /\ Off (fun _ => False) w w' := by
 obtain ⟨a2,cap2,rfl,hL⟩ := hV.open
 obtain ⟨a,cap,rfl,hM⟩ := hU.open
 rw [List.length_map,hy] at hM ⊢
 refine (itp_ok hF xs hc xs.length rfl hl ys hy.symm none [] (fun _ => False) _ a2 a cap2 cap w hV hM none_lst (Tp.none w) (by simp)).mono ?_
 rintro e w' ⟨z,rfl,hz,_,hO⟩
 exact ⟨z,rfl,hz.ls (by rw [List.length_map,itpL,itpF_length p _ _ _ (Nat.le_refl _),ptV_length]; omega),hO⟩
theorem words4_el {w : World} {b off r : Nat} (h : elAt w b off r) : ∀ j u,(words4 r)[j]? = some u -> w.cell? ((⟨b,off,none⟩ : Addr).add j) = some u := by
 intro j u hj
 obtain ⟨c0,c1,c2,c3⟩ := h
 rw [Addr.add_lit]
 have hjl := (List.getElem?_eq_some_iff.1 hj).1
 have : j = 0 ∨ j = 1 ∨ j = 2 ∨ j = 3 := by simp [words4] at hjl; omega
 rcases this with rfl | rfl | rfl | rfl <;> simp [words4] at hj <;> subst hj <;> assumption
theorem built_r (w : World) (m : Nat) : Ls (w.alloc (.cells #[.int .u64 (wd m 0 : Int),.int .u64 (wd m 1 : Int),.int .u64 (wd m 2 : Int),.int .u64 (wd m 3 : Int)] 30 (0,0))) (.slice (some ⟨w.heap.size,0,none⟩) 1 1) [m] := ls_build w [m] (by simp) 30
theorem wp_append_run {w : World} {o : Oper} {a : Act} {K : Act -> World -> Prop} {Q : Exit -> Act -> World -> Prop} (s x : Operand) (t : TypeId) (ho : o.op = .call { callee := .builtin .append,args := #[s,x],argTypes := #[t,t] }) (v1 v2 : Value) (hs : a.eval s = v1) (hx : a.eval x = v2) {v' : Value} {w' : World}
  (hr : (Builtin.append_ #[t,t] o.type #[v1,v2]).run Tryd.prog w = .ok v' w') (h : K (a.put o.dst v') w') : o.wp Tryd.prog a w K Q := by
 unfold Oper.wp execOp
 simp only [ho,resolve,invoke,builtin,Sem.run_bind,Sem.run_pure,Result.andThen_ok,List.map_toArray,List.map_cons,List.map_nil,hs,hx,hr]
 exact h
/-- A list of the call's own that takes one element more at operation i. -/
def OwT (B : Nat) (T : TypeId) (v0 : Value) (k : Nat) (x0 x1 : List Value) (l : Nat -> Bool) (i : Nat) (u : Value) (w : World) : Prop := (l i = false -> w.ownsRow B T 4 v0 k x0) /\ (l i = true -> w.ownsRow B T 4 u (k + 1) x1)
theorem OwT.keep {B : Nat} {T : TypeId} {v0 : Value} {k : Nat} {x0 x1 : List Value} {l : Nat -> Bool} {i j : Nat} {u : Value} {w w' : World} (h : OwT B T v0 k x0 x1 l i u w) (ho : Off (fun _ => False) w w') (hj : (j == i) = false) : OwT B T v0 k x0 x1 (upd l j) i u w' := by
 unfold OwT
 rw [upd_k l hj]
 exact ⟨fun hl => own_off (h.1 hl) ho,fun hl => own_off (h.2 hl) ho⟩
/-- A slice of numbers that is told till operation t. -/
def LkU (l : Nat -> Bool) (i t : Nat) (u : Value) (w : World) (xs : List Nat) : Prop := l i = true -> l t = false -> Ls w u xs
theorem LkU.keep {l : Nat -> Bool} {i t j : Nat} {u : Value} {w w' : World} {xs : List Nat} (h : LkU l i t u w xs) (ho : Off (fun _ => False) w w') (hi : (j == i) = false) (ht : (j == t) = false) : LkU (upd l j) i t u w' xs := fun h1 h2 => by
 rw [upd_k l hi] at h1; rw [upd_k l ht] at h2; exact (h h1 h2).off ho
/-- A list of the call's own that an assign has taken over. -/
def OwN (B : Nat) (T : TypeId) (n : Nat) (x : List Value) (l : Nat -> Bool) (i t : Nat) (u : Value) (w : World) : Prop := l i = true -> l t = true /\ w.ownsRow B T 4 u n x
theorem OwN.keep {B : Nat} {T : TypeId} {n : Nat} {x : List Value} {l : Nat -> Bool} {i t j : Nat} {u : Value} {w w' : World} (h : OwN B T n x l i t u w) (ho : Off (fun _ => False) w w') (hi : (j == i) = false) (ht : (j == t) = false) : OwN B T n x (upd l j) i t u w' := fun h1 => by
 rw [upd_k l hi] at h1
 exact ⟨by rw [upd_k l ht]; exact (h h1).1,own_off (h h1).2 ho⟩
theorem OwN.past {B : Nat} {T : TypeId} {n : Nat} {x : List Value} {l : Nat -> Bool} {i t : Nat} {u : Value} {w w' : World} (h : OwN B T n x l i t u w) (hl : l t = false) (hi : (t == i) = false) : OwN B T n x (upd l t) i t u w' := fun h1 => by
 rw [upd_k l hi] at h1; have h2 := (h h1).1; rw [hl] at h2; cases h2
theorem OwT.new {B : Nat} {T : TypeId} {v0 : Value} {k : Nat} {x0 x1 : List Value} {l : Nat -> Bool} {i : Nat} {u : Value} {w : World} (h : w.ownsRow B T 4 u (k + 1) x1) : OwT B T v0 k x0 x1 (upd l i) i u w := ⟨fun h => (by rw [upd_same] at h; cases h),fun _ => h⟩
theorem OwT.start {B : Nat} {T : TypeId} {v0 : Value} {k : Nat} {x0 x1 : List Value} {i : Nat} {u : Value} {w : World} (h : w.ownsRow B T 4 v0 k x0) : OwT B T v0 k x0 x1 (fun _ => false) i u w := ⟨fun _ => h,fun h => (by cases h)⟩
/-- A list of the call's own till operation i. -/
def OwB (B : Nat) (T : TypeId) (v : Value) (k : Nat) (x : List Value) (l : Nat -> Bool) (i : Nat) (w : World) : Prop := l i = false -> w.ownsRow B T 4 v k x
theorem OwB.keep {B : Nat} {T : TypeId} {v : Value} {k : Nat} {x : List Value} {l : Nat -> Bool} {i j : Nat} {w w' : World} (h : OwB B T v k x l i w) (ho : Off (fun _ => False) w w') (hj : (j == i) = false) : OwB B T v k x (upd l j) i w' := fun hl => by
 rw [upd_k l hj] at hl; exact own_off (h hl) ho
theorem OwB.gone {B : Nat} {T : TypeId} {v : Value} {k : Nat} {x : List Value} {l : Nat -> Bool} {i : Nat} {w : World} : OwB B T v k x (upd l i) i w := fun h => by rw [upd_same] at h; cases h
theorem LkU.gone {l : Nat -> Bool} {i t : Nat} {u : Value} {w : World} {xs : List Nat} : LkU (upd l t) i t u w xs := fun _ h => by rw [upd_same] at h; cases h
set_option maxRecDepth 100000 in
set_option maxHeartbeats 4000000 in
theorem walk (i0 : Bool) (a1 : Option Addr) (n1 cap1 : Nat) (is1 : List Int) (a2 : Option Addr) (n2 cap2 : Nat) (xs2 : List Nat) (w : World) (w0 : True) (hn1 : n1 = is1.length) (w1 : IvAt w (.slice a1 n1 cap1) is1 (fun k => k < w.heap.size)) (hn2 : n2 = xs2.length) (w2 : VsAt w (.slice a2 n2 cap2) xs2 (fun k => k < w.heap.size)) (hT : TabAt w) :
  Calls Tryd.prog 8 #[.bool i0,.slice a1 n1 cap1,.slice a2 n2 cap2] w fun e w' => e = .returned (.bool true) /\ Off (fun _ => False) w w' := by
 obtain ⟨id,p,i,r,s,hF,hid⟩ := fld_of i0
 have hp := hF.mp.lt
 have h1 := hF.mp.one
 have hp0 : 0 < p := by omega
 obtain ⟨_,_,_,hbig⟩ := fld_full hF
 have FG := Lib.hid (fun W hT => get9_any i0 hF hid W hT)
 have FAL : Hid (∀ W,TabAt W -> Calls Tryd.prog 9 #[] W fun e w' => e = .returned (.bool true) /\ Off (fun _ => False) W w') := Lib.hid (fun W hT => alive9_any W hT)
 have HL := Lib.hid (Iv.of w1)
 obtain ⟨hnl2,hnm2,hxs2⟩ := w2.len
 obtain ⟨hnl1,hnm1,hwf1⟩ := w1.len
 by_cases hmx : 6 < n1
 ·have hbi : decide ((6 : Int) < (n1 : Int)) = true := by simp; omega
  have hbp : (6 : Int) < (n1 : Int) := by omega
  clear hn1 w1 hF hid hp h1 hp0 FG hbig hn2 w2 hnl2 hnm2 hxs2 hnl1 hnm1 hwf1 HL hmx
  go_enter Tryd.func8,Tryd.ntmps8
  go_wp2_with fail
  refine (FAL.out _ (hT.off (Off.refl _ w))).mono ?_
  rintro e u0 ⟨rfl,hO⟩
  have HO := Lib.hid ((Off.refl _ w : Off (fun _ => False) w _).trans hO (fun _ _ c => c))
  clear hO
  go_wp2
  go_ret
  exact ⟨rfl,HO.out⟩
 ·have hbi : decide ((6 : Int) < (n1 : Int)) = false := by simp; omega
  have hbp : ¬ (6 : Int) < (n1 : Int) := by omega
  by_cases hmx2 : n1 < n2
  ·have hbi2 : decide ((n1 : Int) < (n2 : Int)) = true := by simp; omega
   have hbp2 : (n1 : Int) < (n2 : Int) := by omega
   clear hn1 w1 hF hid hp h1 hp0 FG hbig hn2 w2 hnl2 hnm2 hxs2 hnl1 hnm1 hwf1 HL hmx hmx2
   go_enter Tryd.func8,Tryd.ntmps8
   go_wp2_with fail
   refine (FAL.out _ (hT.off (Off.refl _ w))).mono ?_
   rintro e u0 ⟨rfl,hO⟩
   have HO := Lib.hid ((Off.refl _ w : Off (fun _ => False) w _).trans hO (fun _ _ c => c))
   clear hO
   go_wp2
   go_ret
   exact ⟨rfl,HO.out⟩
  ·have hbi2 : decide ((n1 : Int) < (n2 : Int)) = false := by simp; omega
   have hbp2 : ¬ (n1 : Int) < (n2 : Int) := by omega
   by_cases hc : chkV is1 = 0
   ·have FC := Lib.hid (show ∀ W,Iv W (.slice a1 n1 cap1) is1 -> Calls Tryd.prog 11 #[.slice a1 n1 cap1] W fun e w' => e = .returned (.int .i64 0) /\ Off (fun _ => False) W w' from fun W h => by have g := refcheck_any is1 (by omega) _ W h; rw [hc] at g; exact g)
    by_cases hz2 : n2 = 0
    ·subst hz2
     clear hc hmx hmx2 hbi2 hbp2 hn1 w1 hF hid hp h1 hp0 FG hbig hn2 w2 hnl2 hnm2 hxs2 hnl1 hnm1 hwf1
     go_enter Tryd.func8,Tryd.ntmps8
     go_wp2_with fail
     refine (FC.out _ HL.out).mono ?_
     rintro e w0' ⟨rfl,hOc⟩
     have HOc := Lib.hid hOc
     clear hOc
     go_wp2_with fail
     refine (FAL.out _ (hT.off HOc.out)).mono ?_
     rintro e u0 ⟨rfl,hO⟩
     have HO := Lib.hid (HOc.out.trans hO (fun _ _ c => c))
     clear hO HOc
     go_wp2
     go_ret
     exact ⟨rfl,HO.out⟩
    ·have hz2i : ¬ (n2 : Int) = 0 := by omega
     have hz2e : ((n2 : Int) == 0) = false := by simp; omega
     have hz2d : decide ((n2 : Int) = 0) = false := by simp; omega
     obtain ⟨vs,hvs⟩ : ∃ l,l = xs2.map (· % p) := ⟨_,rfl⟩
     have hvsl : vs.length = n2 := by rw [hvs,List.length_map]; exact hnl2.symm
     have hvsp : ∀ v ∈ vs,v < p := by rw [hvs]; exact mods_lt hp0 xs2
     obtain ⟨hr,hnd⟩ := chkV_zero hc
     obtain ⟨ps,hps⟩ : ∃ l,l = ptV is1 := ⟨_,rfl⟩
     obtain ⟨ys,hys⟩ : ∃ l,l = ps.map (fun x => pv vs x % p) := ⟨_,rfl⟩
     obtain ⟨es,hes⟩ : ∃ l,l = ys.map (fm p) := ⟨_,rfl⟩
     have hpl : ps.length = n1 := by rw [hps]; simp [ptV]; omega
     have hyl : ys.length = n1 := by rw [hys,List.length_map]; exact hpl
     have hel : es.length = n1 := by rw [hes,List.length_map]; exact hyl
     have FV2 := Lib.hid (show ∀ W v,Ls W v xs2 -> Calls Tryd.prog 18 #[V p,v] W fun e w' => ∃ g c g2 c2,e = .returned (.tuple #[.slice (some ⟨g,0,none⟩) n2 c,.slice (some ⟨g2,0,none⟩) n2 c2]) /\ w'.ownsRow W.heap.size 29 4 (.slice (some ⟨g,0,none⟩) n2 c) n2 (flat4 vs) /\ w'.ownsRow W.heap.size 30 4 (.slice (some ⟨g2,0,none⟩) n2 c2) n2 (flat4 (vs.map (fm p))) /\ Ls w' (.slice (some ⟨g2,0,none⟩) n2 c2) (vs.map (fm p)) /\ Off (fun _ => False) W w' from fun W v h => by
      refine (values_own hp h1 xs2 hxs2 (by omega) v W h).mono ?_
      rintro e w' ⟨a,c,a2,c2,rfl,k1,k2,hO⟩
      rw [<- hnl2,<- hvs] at k1 k2
      rw [<- hnl2]
      have k3 : n2 = n2 - 1 + 1 := by omega
      obtain ⟨g,cc,e1⟩ := ownsRow_succ (k := n2 - 1) (by rw [<- k3]; exact k1)
      obtain ⟨g2,cc2,e2⟩ := ownsRow_succ (k := n2 - 1) (by rw [<- k3]; exact k2)
      obtain rfl : a = some ⟨g,0,none⟩ := by injection e1
      obtain rfl : a2 = some ⟨g2,0,none⟩ := by injection e2
      exact ⟨g,c,g2,c2,rfl,k1,k2,Ls.of (ls_of_own k2 (by rw [List.length_map,hvsl]) (by omega)),hO⟩)
     have HL2 := Lib.hid (ls_of_vs w2 (by omega))
     have HAt := Lib.hid (show ∀ W,Off (fun _ => False) w W -> ∀ k,k < n1 -> ∃ b off m,a1 = some ⟨b,off,none⟩ /\ W.cell? ⟨b,off + k,none⟩ = some (.int .i64 ((m : Nat) : Int)) /\ m < 256 /\ ps[k]? = some m from fun W h k hk => by
      obtain ⟨b,off,m,h1,h2,h3,h4⟩ := ints_at (IvAt.off w1 h (fun _ _ _ c => c)) hr hk
      rw [<- hps,List.getD_eq_getElem?_getD,List.getElem?_eq_getElem (by omega)] at h4
      exact ⟨b,off,m,h1,h2,h3,by rw [List.getElem?_eq_getElem (by omega)]; simpa using h4⟩)
     have FPt := Lib.hid (show ∀ m : Nat,m < 256 -> ∀ W,Calls Tryd.prog 33 #[.int .i64 (m : Int)] W fun e w' => e = .returned (V m) /\ Off (fun _ => False) W w' from fun m hm W => point_any m hm W)
     have FFm := Lib.hid (show ∀ m : Nat,m < 256 -> ∀ W,Calls Tryd.prog 24 #[V p,V m] W fun e w' => e = .returned (V (fm p m)) /\ Off (fun _ => False) W w' from fun m hm W => form9_any p m hp h1 (Nat.lt_trans hm (by decide +kernel)) W)
     have FEv := Lib.hid (show ∀ m W v,Ls W v (vs.map (fm p)) -> Calls Tryd.prog 32 #[.pointer none,FV id p i r s,v,V (fm p m)] W fun e w' => e = .returned (V (fm p (pv vs m % p))) /\ Off (fun _ => False) W w' from fun m W v h => eval_ls hF vs (by omega) m v W h)
     have HEs := Lib.hid (show ∀ k m,ps[k]? = some m -> es[k]? = some (fm p (pv vs m % p)) from fun k m h => by rw [hes,hys,List.getElem?_map,List.getElem?_map,h]; rfl)
     have HEl := Lib.hid hel
     have hy2 : ∀ j,j < ps.length -> ys.getD j 0 % p = pv vs (ps.getD j 0) % p := fun j hj => by
      rw [hys,List.getD_eq_getElem?_getD,List.getElem?_map,List.getD_eq_getElem?_getD,List.getElem?_eq_getElem hj]
      simp
     have hap : Apart p ps := by rw [hps]; exact ints_apart hbig hc
     have hplt : ∀ x ∈ ps,x < p := by rw [hps]; exact ptV_lt hbig hr
     obtain ⟨_,hfer,_,_⟩ := fld_full hF
     have hvl1 : vs.length <= ps.length := by omega
     have hv0 : 0 < vs.length := by omega
     obtain ⟨dl,hdl⟩ : ∃ l,l = vs ++ List.replicate (n1 - n2) 0 := ⟨_,rfl⟩
     have hitp : itpL p (ptV is1) ys = dl := by rw [<- hps,itp_values h1 hfer ps hplt hap vs hvsp hvl1 ys hy2,hdl,hpl,hvsl]
     obtain ⟨zl,hzl⟩ : ∃ l,l = zerL p (ptV is1) := ⟨_,rfl⟩
     have hzll : zl.length = n1 := by rw [hzl,zerL,List.length_map,List.length_range,<- hps]; exact hpl
     obtain ⟨y0,hy0⟩ : ∃ y,y = fm p (vs.getD 0 0) := ⟨_,rfl⟩
     have hdot : dotF p zl ys n1 = vs.getD 0 0 := by rw [hzl,<- hps,<- hpl]; exact dot_values h1 hfer ps hplt hap vs hvsp hvl1 hv0 ys hy2
     have FI := Lib.hid (show ∀ W v u,Iv W v is1 -> Ls W u es -> Calls Tryd.prog 19 #[.pointer none,FV id p i r s,v,u] W fun e w' => ∃ z,e = .returned (.tuple #[z,.int .i64 0]) /\ LsAt w' z (dl.map (fm p)) (fun j => W.heap.size <= j) /\ Off (fun _ => False) W w' from fun W v u h k => by
      have g := itp_ls_new hF is1 hc (by omega) ys (by omega) v u W h (by rw [<- hes]; exact k)
      rw [hitp] at g; exact g)
     have FZ := Lib.hid (show ∀ W v,Iv W v is1 -> Calls Tryd.prog 14 #[.pointer none,FV id p i r s,v] W fun e w' => ∃ u,e = .returned (.tuple #[u,.int .i64 0]) /\ Ls w' u (zl.map (fm p)) /\ Off (fun _ => False) W w' from fun W v h => by rw [hzl]; exact zero_ls hF is1 hc (by omega) v W h)
     have FD := Lib.hid (show ∀ W v u,Ls W v (zl.map (fm p)) -> Ls W u es -> Calls Tryd.prog 21 #[.pointer none,FV id p i r s,v,u] W fun e w' => e = .returned (.tuple #[V y0,.int .i64 0]) /\ Off (fun _ => False) W w' from fun W v u h k => by
      have g := dot_ls hF zl ys (by omega) (by omega) v u W h (by rw [<- hes]; exact k)
      rw [hzll,hdot,<- hy0] at g; exact g)
     have FSd := Lib.hid (show ∀ W u v,Ls W u (dl.map (fm p)) -> Ls W v dl -> Calls Tryd.prog 15 #[V p,u,v] W fun e w' => e = .returned (.bool true) /\ Off (fun _ => False) W w' from fun W u v h k => same9_any hp h1 dl (by
      rw [<- hitp]; exact fun x hx => Nat.lt_trans (itpF_lt hp0 _ _ _ x hx) hp) u v W h k)
     have HDl := Lib.hid hdl
     have HV0 := Lib.hid (show (vs.map (fm p))[0]? = some y0 by rw [hy0,List.getElem?_map,List.getD_eq_getElem?_getD,List.getElem?_eq_getElem hv0]; rfl)
     have HVL := Lib.hid (show n2 = vs.length from hvsl.symm)
     clear hy2 hap hplt hfer hvl1 hv0 hdl hitp hzl hzll hy0 hdot
     obtain ⟨i0',hi,hz0,hz1,hz2'⟩ := info_parts elem_info
     have HF := Lib.hid hF
     have HTw := Lib.hid hT
     have hn6 : n1 <= 6 := by omega
     clear hmx hmx2 hn1 w1 hF hid hp h1 hp0 hbig hn2 w2 hnl2 hnm2 hxs2 hnl1 hnm1 hwf1 hvs hvsl hvsp hr hnd hps hys hes hpl hyl hel hc
     go_enter Tryd.func8,Tryd.ntmps8
     go_wp2_with fail
     refine (FC.out _ HL.out).mono ?_
     rintro e w0' ⟨rfl,hOc⟩
     have HOc := Lib.hid hOc
     clear hOc
     go_wp2_with fail
     refine (FG.out _ (HTw.out.off HOc.out)).mono ?_
     rintro e u0 ⟨rfl,hO1⟩
     obtain ⟨W1,hW1⟩ : ∃ W1,W1 = (u0.alloc (.cells #[.int .i64 id,.int .u64 (wd p 0 : Int),.int .u64 (wd p 1 : Int),.int .u64 (wd p 2 : Int),.int .u64 (wd p 3 : Int),.int .u64 (i : Int),.int .u64 (wd r 0 : Int),.int .u64 (wd r 1 : Int),.int .u64 (wd r 2 : Int),.int .u64 (wd r 3 : Int),.int .u64 (wd s 0 : Int),.int .u64 (wd s 1 : Int),.int .u64 (wd s 2 : Int),.int .u64 (wd s 3 : Int)] 32)).alloc (.cells #[.int .u64 (wd p 0 : Int),.int .u64 (wd p 1 : Int),.int .u64 (wd p 2 : Int),.int .u64 (wd p 3 : Int)] 29) := ⟨_,rfl⟩
     have o1 : Off (fun _ => False) u0 W1 := by rw [hW1]; exact ((Off.refl _ u0).alloc _).alloc _
     have g_F : W1.heap[u0.heap.size]? = some (.cells #[.int .i64 id,.int .u64 (wd p 0 : Int),.int .u64 (wd p 1 : Int),.int .u64 (wd p 2 : Int),.int .u64 (wd p 3 : Int),.int .u64 (i : Int),.int .u64 (wd r 0 : Int),.int .u64 (wd r 1 : Int),.int .u64 (wd r 2 : Int),.int .u64 (wd r 3 : Int),.int .u64 (wd s 0 : Int),.int .u64 (wd s 1 : Int),.int .u64 (wd s 2 : Int),.int .u64 (wd s 3 : Int)] 32 (0,0)) := by rw [hW1]; exact heap_old' (heap_new' rfl _) _
     have g_P : W1.heap[u0.heap.size + 1]? = some (.cells #[.int .u64 (wd p 0 : Int),.int .u64 (wd p 1 : Int),.int .u64 (wd p 2 : Int),.int .u64 (wd p 3 : Int)] 29 (0,0)) := by rw [hW1]; exact heap_new' (by simp) _
     obtain ⟨fb,hfb⟩ : ∃ fb,fb = u0.heap.size := ⟨_,rfl⟩
     obtain ⟨pb,hpb⟩ : ∃ pb,pb = u0.heap.size + 1 := ⟨_,rfl⟩
     rw [<- hfb] at g_F
     rw [<- hpb] at g_P
     have hOw := (HOc.out.trans hO1 (fun _ _ c => c)).trans o1 (fun _ _ c => c)
     clear hO1 o1
     rw [hW1] at hOw g_F g_P
     go_wp2_with fail
     rw [<- hW1] at hOw g_F g_P ⊢
     rw [<- hpb,<- hfb]
     refine (FV2.out _ _ (HL2.out.off hOw)).mono ?_
     rintro e u1 ⟨g,zc,g2,zc2,rfl,hown,hown2,h_z2,hO1⟩
     obtain ⟨B0,hB0⟩ : ∃ b,b = W1.heap.size := ⟨_,rfl⟩
     rw [<- hB0] at hown hown2
     have HZ1 := Lib.hid hown
     have HZ3 := Lib.hid hown2
     have HGG := Lib.hid (show g2 ≠ g from fun e => by
      rcases rows_apart hown hown2 (by decide) with h | h
      ·simp [Value.ownBlock] at h
      ·exact h (by rw [e]; rfl))
     have HB0 := Lib.hid (show w.heap.size <= B0 by rw [hB0]; exact hOw.size)
     have HPB := Lib.hid (show pb < B0 by rw [hB0]; exact heap_lt g_P)
     clear hown hown2 hB0
     have g_F := hO1.heap g_F (fun c => c)
     have g_P := hO1.heap g_P (fun c => c)
     have hOw := hOw.trans hO1 (fun _ _ c => c)
     clear hW1 hfb hpb
     clear hO1
     have H_z2 := Lib.hid h_z2
     have GF := Lib.hid g_F
     have GP := Lib.hid g_P
     have HOw := Lib.hid hOw
     clear g_F g_P hOw h_z2
     go_wp2
     go_loopw [11,54] (fun v ix wr => ∃ k : Nat,k <= n1 /\ ix = .int .i64 (k : Int) /\ (∃ a c,v = .slice a k c /\ wr.ownsRow u1.heap.size 30 4 v k (flat4 (es.take k))) /\ Off (fun _ => False) u1 wr) (fun _ ix _ => n1 - (intOf ix).toNat)
     case atStart => exact ⟨0,Nat.zero_le _,rfl,⟨none,0,rfl,World.ownsRow_nil _ _ _ _⟩,Off.refl _ _⟩
     case round =>
      obtain ⟨k,hk,rfl,⟨va,vc,rfl,hown⟩,hO⟩ := hrel
      by_cases hlt : k < n1
      ·obtain ⟨b,off,m,rfl,c0,hm256,hpk⟩ := HAt.out wr (HOw.out.trans hO (fun _ _ c => c)) k hlt
       obtain ⟨y,hy⟩ : ∃ y,y = fm p m := ⟨_,rfl⟩
       obtain ⟨q,hq⟩ : ∃ q,q = fm p (pv vs m % p) := ⟨_,rfl⟩
       have hek : es[k]? = some q := by rw [hq]; exact HEs.out k m hpk
       have HYt := Lib.hid (show flat4 (es.take k) ++ words4 q = flat4 (es.take (k + 1)) by
        obtain ⟨hlk,hxk⟩ := List.getElem?_eq_some_iff.1 hek
        rw [List.take_succ_eq_append_getElem hlk,hxk,flat4_append]; rfl)
       have HPt := Lib.hid (fun W => FPt.out m hm256 W)
       have HFm := Lib.hid (show ∀ W,Calls Tryd.prog 24 #[V p,V m] W fun e w' => e = .returned (V y) /\ Off (fun _ => False) W w' from fun W => by rw [hy]; exact FFm.out m hm256 W)
       have HEv := Lib.hid (show ∀ W,Off (fun _ => False) u1 W -> Calls Tryd.prog 32 #[.pointer none,FV id p i r s,.slice (some ⟨g2,0,none⟩) n2 zc2,V y] W fun e w' => e = .returned (V q) /\ Off (fun _ => False) W w' from fun W h => by rw [hy,hq]; exact FEv.out m W _ (H_z2.out.off h))
       have HK : Hid (∀ W',Off (fun _ => False) u1 W' -> (W'.cell? ⟨fb,0,none⟩ = some (.int .i64 id) /\ W'.cell? ⟨fb,1,none⟩ = some (.int .u64 (wd p 0 : Int)) /\ W'.cell? ⟨fb,2,none⟩ = some (.int .u64 (wd p 1 : Int)) /\ W'.cell? ⟨fb,3,none⟩ = some (.int .u64 (wd p 2 : Int)) /\ W'.cell? ⟨fb,4,none⟩ = some (.int .u64 (wd p 3 : Int)) /\ W'.cell? ⟨fb,5,none⟩ = some (.int .u64 (i : Int)) /\ W'.cell? ⟨fb,6,none⟩ = some (.int .u64 (wd r 0 : Int)) /\ W'.cell? ⟨fb,7,none⟩ = some (.int .u64 (wd r 1 : Int)) /\ W'.cell? ⟨fb,8,none⟩ = some (.int .u64 (wd r 2 : Int)) /\ W'.cell? ⟨fb,9,none⟩ = some (.int .u64 (wd r 3 : Int)) /\ W'.cell? ⟨fb,10,none⟩ = some (.int .u64 (wd s 0 : Int)) /\ W'.cell? ⟨fb,11,none⟩ = some (.int .u64 (wd s 1 : Int)) /\ W'.cell? ⟨fb,12,none⟩ = some (.int .u64 (wd s 2 : Int)) /\ W'.cell? ⟨fb,13,none⟩ = some (.int .u64 (wd s 3 : Int))) /\ (W'.cell? ⟨pb,0,none⟩ = some (.int .u64 (wd p 0 : Int)) /\ W'.cell? ⟨pb,1,none⟩ = some (.int .u64 (wd p 1 : Int)) /\ W'.cell? ⟨pb,2,none⟩ = some (.int .u64 (wd p 2 : Int)) /\ W'.cell? ⟨pb,3,none⟩ = some (.int .u64 (wd p 3 : Int))) /\ Off (fun _ => False) u1 W') := Lib.hid (fun W' h => ⟨fv_cells (h.heap GF.out (fun c => c)),cells4 (h.heap GP.out (fun c => c)),h⟩)
       have hkn : (k : Int) < (n1 : Int) := by omega
       have hwk : IntKind.i64.wrap ((k : Int) + 1) = (k : Int) + 1 := by rw [IntKind.wrap_i64]; omega
       have HOr := Lib.hid hO
       have HOn := Lib.hid hown
       clear hO hown hy hq hek hpk hm256
       go_upto_region 9 with fail
       refine wp_region_inv (fun a0 l a' w' => ∃ (u58 : Value) (u59 : Value) (u60 : Value) (u61 : Value) (u62 : Value) (u63 : Value) (u64 : Value) (u65 : Value) (u66 : Value) (u67 : Value) (u11 : Value),a' = (Act.put (Act.put (Act.put (Act.put (Act.put (Act.put (Act.put (Act.put (Act.put (Act.put (Act.put a0 (some 58) u58) (some 59) u59) (some 60) u60) (some 61) u61) (some 62) u62) (some 63) u63) (some 64) u64) (some 65) u65) (some 66) u66) (some 67) u67) (some 11) u11) /\ Slot l 0 u58 (.slice va k vc) /\ Slot l 1 u59 (FV id p i r s) /\ Slot l 2 u60 (.slice (some ⟨g2,0,none⟩) n2 zc2) /\ Slot l 3 u61 (V p) /\ Slot l 4 u62 (.int .i64 (m : Int)) /\ Slot l 5 u63 (V m) /\ Slot l 6 u64 (V y) /\ Slot l 7 u65 (V q) /\ LkU l 8 9 u66 w' ([q]) /\ OwT u1.heap.size 30 (.slice va k vc) k (flat4 (es.take k)) (flat4 (es.take (k + 1))) l 9 u67 w' /\ OwN u1.heap.size 30 (k + 1) (flat4 (es.take (k + 1))) l 10 9 u11 w' /\ Dep l 0 9 /\ Dep l 0 10 /\ Was l 10 u11 (.slice va k vc) /\ Off (fun _ => False) u1 w') (by kernel_rfl) (by kernel_rfl) ?_ ⟨?_,?_,?_,?_,?_,?_,?_,?_,?_,?_,?_,trivial⟩ ?_
       ·refine ⟨?z58,?z59,?z60,?z61,?z62,?z63,?z64,?z65,?z66,?z67,.slice va k vc,?fr,Slot.start _ _ _,Slot.start _ _ _,Slot.start _ _ _,Slot.start _ _ _,Slot.start _ _ _,Slot.start _ _ _,Slot.start _ _ _,Slot.start _ _ _,(fun h => by cases h),OwT.start (own_off HOn.out (Off.refl _ wr).drew),(fun h => by cases h),Dep.start _ _,Dep.start _ _,Was.start _ _,HOr.out.drew⟩
        case fr => first | (simp only [Act.put,List.setIfInBounds_toArray,List.set_cons_zero,List.set_cons_succ]; rfl) | simp only [Act.put,List.setIfInBounds_toArray,List.set_cons_zero,List.set_cons_succ]
       ·intro l a wr hI hl hd K' hK
        obtain ⟨u58,u59,u60,u61,u62,u63,u64,u65,u66,u67,u11,ha,s0,s1,s2,s3,s4,s5,s6,s7,M8,M9,M10,V0_9,V0_10,W10,hO⟩ := hI
        simp only [Act.put,List.setIfInBounds_toArray,List.set_cons_zero,List.set_cons_succ] at ha
        have qw := (W10 (V0_10 hl)).symm
        subst ha qw
        go_simp
        refine hK.out _ _ ⟨_,_,_,_,_,_,_,_,_,_,_,?_,Slot.new _ _ _,s1.keep rfl,s2.keep rfl,s3.keep rfl,s4.keep rfl,s5.keep rfl,s6.keep rfl,s7.keep rfl,M8.keep (Off.refl _ wr) rfl rfl,M9.keep (Off.refl _ wr) rfl,M10.keep (Off.refl _ wr) rfl rfl,V0_9.keep rfl,V0_10.keep rfl,W10.keep rfl,hO⟩
        simp only [Act.put,List.setIfInBounds_toArray,List.set_cons_zero,List.set_cons_succ]
       ·intro l a wr hI hl hd K' hK
        obtain ⟨u58,u59,u60,u61,u62,u63,u64,u65,u66,u67,u11,ha,s0,s1,s2,s3,s4,s5,s6,s7,M8,M9,M10,V0_9,V0_10,W10,hO⟩ := hI
        simp only [Act.put,List.setIfInBounds_toArray,List.set_cons_zero,List.set_cons_succ] at ha
        subst ha
        have hc := HK.out wr hO
        have p0 := hc.1.1
        have p1 := hc.1.2.1
        have p2 := hc.1.2.2.1
        have p3 := hc.1.2.2.2.1
        have p4 := hc.1.2.2.2.2.1
        have p5 := hc.1.2.2.2.2.2.1
        have p6 := hc.1.2.2.2.2.2.2.1
        have p7 := hc.1.2.2.2.2.2.2.2.1
        have p8 := hc.1.2.2.2.2.2.2.2.2.1
        have p9 := hc.1.2.2.2.2.2.2.2.2.2.1
        have p10 := hc.1.2.2.2.2.2.2.2.2.2.2.1
        have p11 := hc.1.2.2.2.2.2.2.2.2.2.2.2.1
        have p12 := hc.1.2.2.2.2.2.2.2.2.2.2.2.2.1
        have p13 := hc.1.2.2.2.2.2.2.2.2.2.2.2.2.2
        clear hc
        go_simp
        refine hK.out _ _ ⟨_,_,_,_,_,_,_,_,_,_,_,?_,s0.keep rfl,Slot.new _ _ _,s2.keep rfl,s3.keep rfl,s4.keep rfl,s5.keep rfl,s6.keep rfl,s7.keep rfl,M8.keep (Off.refl _ wr) rfl rfl,M9.keep (Off.refl _ wr) rfl,M10.keep (Off.refl _ wr) rfl rfl,V0_9.keep rfl,V0_10.keep rfl,W10.keep rfl,hO⟩
        simp only [Act.put,List.setIfInBounds_toArray,List.set_cons_zero,List.set_cons_succ]
       ·intro l a wr hI hl hd K' hK
        obtain ⟨u58,u59,u60,u61,u62,u63,u64,u65,u66,u67,u11,ha,s0,s1,s2,s3,s4,s5,s6,s7,M8,M9,M10,V0_9,V0_10,W10,hO⟩ := hI
        simp only [Act.put,List.setIfInBounds_toArray,List.set_cons_zero,List.set_cons_succ] at ha
        subst ha
        go_simp
        refine hK.out _ _ ⟨_,_,_,_,_,_,_,_,_,_,_,?_,s0.keep rfl,s1.keep rfl,Slot.new _ _ _,s3.keep rfl,s4.keep rfl,s5.keep rfl,s6.keep rfl,s7.keep rfl,M8.keep (Off.refl _ wr) rfl rfl,M9.keep (Off.refl _ wr) rfl,M10.keep (Off.refl _ wr) rfl rfl,V0_9.keep rfl,V0_10.keep rfl,W10.keep rfl,hO⟩
        simp only [Act.put,List.setIfInBounds_toArray,List.set_cons_zero,List.set_cons_succ]
       ·intro l a wr hI hl hd K' hK
        obtain ⟨u58,u59,u60,u61,u62,u63,u64,u65,u66,u67,u11,ha,s0,s1,s2,s3,s4,s5,s6,s7,M8,M9,M10,V0_9,V0_10,W10,hO⟩ := hI
        simp only [Act.put,List.setIfInBounds_toArray,List.set_cons_zero,List.set_cons_succ] at ha
        subst ha
        have hc := HK.out wr hO
        have p0 := hc.2.1.1
        have p1 := hc.2.1.2.1
        have p2 := hc.2.1.2.2.1
        have p3 := hc.2.1.2.2.2
        clear hc
        go_simp
        refine hK.out _ _ ⟨_,_,_,_,_,_,_,_,_,_,_,?_,s0.keep rfl,s1.keep rfl,s2.keep rfl,Slot.new _ _ _,s4.keep rfl,s5.keep rfl,s6.keep rfl,s7.keep rfl,M8.keep (Off.refl _ wr) rfl rfl,M9.keep (Off.refl _ wr) rfl,M10.keep (Off.refl _ wr) rfl rfl,V0_9.keep rfl,V0_10.keep rfl,W10.keep rfl,hO⟩
        simp only [Act.put,List.setIfInBounds_toArray,List.set_cons_zero,List.set_cons_succ]
       ·intro l a wr hI hl hd K' hK
        obtain ⟨u58,u59,u60,u61,u62,u63,u64,u65,u66,u67,u11,ha,s0,s1,s2,s3,s4,s5,s6,s7,M8,M9,M10,V0_9,V0_10,W10,hO⟩ := hI
        simp only [Act.put,List.setIfInBounds_toArray,List.set_cons_zero,List.set_cons_succ] at ha
        subst ha
        go_simp
        refine hK.out _ _ ⟨_,_,_,_,_,_,_,_,_,_,_,?_,s0.keep rfl,s1.keep rfl,s2.keep rfl,s3.keep rfl,Slot.new _ _ _,s5.keep rfl,s6.keep rfl,s7.keep rfl,M8.keep (Off.refl _ wr) rfl rfl,M9.keep (Off.refl _ wr) rfl,M10.keep (Off.refl _ wr) rfl rfl,V0_9.keep rfl,V0_10.keep rfl,W10.keep rfl,hO⟩
        simp only [Act.put,List.setIfInBounds_toArray,List.set_cons_zero,List.set_cons_succ]
       ·intro l a wr hI hl hd K' hK
        obtain ⟨u58,u59,u60,u61,u62,u63,u64,u65,u66,u67,u11,ha,s0,s1,s2,s3,s4,s5,s6,s7,M8,M9,M10,V0_9,V0_10,W10,hO⟩ := hI
        simp only [Act.put,List.setIfInBounds_toArray,List.set_cons_zero,List.set_cons_succ] at ha
        have q4 := s4 (hd 4 (by decide))
        subst ha q4
        go_simp
        refine (held_inv (HPt.out wr) hO).mono ?_
        rintro e w1 ⟨rfl,hO1,hOW⟩
        go_wp2_with fail
        refine hK.out _ _ ⟨_,_,_,_,_,_,_,_,_,_,_,?_,s0.keep rfl,s1.keep rfl,s2.keep rfl,s3.keep rfl,s4.keep rfl,Slot.new _ _ _,s6.keep rfl,s7.keep rfl,M8.keep hOW rfl rfl,M9.keep hOW rfl,M10.keep hOW rfl rfl,V0_9.keep rfl,V0_10.keep rfl,W10.keep rfl,hO1⟩
        simp only [Act.put,List.setIfInBounds_toArray,List.set_cons_zero,List.set_cons_succ]
       ·intro l a wr hI hl hd K' hK
        obtain ⟨u58,u59,u60,u61,u62,u63,u64,u65,u66,u67,u11,ha,s0,s1,s2,s3,s4,s5,s6,s7,M8,M9,M10,V0_9,V0_10,W10,hO⟩ := hI
        simp only [Act.put,List.setIfInBounds_toArray,List.set_cons_zero,List.set_cons_succ] at ha
        have q3 := s3 (hd 3 (by decide))
        have q5 := s5 (hd 5 (by decide))
        subst ha q3 q5
        go_simp
        refine (held_inv (HFm.out wr) hO).mono ?_
        rintro e w1 ⟨rfl,hO1,hOW⟩
        go_wp2_with fail
        refine hK.out _ _ ⟨_,_,_,_,_,_,_,_,_,_,_,?_,s0.keep rfl,s1.keep rfl,s2.keep rfl,s3.keep rfl,s4.keep rfl,s5.keep rfl,Slot.new _ _ _,s7.keep rfl,M8.keep hOW rfl rfl,M9.keep hOW rfl,M10.keep hOW rfl rfl,V0_9.keep rfl,V0_10.keep rfl,W10.keep rfl,hO1⟩
        simp only [Act.put,List.setIfInBounds_toArray,List.set_cons_zero,List.set_cons_succ]
       ·intro l a wr hI hl hd K' hK
        obtain ⟨u58,u59,u60,u61,u62,u63,u64,u65,u66,u67,u11,ha,s0,s1,s2,s3,s4,s5,s6,s7,M8,M9,M10,V0_9,V0_10,W10,hO⟩ := hI
        simp only [Act.put,List.setIfInBounds_toArray,List.set_cons_zero,List.set_cons_succ] at ha
        have q1 := s1 (hd 1 (by decide))
        have q2 := s2 (hd 2 (by decide))
        have q6 := s6 (hd 6 (by decide))
        subst ha q1 q2 q6
        go_simp
        refine (held_inv (HEv.out wr hO) hO).mono ?_
        rintro e w1 ⟨rfl,hO1,hOW⟩
        go_wp2_with fail
        refine hK.out _ _ ⟨_,_,_,_,_,_,_,_,_,_,_,?_,s0.keep rfl,s1.keep rfl,s2.keep rfl,s3.keep rfl,s4.keep rfl,s5.keep rfl,s6.keep rfl,Slot.new _ _ _,M8.keep hOW rfl rfl,M9.keep hOW rfl,M10.keep hOW rfl rfl,V0_9.keep rfl,V0_10.keep rfl,W10.keep rfl,hO1⟩
        simp only [Act.put,List.setIfInBounds_toArray,List.set_cons_zero,List.set_cons_succ]
       ·intro l a wr hI hl hd K' hK
        obtain ⟨u58,u59,u60,u61,u62,u63,u64,u65,u66,u67,u11,ha,s0,s1,s2,s3,s4,s5,s6,s7,M8,M9,M10,V0_9,V0_10,W10,hO⟩ := hI
        simp only [Act.put,List.setIfInBounds_toArray,List.set_cons_zero,List.set_cons_succ] at ha
        have q7 := s7 (hd 7 (by decide))
        subst ha q7
        go_simp
        refine hK.out _ _ ⟨_,_,_,_,_,_,_,_,_,_,_,?_,s0.keep rfl,s1.keep rfl,s2.keep rfl,s3.keep rfl,s4.keep rfl,s5.keep rfl,s6.keep rfl,s7.keep rfl,(fun _ _ => built_r wr q),M9.keep ((Off.refl _ wr).alloc _) rfl,M10.keep ((Off.refl _ wr).alloc _) rfl rfl,V0_9.keep rfl,V0_10.keep rfl,W10.keep rfl,hO.alloc _⟩
        simp only [Act.put,List.setIfInBounds_toArray,List.set_cons_zero,List.set_cons_succ]
       ·intro l a wr hI hl hd K' hK
        obtain ⟨u58,u59,u60,u61,u62,u63,u64,u65,u66,u67,u11,ha,s0,s1,s2,s3,s4,s5,s6,s7,M8,M9,M10,V0_9,V0_10,W10,hO⟩ := hI
        simp only [Act.put,List.setIfInBounds_toArray,List.set_cons_zero,List.set_cons_succ] at ha
        have q0 := s0 (hd 0 (by decide))
        have m8 := M8 (hd 8 (by decide))
        subst ha q0
        obtain ⟨ba,bc,rfl,hbl⟩ := (m8 hl).open
        obtain ⟨bb,bo,rfl,_,hel⟩ := hbl.get (j := 0) (x := q) rfl
        have hown := M9.1 hl
        obtain ⟨uv,w1,hrun,hown2,hgrow,_⟩ := run_append_own (P := Tryd.prog) wr u1.heap.size 35 35 30 i0' _ 4 32 Tryd.underlying35 hi hz0 hz1 hz2' rfl (by decide) (.slice va k vc) k (flat4 (es.take k)) hown ⟨bb,bo,none⟩ [q].length bc (words4 q) rfl (words4_el (by simpa using hel)) (words4_one _) (by unfold maxLen; simp; omega) (by simp; omega) hO.size
        rw [HYt.out] at hown2
        have hO1 := grown_off hO (Nat.le_refl _) hown hgrow
        refine wp_append_run _ _ 35 rfl _ _ rfl rfl hrun ?_
        refine hK.out _ _ ⟨_,_,_,_,_,_,_,_,_,_,_,?_,s0.keep rfl,s1.keep rfl,s2.keep rfl,s3.keep rfl,s4.keep rfl,s5.keep rfl,s6.keep rfl,s7.keep rfl,LkU.gone (u := .slice (some ⟨bb,bo,none⟩) [q].length bc),OwT.new hown2,M10.past hl rfl,Dep.at (hd 0 (by decide)),V0_10.keep rfl,W10.keep rfl,hO1⟩
        simp only [Act.put,List.setIfInBounds_toArray,List.set_cons_zero,List.set_cons_succ]
       ·intro l a wr hI hl hd K' hK
        obtain ⟨u58,u59,u60,u61,u62,u63,u64,u65,u66,u67,u11,ha,s0,s1,s2,s3,s4,s5,s6,s7,M8,M9,M10,V0_9,V0_10,W10,hO⟩ := hI
        simp only [Act.put,List.setIfInBounds_toArray,List.set_cons_zero,List.set_cons_succ] at ha
        have m9 := M9.2 (hd 9 (by decide))
        subst ha
        go_simp
        refine hK.out _ _ ⟨_,_,_,_,_,_,_,_,_,_,_,?_,s0.keep rfl,s1.keep rfl,s2.keep rfl,s3.keep rfl,s4.keep rfl,s5.keep rfl,s6.keep rfl,s7.keep rfl,M8.keep (Off.refl _ wr) rfl rfl,M9.keep (Off.refl _ wr) rfl,(fun _ => ⟨by rw [upd_k l (by rfl)]; exact hd 9 (by decide),m9⟩),V0_9.keep rfl,Dep.at (V0_9.via (hd 9 (by decide))),Was.gone _ _ _ _,hO⟩
        simp only [Act.put,List.setIfInBounds_toArray,List.set_cons_zero,List.set_cons_succ]
       ·intro l a wc hI hd
        obtain ⟨u58,u59,u60,u61,u62,u63,u64,u65,u66,u67,u11,ha,s0,s1,s2,s3,s4,s5,s6,s7,M8,M9,M10,V0_9,V0_10,W10,hO⟩ := hI
        simp only [Act.put,List.setIfInBounds_toArray,List.set_cons_zero,List.set_cons_succ] at ha
        have q0 := s0 (hd 0 (by decide))
        have q1 := s1 (hd 1 (by decide))
        have q2 := s2 (hd 2 (by decide))
        have q3 := s3 (hd 3 (by decide))
        have q4 := s4 (hd 4 (by decide))
        have q5 := s5 (hd 5 (by decide))
        have q6 := s6 (hd 6 (by decide))
        have q7 := s7 (hd 7 (by decide))
        have m66 := M8 (hd 8 (by decide))
        have m67 := M9.2 (hd 9 (by decide))
        have m11 := M10 (hd 10 (by decide))
        subst ha q0 q1 q2 q3 q4 q5 q6 q7
        clear hd s0 s1 s2 s3 s4 s5 s6 s7 M8 M9 M10 V0_9 V0_10 W10
        obtain ⟨_,hown⟩ := m11
        obtain ⟨g',cap',rfl⟩ := ownsRow_succ hown
        have HW1 := Lib.hid hown
        have HO5 := Lib.hid hO
        clear m66 m67 hown hO
        go_wp2
        go_roundw
        case rel => exact ⟨k + 1,by omega,by simp,⟨_,_,rfl,HW1.out⟩,HO5.out⟩
        case measure => simp [intOf] <;> omega
      ·obtain rfl : n1 = k := by omega
       have hest : es.take n1 = es := List.take_of_length_le (by rw [HEl.out]; exact Nat.le_refl _)
       rw [hest] at hown
       have h_ye := Ls.of (ls_of_own hown HEl.out.symm (by omega))
       obtain ⟨yv,hyv⟩ : ∃ v : Value,v = .slice va n1 vc := ⟨_,rfl⟩
       rw [<- hyv] at h_ye ⊢
       have g_F := hO.heap GF.out (fun c => c)
       have g_P := hO.heap GP.out (fun c => c)
       have hOw := HOw.out.trans hO (fun _ _ c => c)
       have h_z2 := H_z2.out.off hO
       have hza := own_off HZ1.out hO
       have HZC := Lib.hid (own_off HZ3.out hO)
       have HZA := Lib.hid hza
       have HGw := Lib.hid (hza.lt g rfl).2
       clear GF GP HOw H_z2 hO hown hyv hest hza HZ1 HZ3
       obtain ⟨f0,f1,f2,f3,f4,f5,f6,f7,f8,f9,f10,f11,f12,f13⟩ := fv_cells g_F
       have hlf := heap_lt g_F
       have H_z2 := Lib.hid h_z2
       have H_ye := Lib.hid h_ye
       have GF := Lib.hid g_F
       have GP := Lib.hid g_P
       have HOw := Lib.hid hOw
       clear g_F g_P hOw h_z2 h_ye
       go_wp2_with fail
       clear f0 f1 f2 f3 f4 f5 f6 f7 f8 f9 f10 f11 f12 f13 hlf
       have h_z2 := H_z2.out
       have h_ye := H_ye.out
       have g_F := GF.out
       have g_P := GP.out
       have hOw := HOw.out
       clear GF GP HOw H_z2 H_ye
       refine (FI.out _ _ _ (HL.out.off hOw) h_ye).mono ?_
       rintro e u2 ⟨zd,rfl,hzd,hO1⟩
       have hza := own_off HZA.out hO1
       have HZC := Lib.hid (own_off HZC.out hO1)
       have HZA := Lib.hid hza
       have HZD := Lib.hid (show LsAt u2 zd (dl.map (fm p)) (fun j => j ≠ g) from LsAt.mono hzd (fun k _ (c : wr.heap.size <= k) (e : k = g) => by have := HGw.out; omega))
       clear hza hzd HGw
       have g_F := hO1.heap g_F (fun c => c)
       have g_P := hO1.heap g_P (fun c => c)
       have hOw := hOw.trans hO1 (fun _ _ c => c)
       have h_z2 := h_z2.off hO1
       have h_ye := h_ye.off hO1
       clear hO1
       obtain ⟨f0,f1,f2,f3,f4,f5,f6,f7,f8,f9,f10,f11,f12,f13⟩ := fv_cells g_F
       have hlf := heap_lt g_F
       have H_z2 := Lib.hid h_z2
       have H_ye := Lib.hid h_ye
       have GF := Lib.hid g_F
       have GP := Lib.hid g_P
       have HOw := Lib.hid hOw
       clear g_F g_P hOw h_z2 h_ye
       go_wp2_with fail
       clear f0 f1 f2 f3 f4 f5 f6 f7 f8 f9 f10 f11 f12 f13 hlf
       have h_z2 := H_z2.out
       have h_ye := H_ye.out
       have g_F := GF.out
       have g_P := GP.out
       have hOw := HOw.out
       clear GF GP HOw H_z2 H_ye
       refine (FZ.out _ _ (HL.out.off hOw)).mono ?_
       rintro e u3 ⟨zz,rfl,h_zz,hO1⟩
       have hza := own_off HZA.out hO1
       have hzd := HZD.out.off hO1 (fun _ _ _ c => c)
       have HZC := Lib.hid (own_off HZC.out hO1)
       have HZA := Lib.hid hza
       have HZD := Lib.hid hzd
       clear hza hzd
       have g_F := hO1.heap g_F (fun c => c)
       have g_P := hO1.heap g_P (fun c => c)
       have hOw := hOw.trans hO1 (fun _ _ c => c)
       have h_z2 := h_z2.off hO1
       have h_ye := h_ye.off hO1
       clear hO1
       obtain ⟨f0,f1,f2,f3,f4,f5,f6,f7,f8,f9,f10,f11,f12,f13⟩ := fv_cells g_F
       have hlf := heap_lt g_F
       have H_z2 := Lib.hid h_z2
       have H_ye := Lib.hid h_ye
       have H_zz := Lib.hid h_zz
       have GF := Lib.hid g_F
       have GP := Lib.hid g_P
       have HOw := Lib.hid hOw
       clear g_F g_P hOw h_z2 h_ye h_zz
       go_wp2_with fail
       clear f0 f1 f2 f3 f4 f5 f6 f7 f8 f9 f10 f11 f12 f13 hlf
       have h_z2 := H_z2.out
       have h_ye := H_ye.out
       have h_zz := H_zz.out
       have g_F := GF.out
       have g_P := GP.out
       have hOw := HOw.out
       clear GF GP HOw H_z2 H_ye H_zz
       refine (FD.out _ _ _ h_zz h_ye).mono ?_
       rintro e u4 ⟨rfl,hO1⟩
       have hza := own_off HZA.out hO1
       have hzd := HZD.out.off hO1 (fun _ _ _ c => c)
       have HZC := Lib.hid (own_off HZC.out hO1)
       have HZA := Lib.hid hza
       have HZD := Lib.hid hzd
       clear hza hzd
       have g_F := hO1.heap g_F (fun c => c)
       have g_P := hO1.heap g_P (fun c => c)
       have hOw := hOw.trans hO1 (fun _ _ c => c)
       have h_z2 := h_z2.off hO1
       clear hO1 h_ye h_zz
       obtain ⟨yb,hyb⟩ : ∃ yb,yb = u4.heap.size := ⟨_,rfl⟩
       obtain ⟨W5,hW5⟩ : ∃ W5,W5 = u4.alloc (.cells #[.int .u64 (wd y0 0 : Int),.int .u64 (wd y0 1 : Int),.int .u64 (wd y0 2 : Int),.int .u64 (wd y0 3 : Int)] 30) := ⟨_,rfl⟩
       have o5 : Off (fun _ => False) u4 W5 := by rw [hW5]; exact (Off.refl _ u4).alloc _
       have g_Y : W5.heap[yb]? = some (.cells #[.int .u64 (wd y0 0 : Int),.int .u64 (wd y0 1 : Int),.int .u64 (wd y0 2 : Int),.int .u64 (wd y0 3 : Int)] 30 (0,0)) := by rw [hW5,hyb]; exact heap_new' rfl _
       have g_P := o5.heap g_P (fun c => c)
       have hza := own_off HZA.out o5
       have hzc := own_off HZC.out o5
       have hzd := HZD.out.off o5 (fun _ _ _ c => c)
       have hOw := hOw.trans o5 (fun _ _ c => c)
       have hgy : ¬ yb = g := by have := (HZA.out.lt g rfl).2; omega
       have hgb := (hza.lt g rfl).1
       have hgp : ¬ pb = g := by have := HPB.out; omega
       have HGw := Lib.hid (show w.heap.size <= g by have := HB0.out; omega)
       have hcc := hzc.cells (g := g2) rfl
       obtain ⟨k0,k1,k2,k3⟩ := flat4_get _ _ _ HV0.out
       have c0 := hcc _ _ k0
       have c1 := hcc _ _ k1
       have c2 := hcc _ _ k2
       have c3 := hcc _ _ k3
       simp only [Addr.add_lit,Nat.zero_add,Nat.zero_mul] at c0 c1 c2 c3
       have HK : Hid (∀ W',Off (fun j => j = g) W5 W' -> (W'.cell? ⟨yb,0,none⟩ = some (.int .u64 (wd y0 0 : Int)) /\ W'.cell? ⟨yb,1,none⟩ = some (.int .u64 (wd y0 1 : Int)) /\ W'.cell? ⟨yb,2,none⟩ = some (.int .u64 (wd y0 2 : Int)) /\ W'.cell? ⟨yb,3,none⟩ = some (.int .u64 (wd y0 3 : Int))) /\ (W'.cell? ⟨g2,0,none⟩ = some (.int .u64 (wd y0 0 : Int)) /\ W'.cell? ⟨g2,1,none⟩ = some (.int .u64 (wd y0 1 : Int)) /\ W'.cell? ⟨g2,2,none⟩ = some (.int .u64 (wd y0 2 : Int)) /\ W'.cell? ⟨g2,3,none⟩ = some (.int .u64 (wd y0 3 : Int))) /\ (W'.cell? ⟨pb,0,none⟩ = some (.int .u64 (wd p 0 : Int)) /\ W'.cell? ⟨pb,1,none⟩ = some (.int .u64 (wd p 1 : Int)) /\ W'.cell? ⟨pb,2,none⟩ = some (.int .u64 (wd p 2 : Int)) /\ W'.cell? ⟨pb,3,none⟩ = some (.int .u64 (wd p 3 : Int))) /\ Off (fun j => j = g) W5 W') := Lib.hid (fun W' h => ⟨cells4 (h.heap g_Y hgy),⟨h.cell c0 HGG.out,h.cell c1 HGG.out,h.cell c2 HGG.out,h.cell c3 HGG.out⟩,cells4 (h.heap g_P hgp),h⟩)
       have HTW := Lib.hid (fun W (h : Off (fun j => j = g) W5 W) => HTw.out.off (hOw.trans h (fun k hk (c : k = g) => absurd hk (by have := HGw.out; omega))))
       have FS1 := Lib.hid (show ∀ W,Off (fun j => j = g) W5 W -> ∀ v,Ls W v dl -> _ from fun W h v k => FSd.out W zd v (Ls.of (hzd.off h (fun _ _ c => c))) k)
       have HZA := Lib.hid hza
       have HOw := Lib.hid hOw
       obtain ⟨kz,hkz⟩ : ∃ k,k = n1 - n2 := ⟨_,rfl⟩
       have hwk : IntKind.i64.wrap ((n1 : Int) - (n2 : Int)) = (kz : Int) := by rw [IntKind.wrap_i64]; omega
       have HKZ := Lib.hid (show n1 - n2 = kz from hkz.symm)
       have hkb : n2 + kz <= 1000 := by omega
       have hn20 : 0 < n2 := by omega
       have e1 := equalIn_elem_same
       clear hkz hza hzc hzd hOw hgy hgb hgp hcc k0 k1 k2 k3 c0 c1 c2 c3 g_F g_P g_Y o5 h_z2 FI FZ FD FSd HZC HZD
       go_upto_region 14 with fail
       rw [<- hW5]
       rw [<- hyb]
       clear hW5 hyb
       obtain ⟨x89,hx⟩ : ∃ x : Value,x = .bool true := ⟨_,rfl⟩
       have X89 := Lib.hid hx
       clear hx
       obtain ⟨x90,hx⟩ : ∃ x : Value,x = .bool true := ⟨_,rfl⟩
       have X90 := Lib.hid hx
       clear hx
       obtain ⟨x91,hx⟩ : ∃ x : Value,x = .int .i64 0 := ⟨_,rfl⟩
       have X91 := Lib.hid hx
       clear hx
       obtain ⟨x92,hx⟩ : ∃ x : Value,x = .bool true := ⟨_,rfl⟩
       have X92 := Lib.hid hx
       clear hx
       obtain ⟨x93,hx⟩ : ∃ x : Value,x = .bool true := ⟨_,rfl⟩
       have X93 := Lib.hid hx
       clear hx
       obtain ⟨x94,hx⟩ : ∃ x : Value,x = .bool true := ⟨_,rfl⟩
       have X94 := Lib.hid hx
       clear hx
       obtain ⟨x95,hx⟩ : ∃ x : Value,x = .int .i64 0 := ⟨_,rfl⟩
       have X95 := Lib.hid hx
       clear hx
       obtain ⟨x96,hx⟩ : ∃ x : Value,x = .bool true := ⟨_,rfl⟩
       have X96 := Lib.hid hx
       clear hx
       obtain ⟨x97,hx⟩ : ∃ x : Value,x = .bool true := ⟨_,rfl⟩
       have X97 := Lib.hid hx
       clear hx
       obtain ⟨x98,hx⟩ : ∃ x : Value,x = .bool true := ⟨_,rfl⟩
       have X98 := Lib.hid hx
       clear hx
       obtain ⟨x99,hx⟩ : ∃ x : Value,x = .int .i64 0 := ⟨_,rfl⟩
       have X99 := Lib.hid hx
       clear hx
       obtain ⟨x100,hx⟩ : ∃ x : Value,x = .bool true := ⟨_,rfl⟩
       have X100 := Lib.hid hx
       clear hx
       obtain ⟨x101,hx⟩ : ∃ x : Value,x = .bool true := ⟨_,rfl⟩
       have X101 := Lib.hid hx
       clear hx
       obtain ⟨x102,hx⟩ : ∃ x : Value,x = .bool true := ⟨_,rfl⟩
       have X102 := Lib.hid hx
       clear hx
       obtain ⟨x103,hx⟩ : ∃ x : Value,x = V y0 := ⟨_,rfl⟩
       have X103 := Lib.hid hx
       clear hx
       obtain ⟨x104,hx⟩ : ∃ x : Value,x = .slice (some ⟨g2,0,none⟩) n2 zc2 := ⟨_,rfl⟩
       have X104 := Lib.hid hx
       clear hx
       obtain ⟨x105,hx⟩ : ∃ x : Value,x = .pointer (some ⟨g2,0,none⟩) := ⟨_,rfl⟩
       have X105 := Lib.hid hx
       clear hx
       obtain ⟨x106,hx⟩ : ∃ x : Value,x = V y0 := ⟨_,rfl⟩
       have X106 := Lib.hid hx
       clear hx
       obtain ⟨x107,hx⟩ : ∃ x : Value,x = .bool true := ⟨_,rfl⟩
       have X107 := Lib.hid hx
       clear hx
       obtain ⟨x108,hx⟩ : ∃ x : Value,x = .bool true := ⟨_,rfl⟩
       have X108 := Lib.hid hx
       clear hx
       obtain ⟨x109,hx⟩ : ∃ x : Value,x = .bool true := ⟨_,rfl⟩
       have X109 := Lib.hid hx
       clear hx
       obtain ⟨x110,hx⟩ : ∃ x : Value,x = V p := ⟨_,rfl⟩
       have X110 := Lib.hid hx
       clear hx
       obtain ⟨x111,hx⟩ : ∃ x : Value,x = zd := ⟨_,rfl⟩
       have X111 := Lib.hid hx
       clear hx
       obtain ⟨x112,hx⟩ : ∃ x : Value,x = .slice (some ⟨g,0,none⟩) n2 zc := ⟨_,rfl⟩
       have X112 := Lib.hid hx
       clear hx
       obtain ⟨x113,hx⟩ : ∃ x : Value,x = .slice a1 n1 cap1 := ⟨_,rfl⟩
       have X113 := Lib.hid hx
       clear hx
       obtain ⟨x114,hx⟩ : ∃ x : Value,x = .int .i64 (n1 : Int) := ⟨_,rfl⟩
       have X114 := Lib.hid hx
       clear hx
       obtain ⟨x115,hx⟩ : ∃ x : Value,x = .slice a2 n2 cap2 := ⟨_,rfl⟩
       have X115 := Lib.hid hx
       clear hx
       obtain ⟨x116,hx⟩ : ∃ x : Value,x = .int .i64 (n2 : Int) := ⟨_,rfl⟩
       have X116 := Lib.hid hx
       clear hx
       obtain ⟨x117,hx⟩ : ∃ x : Value,x = .int .i64 (kz : Int) := ⟨_,rfl⟩
       have X117 := Lib.hid hx
       clear hx
       obtain ⟨x119,hx⟩ : ∃ x : Value,x = .bool true := ⟨_,rfl⟩
       have X119 := Lib.hid hx
       clear hx
       obtain ⟨x120,hx⟩ : ∃ x : Value,x = .bool true := ⟨_,rfl⟩
       have X120 := Lib.hid hx
       clear hx
       obtain ⟨x6,hx⟩ : ∃ x : Value,x = .bool true := ⟨_,rfl⟩
       have X6 := Lib.hid hx
       clear hx
       refine wp_region_inv (fun a0 l a' w' => ∃ (u118 : Value),a' = (Act.put (fill a0 89 [sel (l 0) x89 undef,sel (l 1) x90 undef,sel (l 2) x91 undef,sel (l 3) x92 undef,sel (l 4) x93 undef,sel (l 5) x94 undef,sel (l 6) x95 undef,sel (l 7) x96 undef,sel (l 8) x97 undef,sel (l 9) x98 undef,sel (l 10) x99 undef,sel (l 11) x100 undef,sel (l 12) x101 undef,sel (l 13) x102 undef,sel (l 14) x103 undef,sel (l 15) x104 undef,sel (l 16) x105 undef,sel (l 17) x106 undef,sel (l 18) x107 undef,sel (l 19) x108 undef,sel (l 20) x109 undef,sel (l 21) x110 undef,sel (l 22) x111 undef,sel (l 23) x112 undef,sel (l 24) x113 undef,sel (l 25) x114 undef,sel (l 26) x115 undef,sel (l 27) x116 undef,sel (l 28) x117 undef,sel (l 29) u118 undef,sel (l 30) x119 undef,sel (l 31) x120 undef]) (some 6) (sel (l 32) x6 (.bool false))) /\ Lk l 29 u118 w' (dl) /\ OwB B0 29 (.slice (some ⟨g,0,none⟩) n2 zc) n2 (flat4 vs) l 29 w' /\ Off (fun j => j = g) W5 w') (by kernel_rfl) (by kernel_rfl) ?_ ⟨?_,?_,?_,?_,?_,?_,?_,?_,?_,?_,?_,?_,?_,?_,?_,?_,?_,?_,?_,?_,?_,?_,?_,?_,?_,?_,?_,?_,?_,?_,?_,?_,?_,trivial⟩ ?_
       ·refine ⟨undef,?_,Lk.start _ _ _ _,(fun _ => own_off HZA.out (Off.refl _ W5).drew),(Off.refl _ W5).drew⟩
        simp only [fill_eq,List.take_succ_cons,List.take_zero,List.cons_append,List.nil_append,Act.put,List.setIfInBounds_toArray,List.set_cons_zero,List.set_cons_succ,sel_start]
       ·as_aux_lemma =>
         rintro l a wr ⟨u118,ha,M29,R1,hO⟩ hl hd K' hK
         have hx := X89.out; subst hx
         simp only [fill_eq,List.take_succ_cons,List.take_zero,List.cons_append,List.nil_append,Act.put,List.setIfInBounds_toArray,List.set_cons_zero,List.set_cons_succ] at ha
         subst ha
         rw [if_pos (by rfl)]
         go_simp
         refine (held_inv (FAL.out wr (HTW.out wr hO)) hO).mono ?_
         rintro e w1 ⟨rfl,hO1,hOW⟩
         go_wp2_with fail
         refine hK.out _ _ ⟨u118,?_,M29.keep hOW rfl,R1.keep hOW rfl,hO1⟩
         simp only [fill_eq,List.take_succ_cons,List.take_zero,List.cons_append,List.nil_append,Act.put,List.setIfInBounds_toArray,List.set_cons_zero,List.set_cons_succ,sel_new]
         rfl
       ·as_aux_lemma =>
         rintro l a wr ⟨u118,ha,M29,R1,hO⟩ hl hd K' hK
         have d0 := hd 0 (by decide)
         have hx := X89.out; subst hx
         have hx := X90.out; subst hx
         simp only [fill_eq,List.take_succ_cons,List.take_zero,List.cons_append,List.nil_append,Act.put,List.setIfInBounds_toArray,List.set_cons_zero,List.set_cons_succ,sel_of d0] at ha
         subst ha
         rw [if_pos (by rfl)]
         go_simp
         refine hK.out _ _ ⟨u118,?_,M29.keep (Off.refl _ wr) rfl,R1.keep (Off.refl _ wr) rfl,hO⟩
         simp only [fill_eq,List.take_succ_cons,List.take_zero,List.cons_append,List.nil_append,Act.put,List.setIfInBounds_toArray,List.set_cons_zero,List.set_cons_succ,sel_new,sel_dep d0]
         rfl
       ·as_aux_lemma =>
         rintro l a wr ⟨u118,ha,M29,R1,hO⟩ hl hd K' hK
         have d1 := hd 1 (by decide)
         have hx := X90.out; subst hx
         have hx := X91.out; subst hx
         simp only [fill_eq,List.take_succ_cons,List.take_zero,List.cons_append,List.nil_append,Act.put,List.setIfInBounds_toArray,List.set_cons_zero,List.set_cons_succ,sel_of d1] at ha
         subst ha
         rw [if_pos (by rfl)]
         go_simp
         refine hK.out _ _ ⟨u118,?_,M29.keep (Off.refl _ wr) rfl,R1.keep (Off.refl _ wr) rfl,hO⟩
         simp only [fill_eq,List.take_succ_cons,List.take_zero,List.cons_append,List.nil_append,Act.put,List.setIfInBounds_toArray,List.set_cons_zero,List.set_cons_succ,sel_new,sel_dep d1]
         rfl
       ·as_aux_lemma =>
         rintro l a wr ⟨u118,ha,M29,R1,hO⟩ hl hd K' hK
         have d1 := hd 1 (by decide)
         have d2 := hd 2 (by decide)
         have hx := X90.out; subst hx
         have hx := X91.out; subst hx
         have hx := X92.out; subst hx
         simp only [fill_eq,List.take_succ_cons,List.take_zero,List.cons_append,List.nil_append,Act.put,List.setIfInBounds_toArray,List.set_cons_zero,List.set_cons_succ,sel_of d1,sel_of d2] at ha
         subst ha
         rw [if_pos (by rfl)]
         go_simp
         refine hK.out _ _ ⟨u118,?_,M29.keep (Off.refl _ wr) rfl,R1.keep (Off.refl _ wr) rfl,hO⟩
         simp only [fill_eq,List.take_succ_cons,List.take_zero,List.cons_append,List.nil_append,Act.put,List.setIfInBounds_toArray,List.set_cons_zero,List.set_cons_succ,sel_new,sel_dep d1,sel_dep d2]
         rfl
       ·as_aux_lemma =>
         rintro l a wr ⟨u118,ha,M29,R1,hO⟩ hl hd K' hK
         have d1 := hd 1 (by decide)
         have d3 := hd 3 (by decide)
         have hx := X90.out; subst hx
         have hx := X92.out; subst hx
         have hx := X93.out; subst hx
         simp only [fill_eq,List.take_succ_cons,List.take_zero,List.cons_append,List.nil_append,Act.put,List.setIfInBounds_toArray,List.set_cons_zero,List.set_cons_succ,sel_of d1,sel_of d3] at ha
         subst ha
         rw [if_pos (by rfl)]
         go_simp
         refine hK.out _ _ ⟨u118,?_,M29.keep (Off.refl _ wr) rfl,R1.keep (Off.refl _ wr) rfl,hO⟩
         simp only [fill_eq,List.take_succ_cons,List.take_zero,List.cons_append,List.nil_append,Act.put,List.setIfInBounds_toArray,List.set_cons_zero,List.set_cons_succ,sel_new,sel_dep d1,sel_dep d3]
         rfl
       ·as_aux_lemma =>
         rintro l a wr ⟨u118,ha,M29,R1,hO⟩ hl hd K' hK
         have d4 := hd 4 (by decide)
         have hx := X93.out; subst hx
         have hx := X94.out; subst hx
         simp only [fill_eq,List.take_succ_cons,List.take_zero,List.cons_append,List.nil_append,Act.put,List.setIfInBounds_toArray,List.set_cons_zero,List.set_cons_succ,sel_of d4] at ha
         subst ha
         rw [if_pos (by rfl)]
         go_simp
         refine hK.out _ _ ⟨u118,?_,M29.keep (Off.refl _ wr) rfl,R1.keep (Off.refl _ wr) rfl,hO⟩
         simp only [fill_eq,List.take_succ_cons,List.take_zero,List.cons_append,List.nil_append,Act.put,List.setIfInBounds_toArray,List.set_cons_zero,List.set_cons_succ,sel_new,sel_dep d4]
         rfl
       ·as_aux_lemma =>
         rintro l a wr ⟨u118,ha,M29,R1,hO⟩ hl hd K' hK
         have d5 := hd 5 (by decide)
         have hx := X94.out; subst hx
         have hx := X95.out; subst hx
         simp only [fill_eq,List.take_succ_cons,List.take_zero,List.cons_append,List.nil_append,Act.put,List.setIfInBounds_toArray,List.set_cons_zero,List.set_cons_succ,sel_of d5] at ha
         subst ha
         rw [if_pos (by rfl)]
         go_simp
         refine hK.out _ _ ⟨u118,?_,M29.keep (Off.refl _ wr) rfl,R1.keep (Off.refl _ wr) rfl,hO⟩
         simp only [fill_eq,List.take_succ_cons,List.take_zero,List.cons_append,List.nil_append,Act.put,List.setIfInBounds_toArray,List.set_cons_zero,List.set_cons_succ,sel_new,sel_dep d5]
         rfl
       ·as_aux_lemma =>
         rintro l a wr ⟨u118,ha,M29,R1,hO⟩ hl hd K' hK
         have d5 := hd 5 (by decide)
         have d6 := hd 6 (by decide)
         have hx := X94.out; subst hx
         have hx := X95.out; subst hx
         have hx := X96.out; subst hx
         simp only [fill_eq,List.take_succ_cons,List.take_zero,List.cons_append,List.nil_append,Act.put,List.setIfInBounds_toArray,List.set_cons_zero,List.set_cons_succ,sel_of d5,sel_of d6] at ha
         subst ha
         rw [if_pos (by rfl)]
         go_simp
         refine hK.out _ _ ⟨u118,?_,M29.keep (Off.refl _ wr) rfl,R1.keep (Off.refl _ wr) rfl,hO⟩
         simp only [fill_eq,List.take_succ_cons,List.take_zero,List.cons_append,List.nil_append,Act.put,List.setIfInBounds_toArray,List.set_cons_zero,List.set_cons_succ,sel_new,sel_dep d5,sel_dep d6]
         rfl
       ·as_aux_lemma =>
         rintro l a wr ⟨u118,ha,M29,R1,hO⟩ hl hd K' hK
         have d5 := hd 5 (by decide)
         have d7 := hd 7 (by decide)
         have hx := X94.out; subst hx
         have hx := X96.out; subst hx
         have hx := X97.out; subst hx
         simp only [fill_eq,List.take_succ_cons,List.take_zero,List.cons_append,List.nil_append,Act.put,List.setIfInBounds_toArray,List.set_cons_zero,List.set_cons_succ,sel_of d5,sel_of d7] at ha
         subst ha
         rw [if_pos (by rfl)]
         go_simp
         refine hK.out _ _ ⟨u118,?_,M29.keep (Off.refl _ wr) rfl,R1.keep (Off.refl _ wr) rfl,hO⟩
         simp only [fill_eq,List.take_succ_cons,List.take_zero,List.cons_append,List.nil_append,Act.put,List.setIfInBounds_toArray,List.set_cons_zero,List.set_cons_succ,sel_new,sel_dep d5,sel_dep d7]
         rfl
       ·as_aux_lemma =>
         rintro l a wr ⟨u118,ha,M29,R1,hO⟩ hl hd K' hK
         have d8 := hd 8 (by decide)
         have hx := X97.out; subst hx
         have hx := X98.out; subst hx
         simp only [fill_eq,List.take_succ_cons,List.take_zero,List.cons_append,List.nil_append,Act.put,List.setIfInBounds_toArray,List.set_cons_zero,List.set_cons_succ,sel_of d8] at ha
         subst ha
         rw [if_pos (by rfl)]
         go_simp
         refine hK.out _ _ ⟨u118,?_,M29.keep (Off.refl _ wr) rfl,R1.keep (Off.refl _ wr) rfl,hO⟩
         simp only [fill_eq,List.take_succ_cons,List.take_zero,List.cons_append,List.nil_append,Act.put,List.setIfInBounds_toArray,List.set_cons_zero,List.set_cons_succ,sel_new,sel_dep d8]
         rfl
       ·as_aux_lemma =>
         rintro l a wr ⟨u118,ha,M29,R1,hO⟩ hl hd K' hK
         have d9 := hd 9 (by decide)
         have hx := X98.out; subst hx
         have hx := X99.out; subst hx
         simp only [fill_eq,List.take_succ_cons,List.take_zero,List.cons_append,List.nil_append,Act.put,List.setIfInBounds_toArray,List.set_cons_zero,List.set_cons_succ,sel_of d9] at ha
         subst ha
         rw [if_pos (by rfl)]
         go_simp
         refine hK.out _ _ ⟨u118,?_,M29.keep (Off.refl _ wr) rfl,R1.keep (Off.refl _ wr) rfl,hO⟩
         simp only [fill_eq,List.take_succ_cons,List.take_zero,List.cons_append,List.nil_append,Act.put,List.setIfInBounds_toArray,List.set_cons_zero,List.set_cons_succ,sel_new,sel_dep d9]
         rfl
       ·as_aux_lemma =>
         rintro l a wr ⟨u118,ha,M29,R1,hO⟩ hl hd K' hK
         have d9 := hd 9 (by decide)
         have d10 := hd 10 (by decide)
         have hx := X98.out; subst hx
         have hx := X99.out; subst hx
         have hx := X100.out; subst hx
         simp only [fill_eq,List.take_succ_cons,List.take_zero,List.cons_append,List.nil_append,Act.put,List.setIfInBounds_toArray,List.set_cons_zero,List.set_cons_succ,sel_of d9,sel_of d10] at ha
         subst ha
         rw [if_pos (by rfl)]
         go_simp
         refine hK.out _ _ ⟨u118,?_,M29.keep (Off.refl _ wr) rfl,R1.keep (Off.refl _ wr) rfl,hO⟩
         simp only [fill_eq,List.take_succ_cons,List.take_zero,List.cons_append,List.nil_append,Act.put,List.setIfInBounds_toArray,List.set_cons_zero,List.set_cons_succ,sel_new,sel_dep d9,sel_dep d10]
         rfl
       ·as_aux_lemma =>
         rintro l a wr ⟨u118,ha,M29,R1,hO⟩ hl hd K' hK
         have d9 := hd 9 (by decide)
         have d11 := hd 11 (by decide)
         have hx := X98.out; subst hx
         have hx := X100.out; subst hx
         have hx := X101.out; subst hx
         simp only [fill_eq,List.take_succ_cons,List.take_zero,List.cons_append,List.nil_append,Act.put,List.setIfInBounds_toArray,List.set_cons_zero,List.set_cons_succ,sel_of d9,sel_of d11] at ha
         subst ha
         rw [if_pos (by rfl)]
         go_simp
         refine hK.out _ _ ⟨u118,?_,M29.keep (Off.refl _ wr) rfl,R1.keep (Off.refl _ wr) rfl,hO⟩
         simp only [fill_eq,List.take_succ_cons,List.take_zero,List.cons_append,List.nil_append,Act.put,List.setIfInBounds_toArray,List.set_cons_zero,List.set_cons_succ,sel_new,sel_dep d9,sel_dep d11]
         rfl
       ·as_aux_lemma =>
         rintro l a wr ⟨u118,ha,M29,R1,hO⟩ hl hd K' hK
         have d12 := hd 12 (by decide)
         have hx := X101.out; subst hx
         have hx := X102.out; subst hx
         simp only [fill_eq,List.take_succ_cons,List.take_zero,List.cons_append,List.nil_append,Act.put,List.setIfInBounds_toArray,List.set_cons_zero,List.set_cons_succ,sel_of d12] at ha
         subst ha
         rw [if_pos (by rfl)]
         go_simp
         refine hK.out _ _ ⟨u118,?_,M29.keep (Off.refl _ wr) rfl,R1.keep (Off.refl _ wr) rfl,hO⟩
         simp only [fill_eq,List.take_succ_cons,List.take_zero,List.cons_append,List.nil_append,Act.put,List.setIfInBounds_toArray,List.set_cons_zero,List.set_cons_succ,sel_new,sel_dep d12]
         rfl
       ·as_aux_lemma =>
         rintro l a wr ⟨u118,ha,M29,R1,hO⟩ hl hd K' hK
         have d13 := hd 13 (by decide)
         have hx := X102.out; subst hx
         have hx := X103.out; subst hx
         simp only [fill_eq,List.take_succ_cons,List.take_zero,List.cons_append,List.nil_append,Act.put,List.setIfInBounds_toArray,List.set_cons_zero,List.set_cons_succ,sel_of d13] at ha
         subst ha
         have hc := HK.out wr hO
         have p0 := hc.1.1
         have p1 := hc.1.2.1
         have p2 := hc.1.2.2.1
         have p3 := hc.1.2.2.2
         clear hc
         rw [if_pos (by rfl)]
         go_simp
         refine hK.out _ _ ⟨u118,?_,M29.keep (Off.refl _ wr) rfl,R1.keep (Off.refl _ wr) rfl,hO⟩
         simp only [fill_eq,List.take_succ_cons,List.take_zero,List.cons_append,List.nil_append,Act.put,List.setIfInBounds_toArray,List.set_cons_zero,List.set_cons_succ,sel_new,sel_dep d13]
         rfl
       ·as_aux_lemma =>
         rintro l a wr ⟨u118,ha,M29,R1,hO⟩ hl hd K' hK
         have d13 := hd 13 (by decide)
         have hx := X102.out; subst hx
         have hx := X104.out; subst hx
         simp only [fill_eq,List.take_succ_cons,List.take_zero,List.cons_append,List.nil_append,Act.put,List.setIfInBounds_toArray,List.set_cons_zero,List.set_cons_succ,sel_of d13] at ha
         subst ha
         rw [if_pos (by rfl)]
         go_simp
         refine hK.out _ _ ⟨u118,?_,M29.keep (Off.refl _ wr) rfl,R1.keep (Off.refl _ wr) rfl,hO⟩
         simp only [fill_eq,List.take_succ_cons,List.take_zero,List.cons_append,List.nil_append,Act.put,List.setIfInBounds_toArray,List.set_cons_zero,List.set_cons_succ,sel_new,sel_dep d13]
         rfl
       ·as_aux_lemma =>
         rintro l a wr ⟨u118,ha,M29,R1,hO⟩ hl hd K' hK
         have d13 := hd 13 (by decide)
         have d15 := hd 15 (by decide)
         have hx := X102.out; subst hx
         have hx := X104.out; subst hx
         have hx := X105.out; subst hx
         simp only [fill_eq,List.take_succ_cons,List.take_zero,List.cons_append,List.nil_append,Act.put,List.setIfInBounds_toArray,List.set_cons_zero,List.set_cons_succ,sel_of d13,sel_of d15] at ha
         subst ha
         rw [if_pos (by rfl)]
         go_simp
         refine hK.out _ _ ⟨u118,?_,M29.keep (Off.refl _ wr) rfl,R1.keep (Off.refl _ wr) rfl,hO⟩
         simp only [fill_eq,List.take_succ_cons,List.take_zero,List.cons_append,List.nil_append,Act.put,List.setIfInBounds_toArray,List.set_cons_zero,List.set_cons_succ,sel_new,sel_dep d13,sel_dep d15]
         rfl
       ·as_aux_lemma =>
         rintro l a wr ⟨u118,ha,M29,R1,hO⟩ hl hd K' hK
         have d13 := hd 13 (by decide)
         have d16 := hd 16 (by decide)
         have hx := X102.out; subst hx
         have hx := X105.out; subst hx
         have hx := X106.out; subst hx
         simp only [fill_eq,List.take_succ_cons,List.take_zero,List.cons_append,List.nil_append,Act.put,List.setIfInBounds_toArray,List.set_cons_zero,List.set_cons_succ,sel_of d13,sel_of d16] at ha
         subst ha
         have hc := HK.out wr hO
         have p0 := hc.2.1.1
         have p1 := hc.2.1.2.1
         have p2 := hc.2.1.2.2.1
         have p3 := hc.2.1.2.2.2
         clear hc
         rw [if_pos (by rfl)]
         go_simp
         refine hK.out _ _ ⟨u118,?_,M29.keep (Off.refl _ wr) rfl,R1.keep (Off.refl _ wr) rfl,hO⟩
         simp only [fill_eq,List.take_succ_cons,List.take_zero,List.cons_append,List.nil_append,Act.put,List.setIfInBounds_toArray,List.set_cons_zero,List.set_cons_succ,sel_new,sel_dep d13,sel_dep d16]
         rfl
       ·as_aux_lemma =>
         rintro l a wr ⟨u118,ha,M29,R1,hO⟩ hl hd K' hK
         have d13 := hd 13 (by decide)
         have d14 := hd 14 (by decide)
         have d17 := hd 17 (by decide)
         have hx := X102.out; subst hx
         have hx := X103.out; subst hx
         have hx := X106.out; subst hx
         have hx := X107.out; subst hx
         simp only [fill_eq,List.take_succ_cons,List.take_zero,List.cons_append,List.nil_append,Act.put,List.setIfInBounds_toArray,List.set_cons_zero,List.set_cons_succ,sel_of d13,sel_of d14,sel_of d17] at ha
         subst ha
         rw [if_pos (by rfl)]
         go_simp
         refine hK.out _ _ ⟨u118,?_,M29.keep (Off.refl _ wr) rfl,R1.keep (Off.refl _ wr) rfl,hO⟩
         simp only [fill_eq,List.take_succ_cons,List.take_zero,List.cons_append,List.nil_append,Act.put,List.setIfInBounds_toArray,List.set_cons_zero,List.set_cons_succ,sel_new,sel_dep d13,sel_dep d14,sel_dep d17]
         rfl
       ·as_aux_lemma =>
         rintro l a wr ⟨u118,ha,M29,R1,hO⟩ hl hd K' hK
         have d13 := hd 13 (by decide)
         have d18 := hd 18 (by decide)
         have hx := X102.out; subst hx
         have hx := X107.out; subst hx
         have hx := X108.out; subst hx
         simp only [fill_eq,List.take_succ_cons,List.take_zero,List.cons_append,List.nil_append,Act.put,List.setIfInBounds_toArray,List.set_cons_zero,List.set_cons_succ,sel_of d13,sel_of d18] at ha
         subst ha
         rw [if_pos (by rfl)]
         go_simp
         refine hK.out _ _ ⟨u118,?_,M29.keep (Off.refl _ wr) rfl,R1.keep (Off.refl _ wr) rfl,hO⟩
         simp only [fill_eq,List.take_succ_cons,List.take_zero,List.cons_append,List.nil_append,Act.put,List.setIfInBounds_toArray,List.set_cons_zero,List.set_cons_succ,sel_new,sel_dep d13,sel_dep d18]
         rfl
       ·as_aux_lemma =>
         rintro l a wr ⟨u118,ha,M29,R1,hO⟩ hl hd K' hK
         have d19 := hd 19 (by decide)
         have hx := X108.out; subst hx
         have hx := X109.out; subst hx
         simp only [fill_eq,List.take_succ_cons,List.take_zero,List.cons_append,List.nil_append,Act.put,List.setIfInBounds_toArray,List.set_cons_zero,List.set_cons_succ,sel_of d19] at ha
         subst ha
         rw [if_pos (by rfl)]
         go_simp
         refine hK.out _ _ ⟨u118,?_,M29.keep (Off.refl _ wr) rfl,R1.keep (Off.refl _ wr) rfl,hO⟩
         simp only [fill_eq,List.take_succ_cons,List.take_zero,List.cons_append,List.nil_append,Act.put,List.setIfInBounds_toArray,List.set_cons_zero,List.set_cons_succ,sel_new,sel_dep d19]
         rfl
       ·as_aux_lemma =>
         rintro l a wr ⟨u118,ha,M29,R1,hO⟩ hl hd K' hK
         have d20 := hd 20 (by decide)
         have hx := X109.out; subst hx
         have hx := X110.out; subst hx
         simp only [fill_eq,List.take_succ_cons,List.take_zero,List.cons_append,List.nil_append,Act.put,List.setIfInBounds_toArray,List.set_cons_zero,List.set_cons_succ,sel_of d20] at ha
         subst ha
         have hc := HK.out wr hO
         have p0 := hc.2.2.1.1
         have p1 := hc.2.2.1.2.1
         have p2 := hc.2.2.1.2.2.1
         have p3 := hc.2.2.1.2.2.2
         clear hc
         rw [if_pos (by rfl)]
         go_simp
         refine hK.out _ _ ⟨u118,?_,M29.keep (Off.refl _ wr) rfl,R1.keep (Off.refl _ wr) rfl,hO⟩
         simp only [fill_eq,List.take_succ_cons,List.take_zero,List.cons_append,List.nil_append,Act.put,List.setIfInBounds_toArray,List.set_cons_zero,List.set_cons_succ,sel_new,sel_dep d20]
         rfl
       ·as_aux_lemma =>
         rintro l a wr ⟨u118,ha,M29,R1,hO⟩ hl hd K' hK
         have d20 := hd 20 (by decide)
         have hx := X109.out; subst hx
         have hx := X111.out; subst hx
         simp only [fill_eq,List.take_succ_cons,List.take_zero,List.cons_append,List.nil_append,Act.put,List.setIfInBounds_toArray,List.set_cons_zero,List.set_cons_succ,sel_of d20] at ha
         subst ha
         rw [if_pos (by rfl)]
         go_simp
         refine hK.out _ _ ⟨u118,?_,M29.keep (Off.refl _ wr) rfl,R1.keep (Off.refl _ wr) rfl,hO⟩
         simp only [fill_eq,List.take_succ_cons,List.take_zero,List.cons_append,List.nil_append,Act.put,List.setIfInBounds_toArray,List.set_cons_zero,List.set_cons_succ,sel_new,sel_dep d20]
         rfl
       ·as_aux_lemma =>
         rintro l a wr ⟨u118,ha,M29,R1,hO⟩ hl hd K' hK
         have d20 := hd 20 (by decide)
         have hx := X109.out; subst hx
         have hx := X112.out; subst hx
         simp only [fill_eq,List.take_succ_cons,List.take_zero,List.cons_append,List.nil_append,Act.put,List.setIfInBounds_toArray,List.set_cons_zero,List.set_cons_succ,sel_of d20] at ha
         subst ha
         rw [if_pos (by rfl)]
         go_simp
         refine hK.out _ _ ⟨u118,?_,M29.keep (Off.refl _ wr) rfl,R1.keep (Off.refl _ wr) rfl,hO⟩
         simp only [fill_eq,List.take_succ_cons,List.take_zero,List.cons_append,List.nil_append,Act.put,List.setIfInBounds_toArray,List.set_cons_zero,List.set_cons_succ,sel_new,sel_dep d20]
         rfl
       ·as_aux_lemma =>
         rintro l a wr ⟨u118,ha,M29,R1,hO⟩ hl hd K' hK
         have d20 := hd 20 (by decide)
         have hx := X109.out; subst hx
         have hx := X113.out; subst hx
         simp only [fill_eq,List.take_succ_cons,List.take_zero,List.cons_append,List.nil_append,Act.put,List.setIfInBounds_toArray,List.set_cons_zero,List.set_cons_succ,sel_of d20] at ha
         subst ha
         rw [if_pos (by rfl)]
         go_simp
         refine hK.out _ _ ⟨u118,?_,M29.keep (Off.refl _ wr) rfl,R1.keep (Off.refl _ wr) rfl,hO⟩
         simp only [fill_eq,List.take_succ_cons,List.take_zero,List.cons_append,List.nil_append,Act.put,List.setIfInBounds_toArray,List.set_cons_zero,List.set_cons_succ,sel_new,sel_dep d20]
         rfl
       ·as_aux_lemma =>
         rintro l a wr ⟨u118,ha,M29,R1,hO⟩ hl hd K' hK
         have d20 := hd 20 (by decide)
         have d24 := hd 24 (by decide)
         have hx := X109.out; subst hx
         have hx := X113.out; subst hx
         have hx := X114.out; subst hx
         simp only [fill_eq,List.take_succ_cons,List.take_zero,List.cons_append,List.nil_append,Act.put,List.setIfInBounds_toArray,List.set_cons_zero,List.set_cons_succ,sel_of d20,sel_of d24] at ha
         subst ha
         rw [if_pos (by rfl)]
         go_simp
         refine hK.out _ _ ⟨u118,?_,M29.keep (Off.refl _ wr) rfl,R1.keep (Off.refl _ wr) rfl,hO⟩
         simp only [fill_eq,List.take_succ_cons,List.take_zero,List.cons_append,List.nil_append,Act.put,List.setIfInBounds_toArray,List.set_cons_zero,List.set_cons_succ,sel_new,sel_dep d20,sel_dep d24]
         rfl
       ·as_aux_lemma =>
         rintro l a wr ⟨u118,ha,M29,R1,hO⟩ hl hd K' hK
         have d20 := hd 20 (by decide)
         have hx := X109.out; subst hx
         have hx := X115.out; subst hx
         simp only [fill_eq,List.take_succ_cons,List.take_zero,List.cons_append,List.nil_append,Act.put,List.setIfInBounds_toArray,List.set_cons_zero,List.set_cons_succ,sel_of d20] at ha
         subst ha
         rw [if_pos (by rfl)]
         go_simp
         refine hK.out _ _ ⟨u118,?_,M29.keep (Off.refl _ wr) rfl,R1.keep (Off.refl _ wr) rfl,hO⟩
         simp only [fill_eq,List.take_succ_cons,List.take_zero,List.cons_append,List.nil_append,Act.put,List.setIfInBounds_toArray,List.set_cons_zero,List.set_cons_succ,sel_new,sel_dep d20]
         rfl
       ·as_aux_lemma =>
         rintro l a wr ⟨u118,ha,M29,R1,hO⟩ hl hd K' hK
         have d20 := hd 20 (by decide)
         have d26 := hd 26 (by decide)
         have hx := X109.out; subst hx
         have hx := X115.out; subst hx
         have hx := X116.out; subst hx
         simp only [fill_eq,List.take_succ_cons,List.take_zero,List.cons_append,List.nil_append,Act.put,List.setIfInBounds_toArray,List.set_cons_zero,List.set_cons_succ,sel_of d20,sel_of d26] at ha
         subst ha
         rw [if_pos (by rfl)]
         go_simp
         refine hK.out _ _ ⟨u118,?_,M29.keep (Off.refl _ wr) rfl,R1.keep (Off.refl _ wr) rfl,hO⟩
         simp only [fill_eq,List.take_succ_cons,List.take_zero,List.cons_append,List.nil_append,Act.put,List.setIfInBounds_toArray,List.set_cons_zero,List.set_cons_succ,sel_new,sel_dep d20,sel_dep d26]
         rfl
       ·as_aux_lemma =>
         rintro l a wr ⟨u118,ha,M29,R1,hO⟩ hl hd K' hK
         have d20 := hd 20 (by decide)
         have d25 := hd 25 (by decide)
         have d27 := hd 27 (by decide)
         have hx := X109.out; subst hx
         have hx := X114.out; subst hx
         have hx := X116.out; subst hx
         have hx := X117.out; subst hx
         simp only [fill_eq,List.take_succ_cons,List.take_zero,List.cons_append,List.nil_append,Act.put,List.setIfInBounds_toArray,List.set_cons_zero,List.set_cons_succ,sel_of d20,sel_of d25,sel_of d27] at ha
         subst ha
         rw [if_pos (by rfl)]
         go_simp
         refine hK.out _ _ ⟨u118,?_,M29.keep (Off.refl _ wr) rfl,R1.keep (Off.refl _ wr) rfl,hO⟩
         simp only [fill_eq,List.take_succ_cons,List.take_zero,List.cons_append,List.nil_append,Act.put,List.setIfInBounds_toArray,List.set_cons_zero,List.set_cons_succ,sel_new,sel_dep d20,sel_dep d25,sel_dep d27]
         rfl
       ·as_aux_lemma =>
         rintro l a wr ⟨u118,ha,M29,R1,hO⟩ hl hd K' hK
         have d20 := hd 20 (by decide)
         have d23 := hd 23 (by decide)
         have d28 := hd 28 (by decide)
         have hx := X109.out; subst hx
         have hx := X112.out; subst hx
         have hx := X117.out; subst hx
         simp only [fill_eq,List.take_succ_cons,List.take_zero,List.cons_append,List.nil_append,Act.put,List.setIfInBounds_toArray,List.set_cons_zero,List.set_cons_succ,sel_of d20,sel_of d23,sel_of d28] at ha
         subst ha
         rw [if_pos (by rfl)]
         have hown := R1 hl
         obtain ⟨uv,w1,hrun,hm0,hOW⟩ := append_zeros hown HVL.out kz hkb
         have hm : Ls w1 uv dl := by rw [HDl.out,HKZ.out]; exact hm0
         have hO1 := hO.trans hOW (fun _ _ c => c)
         refine Go.Lib.wp_append_run _ _ _ _ _ rfl _ _ rfl rfl _ _ hrun ?_
         refine hK.out _ _ ⟨uv,?_,Lk.new hm,OwB.gone,hO1⟩
         simp only [fill_eq,List.take_succ_cons,List.take_zero,List.cons_append,List.nil_append,Act.put,List.setIfInBounds_toArray,List.set_cons_zero,List.set_cons_succ,sel_new,sel_dep d20,sel_dep d23,sel_dep d28]
         rfl
       ·as_aux_lemma =>
         rintro l a wr ⟨u118,ha,M29,R1,hO⟩ hl hd K' hK
         have d20 := hd 20 (by decide)
         have d21 := hd 21 (by decide)
         have d22 := hd 22 (by decide)
         have d29 := hd 29 (by decide)
         have hx := X109.out; subst hx
         have hx := X110.out; subst hx
         have hx := X111.out; subst hx
         have m29 := M29 d29
         have hx := X119.out; subst hx
         simp only [fill_eq,List.take_succ_cons,List.take_zero,List.cons_append,List.nil_append,Act.put,List.setIfInBounds_toArray,List.set_cons_zero,List.set_cons_succ,sel_of d20,sel_of d21,sel_of d22,sel_of d29] at ha
         subst ha
         rw [if_pos (by rfl)]
         go_simp
         refine (held_inv (FS1.out wr hO u118 m29) hO).mono ?_
         rintro e w1 ⟨rfl,hO1,hOW⟩
         go_wp2_with fail
         refine hK.out _ _ ⟨u118,?_,M29.keep hOW rfl,R1.keep hOW rfl,hO1⟩
         simp only [fill_eq,List.take_succ_cons,List.take_zero,List.cons_append,List.nil_append,Act.put,List.setIfInBounds_toArray,List.set_cons_zero,List.set_cons_succ,sel_new,sel_dep d20,sel_dep d21,sel_dep d22,sel_dep d29]
         rfl
       ·as_aux_lemma =>
         rintro l a wr ⟨u118,ha,M29,R1,hO⟩ hl hd K' hK
         have d20 := hd 20 (by decide)
         have d30 := hd 30 (by decide)
         have hx := X109.out; subst hx
         have hx := X119.out; subst hx
         have hx := X120.out; subst hx
         simp only [fill_eq,List.take_succ_cons,List.take_zero,List.cons_append,List.nil_append,Act.put,List.setIfInBounds_toArray,List.set_cons_zero,List.set_cons_succ,sel_of d20,sel_of d30] at ha
         subst ha
         rw [if_pos (by rfl)]
         go_simp
         refine hK.out _ _ ⟨u118,?_,M29.keep (Off.refl _ wr) rfl,R1.keep (Off.refl _ wr) rfl,hO⟩
         simp only [fill_eq,List.take_succ_cons,List.take_zero,List.cons_append,List.nil_append,Act.put,List.setIfInBounds_toArray,List.set_cons_zero,List.set_cons_succ,sel_new,sel_dep d20,sel_dep d30]
         rfl
       ·as_aux_lemma =>
         rintro l a wr ⟨u118,ha,M29,R1,hO⟩ hl hd K' hK
         have d31 := hd 31 (by decide)
         have hx := X120.out; subst hx
         have hx := X6.out; subst hx
         simp only [fill_eq,List.take_succ_cons,List.take_zero,List.cons_append,List.nil_append,Act.put,List.setIfInBounds_toArray,List.set_cons_zero,List.set_cons_succ,sel_of d31] at ha
         subst ha
         rw [if_pos (by rfl)]
         go_simp
         refine hK.out _ _ ⟨u118,?_,M29.keep (Off.refl _ wr) rfl,R1.keep (Off.refl _ wr) rfl,hO⟩
         simp only [fill_eq,List.take_succ_cons,List.take_zero,List.cons_append,List.nil_append,Act.put,List.setIfInBounds_toArray,List.set_cons_zero,List.set_cons_succ,sel_new,sel_dep d31]
         rfl
       ·rintro l a wc ⟨u118,ha,M29,R1,hO⟩ hd
        simp only [fill_eq,List.take_succ_cons,List.take_zero,List.cons_append,List.nil_append,Act.put,List.setIfInBounds_toArray,List.set_cons_zero,List.set_cons_succ,sel_of (hd 0 (by decide)),sel_of (hd 1 (by decide)),sel_of (hd 2 (by decide)),sel_of (hd 3 (by decide)),sel_of (hd 4 (by decide)),sel_of (hd 5 (by decide)),sel_of (hd 6 (by decide)),sel_of (hd 7 (by decide)),sel_of (hd 8 (by decide)),sel_of (hd 9 (by decide)),sel_of (hd 10 (by decide)),sel_of (hd 11 (by decide)),sel_of (hd 12 (by decide)),sel_of (hd 13 (by decide)),sel_of (hd 14 (by decide)),sel_of (hd 15 (by decide)),sel_of (hd 16 (by decide)),sel_of (hd 17 (by decide)),sel_of (hd 18 (by decide)),sel_of (hd 19 (by decide)),sel_of (hd 20 (by decide)),sel_of (hd 21 (by decide)),sel_of (hd 22 (by decide)),sel_of (hd 23 (by decide)),sel_of (hd 24 (by decide)),sel_of (hd 25 (by decide)),sel_of (hd 26 (by decide)),sel_of (hd 27 (by decide)),sel_of (hd 28 (by decide)),sel_of (hd 29 (by decide)),sel_of (hd 30 (by decide)),sel_of (hd 31 (by decide)),sel_of (hd 32 (by decide))] at ha
        subst ha
        have hx := X6.out; subst hx
        have HOf := Lib.hid (HOw.out.trans hO (fun k hk (c : k = g) => absurd hk (by have := HGw.out; omega)))
        clear hO hd
        go_wp2
        go_ret
        exact ⟨rfl,HOf.out⟩
   ·obtain ⟨c,hcv⟩ : ∃ c,c = chkV is1 := ⟨_,rfl⟩
    have hcp : ¬ c = 0 := by rw [hcv]; exact hc
    have hci : decide (c ≠ 0) = true := by simp [hcp]
    have FC := Lib.hid (show ∀ W,Iv W (.slice a1 n1 cap1) is1 -> Calls Tryd.prog 11 #[.slice a1 n1 cap1] W fun e w' => e = .returned (.int .i64 c) /\ Off (fun _ => False) W w' from fun W h => by rw [hcv]; exact refcheck_any is1 (by omega) _ W h)
    clear hc hcv hmx hmx2 hn1 w1 hF hid hp h1 hp0 FG hbig hn2 w2 hnl2 hnm2 hxs2 hnl1 hnm1 hwf1
    go_enter Tryd.func8,Tryd.ntmps8
    go_wp2_with fail
    refine (FC.out _ HL.out).mono ?_
    rintro e w0' ⟨rfl,hOc⟩
    have HOc := Lib.hid hOc
    clear hOc
    go_wp2_with fail
    refine (FAL.out _ (hT.off HOc.out)).mono ?_
    rintro e u0 ⟨rfl,hO⟩
    have HO := Lib.hid (HOc.out.trans hO (fun _ _ c => c))
    clear hO HOc
    go_wp2
    go_ret
    exact ⟨rfl,HO.out⟩

theorem door_met (os : Os) (args : Array Value) : laidMetH Tryd.prog [("sharecore/field.fields",Rows.laid_sharecore_field_fields)] ((World.doorLaid Tryd.prog 400 os).forCall (fun _ _ => 0) ⟨#[],args,[]⟩).memory :=
 laidMetH_of_parts3 (fuel := 8) (laidMet_of_run' 8 (by kernel_rfl) (by kernel_rfl)) (by kernel_rfl) (by kernel_rfl)

set_option maxRecDepth 100000 in
theorem lifted (os : Os) (started : os.Started) (H : Type) (enc : TypeId × Value -> H) :
  ReturnsInHanded {} Tryd.checked os 8 .any (fun w args => (Rows.lagrangeRecoversSpec.pre enc Tryd.prog Tryd.f8 [] false w args /\ laidMetH Tryd.prog [("sharecore/field.fields",Rows.laid_sharecore_field_fields)] w) /\ sizedMet enc Tryd.prog Tryd.f8 (OpenSpec.ofChange Rows.lagrangeRecoversSpec) false w args)
   (Rows.lagrangeRecoversSpec.post enc Tryd.prog Tryd.f8 false true false false) := by
 refine returnsInHanded_of_change_and (C := Tryd.checked) (X := fun w _ => laidMetH Tryd.prog [("sharecore/field.fields",Rows.laid_sharecore_field_fields)] w) (fun _ _ _ hh h => h.of_heap hh) own started (by kernel_rfl) Tryd.func8
  (ChangeSpec.witness_shaped (enc := enc) (C := Tryd.checked) (os := os) (X := fun w _ => laidMetH Tryd.prog [("sharecore/field.fields",Rows.laid_sharecore_field_fields)] w) false (World.doorLaid Tryd.prog 400 os) #[.bool false,.slice none 0 0,.slice none 0 0] 8 rfl (World.shaped_of_RefB (by kernel_rfl) (by kernel_rfl)) (by kernel_rfl) (by kernel_rfl) (by kernel_rfl) (door_met os _)) ?_
 intro W base args ds gs before hval0 hW _ _ hL _
 have hval : ∀ (j : Nat) t v,Tryd.f8.params[j]? = some t -> args[j]? = some v -> Value.okWide Tryd.prog W .any base t v := hval0
 have hW' := hW
 obtain ⟨p,q,hA0,hV,rfl,hfz,hnd⟩ := hW
 have hA : DataW.TrodAll enc Tryd.prog W 0 (fun _ => true) true Tryd.f8.params.toList args.toList ds p := hA0
 rw [Tryd.params8] at hA hval
 obtain ⟨v0,vs0,d0,ds0,p0,q0,hargs,rfl,rfl,h0,r0⟩ := trodAll_cons hA
 obtain ⟨v1,vs1,d1,ds1,p1,q1,rfl,rfl,rfl,h1,r1⟩ := trodAll_cons r0
 obtain ⟨v2,vs2,d2,ds2,p2,q2,rfl,rfl,rfl,h2,r2⟩ := trodAll_cons r1
 obtain ⟨rfl,rfl,rfl⟩ := trodAll_nil r2
 obtain rfl : args = #[v0,v1,v2] := by cases args; simp_all
 obtain ⟨rfl,rfl⟩ := trodVars_none hV
 obtain ⟨i0,rfl,rfl,rfl⟩ := open_bool Tryd.underlying4 (hval 0 4 v0 rfl rfl) h0
 have w0 := trivial
 obtain ⟨a1,n1,cap1,rfl⟩ := okWide_slice Tryd.underlying22 (hval 1 22 v1 rfl rfl)
 have k1 := h1
 have lt1 : ∀ x ∈ p1,x.block < W.heap.size := by obtain ⟨m,hm⟩ := k1; exact DataW.trod_lt m _ _ _ hm
 obtain ⟨is1,hn1,w1⟩ : ∃ xs,n1 = xs.length /\ IvAt W (.slice a1 n1 cap1) xs (fun k => k < W.heap.size) := by
  obtain ⟨fuel,hf⟩ := h1
  exact ints_of_trod hf
 obtain ⟨a2,n2,cap2,rfl⟩ := okWide_slice Tryd.underlying39 (hval 2 39 v2 rfl rfl)
 have k2 := h2
 have lt2 : ∀ x ∈ p2,x.block < W.heap.size := by obtain ⟨m,hm⟩ := k2; exact DataW.trod_lt m _ _ _ hm
 obtain ⟨xs2,hn2,w2⟩ : ∃ xs,n2 = xs.length /\ VsAt W (.slice a2 n2 cap2) xs (fun k => k < W.heap.size) := by
  obtain ⟨fuel,hf⟩ := h2
  exact vecs_of_trod hf
 have hT := tab_of_laid hL
 clear hA0 hval0
 refine (walk i0 a1 n1 cap1 is1 a2 n2 cap2 xs2 W w0 hn1 w1 hn2 w2 hT).mono fun e W' ⟨he,hoff⟩ => ?_
 have bel : Below W.heap.size W W' := hoff.below (Nat.le_refl _) (fun _ _ c => c)
 subst he
 exact ⟨_,rfl,_,_,_,[],_,[],hW',trodAll_mk1 (shut_bool Tryd.underlying4 _),(trodAll_cons_mk (shut_bool Tryd.underlying4 _) (trodAll_cons_mk (Below.trod laidOut (by kernel_rfl) (of_decide_eq_true (by kernel_rfl)) k1 bel lt1) (trodAll_cons_mk (Below.trod laidOut (by kernel_rfl) (of_decide_eq_true (by kernel_rfl)) k2 bel lt2) trodAll_mk0))),rfl,bel.frame _,fun h => by cases h⟩

theorem over : Rows.lagrangeRecoversRow.holds Tryd.pinned (OpenSpec.ofChange Rows.lagrangeRecoversSpec) :=
 OpenClaim.holds_of_wide 8 Tryd.f8 rfl rfl rfl rfl rfl rfl rfl ⟨rfl,rfl,rfl,rfl,rfl⟩ rfl rfl rfl rfl rfl (by kernel_rfl) Tryd.func8 (by kernel_rfl)
  (of_decide_eq_true (by kernel_rfl)) (by unfold Func.isWrapper; first | (rw [if_pos (by decide +kernel)]; kernel_rfl) | (rw [if_neg (by decide +kernel)]; exact ⟨rfl,rfl⟩))
  (fun os started H enc _ => lifted os started H enc)

theorem proved : Rows.LagrangeRecoversCardSaid :=
 Claim7.holds_tied_plain_at .later [] [.data] true (true,"52e3f175f7e7c68eca78e9b4b0e19955f01f7bfa3cfafd6aaba7d864c2871f24") false
  over (fun _ h => by cases h) (by kernel_rfl) (fun _ h => by cases h) lagrangeRecovers_row_tie rfl ⟨rfl,rfl⟩ (by kernel_rfl) rfl
  (fun f fn hf hfn => by
   obtain rfl : f = 8 := Option.some.inj ((show Tryd.prog.funcNamed "sharecore/sharecorelaw09.LagrangeRecovers" = some 8 by kernel_rfl).symm.trans hf) |>.symm
   obtain rfl : fn = Tryd.f8 := (Option.some.inj (Tryd.func8.symm.trans hfn)).symm
   exact ⟨by kernel_rfl,fun j t ht => by
    rw [Tryd.params8] at ht
    have hm : t ∈ [4,22,39] := by simpa using Array.mem_of_getElem? ht
    have hall : ([4,22,39].all fun u => !Tryd.prog.wantsStandIn u) = true := by kernel_rfl
    exact (show Tryd.prog.wantsStandIn t = false by simpa using List.all_eq_true.1 hall t hm)⟩)
  (by kernel_rfl)
#print axioms proved
end Go.Proofs.YtcebegfnplplcaaDoor.lagrangeRecovers
-- squeezed
