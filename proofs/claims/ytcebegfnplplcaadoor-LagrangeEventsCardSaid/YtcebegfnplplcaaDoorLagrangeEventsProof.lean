/-
  For every field and list of numbers, the examples of the chapter hold, and the events are those of the reference for the number of points, or none beside an error: the statement of P9.5. No condition.
-/
import Derived.Test.YtcebegfnplplcaaDoorRows
import Derived.Test.YtcebegfnplplcaaDoorTie
import Derived.Test.YtcebegfnplplcaaDoorCards
import Derived.LaidMore
import Derived.LaidHandle
import Derived.SevenTiedAt
import Derived.Stop.Joined
import Derived.JoinedOf
import Derived.Test.YtcebegfnplplcaaDoorLimbWords
import Derived.Test.YtcebegfnplplcaaDoorIntAll
import Derived.Test.YtcebegfnplplcaaDoorFieldTab
import Derived.Test.YtcebegfnplplcaaDoorFieldHeld
import Derived.Test.YtcebegfnplplcaaDoorLagAlive
import Derived.Test.YtcebegfnplplcaaDoorLagBase
import Derived.Test.YtcebegfnplplcaaDoorLagProg
import Derived.Test.YtcebegfnplplcaaDoorLagRefs
import Derived.Test.YtcebegfnplplcaaDoorLagEv
import Derived.Test.YtcebegfnplplcaaDoorPolLists
import Derived.Test.YtcebegfnplplcaaDoorTapeMore
import Derived.Test.YtcebegfnplplcaaDoorTapeCore
import Derived.Test.YtcebegfnplplcaaDoorInvAll
import Derived.WalkKit
import Derived.ProofKit
import Derived.OpenShut
import Derived.ShutString
import Derived.ChangeOld
import Derived.Below
namespace Go.Proofs.YtcebegfnplplcaaDoor.lagrangeEvents
open Go.ChangeShapes Go.WideShapes Go.ChangeAt Go.RowKit
set_option linter.unusedVariables false

theorem own : ownKnob Tryd.prog.godebug = none := by kernel_rfl
theorem laidOut : laidOutB Tryd.prog = true := by kernel_rfl

theorem dot_q_len {id : Int} {p i r s : Nat} (q : Option Addr) (vs us : List Nat) (hm : vs.length ≠ us.length) (v u : Value) (w : World) (hV : Ls w v vs) (hU : Ls w u us) :
  Calls Tryd.prog 21 #[.pointer q,FV id p i r s,v,u] w fun e w' => e = .returned (.tuple #[V 0,.int .i64 8]) /\ Off (fun _ => False) w w' := by
 obtain ⟨a,cap,rfl,hL⟩ := hV.open
 obtain ⟨z2,cap2,rfl,hM⟩ := hU.open
 exact dot_err _ cap _ cap2 a z2 hm q w
theorem olds_at {W : World} {b : Nat} {T : TypeId} {l : List Value} (h : W.heap[b]? = some (.cells l.toArray T (0,0))) : ∀ j u,l[j]? = some u -> W.cell? ((⟨b,0,none⟩ : Addr).add j) = some u := fun j u hj => by
 rw [Addr.add_lit,cell_of_heap h,List.getElem?_toArray,Nat.zero_add]; exact hj
theorem words4_el {w : World} {b off r : Nat} (h : elAt w b off r) : ∀ j u,(words4 r)[j]? = some u -> w.cell? ((⟨b,off,none⟩ : Addr).add j) = some u := by
 intro j u hj
 obtain ⟨c0,c1,c2,c3⟩ := h
 rw [Addr.add_lit]
 have hjl := (List.getElem?_eq_some_iff.1 hj).1
 have : j = 0 ∨ j = 1 ∨ j = 2 ∨ j = 3 := by simp [words4] at hjl; omega
 rcases this with rfl | rfl | rfl | rfl <;> simp [words4] at hj <;> subst hj <;> assumption
theorem built_r (w : World) (m : Nat) : Ls (w.alloc (.cells #[.int .u64 (wd m 0 : Int),.int .u64 (wd m 1 : Int),.int .u64 (wd m 2 : Int),.int .u64 (wd m 3 : Int)] 30 (0,0))) (.slice (some ⟨w.heap.size,0,none⟩) 1 1) [m] := ls_build w [m] (by simp) 30
theorem wp_append_run {w : World} {o : Oper} {a : Act} {K : Act -> World -> Prop} {Q : Exit -> Act -> World -> Prop} (s x : Operand) (t : TypeId) (ho : o.op = .call { callee := .builtin .append,args := #[s,x],argTypes := #[t,t] }) (v1 v2 : Value) (hs : a.eval s = v1) (hx : a.eval x = v2) {v' : Value} {w' : World}
  (hr : (Builtin.append_ #[t,t] o.type #[v1,v2]).run Tryd.prog w = .ok v' w') (h : K (a.put o.dst v') w') : o.wp Tryd.prog a w K Q := by
 unfold Oper.wp execOp
 simp only [ho,resolve,invoke,builtin,Sem.run_bind,Sem.run_pure,Result.andThen_ok,List.map_toArray,List.map_cons,List.map_nil,hs,hx,hr]
 exact h
/-- What the statement's calls leave as it is. -/
structure EvS (w W : World) (id : Int) (p i r s fb n yb z0 z1 z2 z3 z4 : Nat) (v : Value) (xs : List Int) : Prop where
 F : W.heap[fb]? = some (.cells #[.int .i64 id,.int .u64 (wd p 0 : Int),.int .u64 (wd p 1 : Int),.int .u64 (wd p 2 : Int),.int .u64 (wd p 3 : Int),.int .u64 (i : Int),.int .u64 (wd r 0 : Int),.int .u64 (wd r 1 : Int),.int .u64 (wd r 2 : Int),.int .u64 (wd r 3 : Int),.int .u64 (wd s 0 : Int),.int .u64 (wd s 1 : Int),.int .u64 (wd s 2 : Int),.int .u64 (wd s 3 : Int)] 32 (0,0))
 I : IvAt W v xs (fun k => k < z0)
 Y : LsAt W (.slice (some ⟨yb,0,none⟩) n n) ((List.replicate n 0).map (fm p)) (fun k => k < z0)
 O : W.heap[yb]? = some (.cells (flat4 (List.replicate n 0)).toArray 30 (0,0))
 b : fb < z0 /\ yb < z0 /\ w.heap.size <= z0 /\ z0 <= z1 /\ z1 <= z2 /\ z2 <= z3 /\ z3 <= z4 /\ z4 <= W.heap.size
 off : Off (fun _ => False) w W
theorem EvS.go {w W W' : World} {id : Int} {p i r s fb n yb z0 z1 z2 z3 z4 : Nat} {v : Value} {xs : List Int} {S : Nat -> Prop} (h : EvS w W id p i r s fb n yb z0 z1 z2 z3 z4 v xs) (ho : Off S W W') (hS : ∀ k,S k -> z0 <= k) : EvS w W' id p i r s fb n yb z0 z1 z2 z3 z4 v xs := by
 obtain ⟨b1,b2,b3,b4,b5,b6,b7,b8⟩ := h.b
 exact ⟨ho.heap h.F (fun c => by have := hS _ c; omega),IvAt.off h.I ho (fun k _ c d => by have := hS _ d; omega),h.Y.off ho (fun k _ c d => by have := hS _ d; omega),ho.heap h.O (fun c => by have := hS _ c; omega),⟨b1,b2,b3,b4,b5,b6,b7,Nat.le_trans b8 ho.size⟩,h.off.trans ho (fun k hk c => by have := hS _ c; omega)⟩
def TpR (W : World) (b : Nat) (l : List Ev) (hi z4 : Nat) : Prop := ∃ S,Tp W (some ⟨b,0,none⟩) l S /\ ∀ k,S k -> (b <= k /\ k < hi) ∨ z4 <= k
theorem TpR.go {W W' : World} {b hi z4 : Nat} {l : List Ev} {S : Nat -> Prop} (h : TpR W b l hi z4) (ho : Off S W W') (hS : ∀ k,S k -> ¬ (b <= k /\ k < hi) /\ k < z4) : TpR W' b l hi z4 := by
 obtain ⟨S',h1,h2⟩ := h
 refine ⟨S',h1.off ho (fun k c d => ?_),h2⟩
 have h3 := hS k c
 rcases h2 k d with h4 | h4
 ·exact h3.1 h4
 ·omega
theorem TpR.ex {W : World} {b hi z4 : Nat} {l : List Ev} (h : Tp W (some ⟨b,0,none⟩) l (fun k => b <= k /\ k < hi)) : TpR W b l hi z4 := ⟨_,h,fun _ c => .inl c⟩
theorem TpR.of {W : World} {B b hi z4 : Nat} {l : List Ev} (h : Noted B (some ⟨b,0,none⟩) [] l (fun k => b <= k /\ k < hi) W) (hB : z4 <= B) : TpR W b l hi z4 := by
 obtain ⟨S',h1,h2⟩ := h
 rw [ext_new] at h1
 exact ⟨S',h1,fun k c => (h2 k c).imp_right (Nat.le_trans hB)⟩
set_option maxRecDepth 100000 in
set_option maxHeartbeats 4000000 in
theorem walk (i0 : Bool) (a1 : Option Addr) (n1 cap1 : Nat) (is1 : List Int) (w : World) (w0 : True) (hn1 : n1 = is1.length) (w1 : IvAt w (.slice a1 n1 cap1) is1 (fun k => k < w.heap.size)) (hT : TabAt w) :
  Calls Tryd.prog 7 #[.bool i0,.slice a1 n1 cap1] w fun e w' => e = .returned (.bool true) /\ Off (fun _ => False) w w' := by
 obtain ⟨id,p,i,r,s,hF,hid⟩ := fld_of i0
 have hp := hF.mp.lt
 have h1 := hF.mp.one
 have hp0 : 0 < p := by omega
 obtain ⟨_,_,_,hbig⟩ := fld_full hF
 have FG := Lib.hid (fun W hT => get9_any i0 hF hid W hT)
 have FAL : Hid (∀ W,TabAt W -> Calls Tryd.prog 9 #[] W fun e w' => e = .returned (.bool true) /\ Off (fun _ => False) W w') := Lib.hid (fun W hT => alive9_any W hT)
 have HL := Lib.hid w1
 by_cases hmx : 6 < n1
 ·have hbi : decide ((6 : Int) < (n1 : Int)) = true := by simp; omega
  have hbp : (6 : Int) < (n1 : Int) := by omega
  clear hn1 w1 HL hmx hF hid hp h1 hp0 FG hbig
  go_enter Tryd.func7,Tryd.ntmps7
  go_wp2_with fail
  refine (FAL.out _ (hT.off (Off.refl _ w))).mono ?_
  rintro e u0 ⟨rfl,hO⟩
  have HO := Lib.hid ((Off.refl _ w : Off (fun _ => False) w _).trans hO (fun _ _ c => c))
  clear hO
  go_wp2
  go_ret
  exact ⟨rfl,HO.out⟩
 ·have hbi : decide ((6 : Int) < (n1 : Int)) = false := by simp; omega
  have hbp : ¬ (6 : Int) < (n1 : Int) := by omega
  have HTw := Lib.hid hT
  have hmk := run_make_el n1 (by omega)
  have HF := Lib.hid hF
  have HN1 := Lib.hid hn1
  have hn6 : n1 <= 6 := by omega
  obtain ⟨i0',hi,hz0,hz1,hz2⟩ := info_parts elem_info
  by_cases hc : chkV is1 = 0
  ·have FDt := Lib.hid (show ∀ W u q,Ls W (.slice (some ⟨q,0,none⟩) n1 n1) ((List.replicate n1 0).map (fm p)) -> Ls W u (List.replicate n1 0 ++ [r]) -> ∀ b,Calls Tryd.prog 21 #[.pointer (some ⟨b,0,none⟩),FV id p i r s,.slice (some ⟨q,0,none⟩) n1 n1,u] W fun e w' => e = .returned (.tuple #[V 0,.int .i64 8]) /\ Off (fun _ => False) W w' from fun W u q h k b => dot_q_len _ _ _ (by simp) _ _ W h k)
   have FC := Lib.hid (show ∀ W,Iv W (.slice a1 n1 cap1) is1 -> Calls Tryd.prog 11 #[.slice a1 n1 cap1] W fun e w' => e = .returned (.int .i64 0) /\ Off (fun _ => False) W w' from fun W h => by have g := refcheck_any is1 (by omega) _ W h; rw [hc] at g; exact g)
   obtain ⟨l1,hl1⟩ : ∃ l,l = wpE n1 n1 ++ batE n1 := ⟨_,rfl⟩
   obtain ⟨l2,hl2⟩ : ∃ l,l = wpE n1 n1 ++ batE n1 ++ upE n1 := ⟨_,rfl⟩
   obtain ⟨l3,hl3⟩ : ∃ l,l = wpE n1 n1 ++ batE n1 ++ prE n1 n1 := ⟨_,rfl⟩
   have hlen : l1.length <= 20000 /\ l2.length <= 20000 /\ l3.length <= 20000 := by
    rw [hl1,hl2,hl3]
    have a1 := wpE_length n1 n1; have a2 : n1 * n1 <= 6 * 6 := Nat.mul_le_mul hn6 hn6; have a3 := batE_le n1
    simp only [List.length_append,upE_length,prE_length]; omega
   have FW := Lib.hid (show ∀ fb yb z0 z1 z2 z3 z4 W,EvS w W id p i r s fb n1 yb z0 z1 z2 z3 z4 (.slice a1 n1 cap1) is1 -> Tp W (some ⟨z0,0,none⟩) [] (fun k => z0 <= k /\ k < z1) -> Calls Tryd.prog 13 #[.pointer (some ⟨z0,0,none⟩),FV id p i r s,.slice a1 n1 cap1] W fun e w' => ∃ u,e = .returned (.tuple #[u,.int .i64 0]) /\ Noted W.heap.size (some ⟨z0,0,none⟩) [] l1 (fun k => z0 <= k /\ k < z1) w' /\ Off (fun k => z0 <= k /\ k < z1) W w' from fun fb yb z0 z1 z2 z3 z4 W h t => by
    have g := weights_ok hF is1 hc (by omega) (some ⟨z0,0,none⟩) [] (fun k => z0 <= k /\ k < z1) _ W (Iv.of h.I) t (by simp)
    rw [<- hn1] at g
    rw [<- hl1] at g
    exact g.mono (fun e w' ⟨u,he,_,hN,hO⟩ => ⟨u,he,hN,hO⟩))
   have FZ := Lib.hid (show ∀ fb yb z0 z1 z2 z3 z4 W,EvS w W id p i r s fb n1 yb z0 z1 z2 z3 z4 (.slice a1 n1 cap1) is1 -> Tp W (some ⟨z1,0,none⟩) [] (fun k => z1 <= k /\ k < z2) -> Calls Tryd.prog 14 #[.pointer (some ⟨z1,0,none⟩),FV id p i r s,.slice a1 n1 cap1] W fun e w' => ∃ u,e = .returned (.tuple #[u,.int .i64 0]) /\ Noted W.heap.size (some ⟨z1,0,none⟩) [] l2 (fun k => z1 <= k /\ k < z2) w' /\ Off (fun k => z1 <= k /\ k < z2) W w' from fun fb yb z0 z1 z2 z3 z4 W h t => by
    have g := zero_ok hF is1 hc (by omega) (some ⟨z1,0,none⟩) [] (fun k => z1 <= k /\ k < z2) _ W (Iv.of h.I) t (by simp)
    rw [<- hn1] at g
    rw [<- hl2] at g
    exact g.mono (fun e w' ⟨u,he,_,hN,hO⟩ => ⟨u,he,hN,hO⟩))
   have FI := Lib.hid (show ∀ fb yb z0 z1 z2 z3 z4 W,EvS w W id p i r s fb n1 yb z0 z1 z2 z3 z4 (.slice a1 n1 cap1) is1 -> Tp W (some ⟨z2,0,none⟩) [] (fun k => z2 <= k /\ k < z3) -> Calls Tryd.prog 19 #[.pointer (some ⟨z2,0,none⟩),FV id p i r s,.slice a1 n1 cap1,.slice (some ⟨yb,0,none⟩) n1 n1] W fun e w' => ∃ u,e = .returned (.tuple #[u,.int .i64 0]) /\ Noted W.heap.size (some ⟨z2,0,none⟩) [] l3 (fun k => z2 <= k /\ k < z3) w' /\ Off (fun k => z2 <= k /\ k < z3) W w' from fun fb yb z0 z1 z2 z3 z4 W h t => by
    have g := itp_ok hF is1 hc n1 hn1 (by omega) (List.replicate n1 0) (by simp) (some ⟨z2,0,none⟩) [] (fun k => z2 <= k /\ k < z3) (fun k => k < z0) _ _ _ _ W (Iv.of h.I) h.Y (fun k c => by have := h.b; omega) t (by simp)
    rw [<- hl3] at g
    exact g.mono (fun e w' ⟨u,he,_,hN,hO⟩ => ⟨u,he,hN,hO⟩))
   have FE1 := Lib.hid (show ∀ W,Calls Tryd.prog 29 #[.int .i64 (n1 : Int)] W fun e w' => ∃ v,e = .returned v /\ EvsAt w' v l1 (fun _ => True) /\ Off (fun _ => False) W w' from fun W => by rw [hl1]; exact wevents_any n1 (by omega) W)
   have FE2 := Lib.hid (show ∀ W,Calls Tryd.prog 30 #[.int .i64 (n1 : Int)] W fun e w' => ∃ v,e = .returned v /\ EvsAt w' v l2 (fun _ => True) /\ Off (fun _ => False) W w' from fun W => by rw [hl2]; exact zevents_any n1 (by omega) W)
   have FE3 := Lib.hid (show ∀ W,Calls Tryd.prog 31 #[.int .i64 (n1 : Int)] W fun e w' => ∃ v,e = .returned v /\ EvsAt w' v l3 (fun _ => True) /\ Off (fun _ => False) W w' from fun W => by rw [hl3]; exact ievents_any n1 (by omega) W)
   have FSa := Lib.hid (show ∀ W sx sy ls Sx Sy,EvsAt W sx ls Sx -> EvsAt W sy ls Sy -> ls.length <= 100000 -> Calls Tryd.prog 27 #[sx,sy] W fun e w' => e = .returned (.bool true) /\ Off (fun _ => False) W w' from fun W sx sy ls Sx Sy h k hl => by have g := same_any sx sy ls ls Sx Sy W h k hl hl; rw [decide_eq_true rfl] at g; exact g)
   obtain ⟨hq1,hq2,hq3⟩ := hlen
   clear hc hl1 hl2 hl3 hid hp h1 hp0 hbig hn1 w1 hmx hF
   go_enter Tryd.func7,Tryd.ntmps7
   go_wp2_with fail
   refine (FG.out _ (hT.off (Off.refl _ w))).mono ?_
   rintro e u0 ⟨rfl,hO1⟩
   obtain ⟨W1,hW1⟩ : ∃ W1,W1 = (u0.alloc (.cells #[.int .i64 id,.int .u64 (wd p 0 : Int),.int .u64 (wd p 1 : Int),.int .u64 (wd p 2 : Int),.int .u64 (wd p 3 : Int),.int .u64 (i : Int),.int .u64 (wd r 0 : Int),.int .u64 (wd r 1 : Int),.int .u64 (wd r 2 : Int),.int .u64 (wd r 3 : Int),.int .u64 (wd s 0 : Int),.int .u64 (wd s 1 : Int),.int .u64 (wd s 2 : Int),.int .u64 (wd s 3 : Int)] 32)).alloc (.cells #[.int .u64 (wd p 0 : Int),.int .u64 (wd p 1 : Int),.int .u64 (wd p 2 : Int),.int .u64 (wd p 3 : Int)] 29) := ⟨_,rfl⟩
   have o1 : Off (fun _ => False) u0 W1 := by rw [hW1]; exact ((Off.refl _ u0).alloc _).alloc _
   have g_F : W1.heap[u0.heap.size]? = some (.cells #[.int .i64 id,.int .u64 (wd p 0 : Int),.int .u64 (wd p 1 : Int),.int .u64 (wd p 2 : Int),.int .u64 (wd p 3 : Int),.int .u64 (i : Int),.int .u64 (wd r 0 : Int),.int .u64 (wd r 1 : Int),.int .u64 (wd r 2 : Int),.int .u64 (wd r 3 : Int),.int .u64 (wd s 0 : Int),.int .u64 (wd s 1 : Int),.int .u64 (wd s 2 : Int),.int .u64 (wd s 3 : Int)] 32 (0,0)) := by rw [hW1]; exact heap_old' (heap_new' rfl _) _
   have g_P : W1.heap[u0.heap.size + 1]? = some (.cells #[.int .u64 (wd p 0 : Int),.int .u64 (wd p 1 : Int),.int .u64 (wd p 2 : Int),.int .u64 (wd p 3 : Int)] 29 (0,0)) := by rw [hW1]; exact heap_new' (by simp) _
   obtain ⟨fb,hfb⟩ : ∃ fb,fb = u0.heap.size := ⟨_,rfl⟩
   obtain ⟨pb,hpb⟩ : ∃ pb,pb = u0.heap.size + 1 := ⟨_,rfl⟩
   rw [<- hfb] at g_F
   rw [<- hpb] at g_P
   have hOw := hO1.trans o1 (fun _ _ c => c)
   clear hO1 o1
   rw [hW1] at hOw g_F g_P
   go_wp2_with fail
   rw [<- hW1] at hOw g_F g_P ⊢
   rw [<- hpb,<- hfb]
   obtain ⟨A0,hA0⟩ : ∃ A0,A0 = W1.alloc (.cells (flat4 (List.replicate n1 0)).toArray 30) := ⟨_,rfl⟩
   have hsz : W1.heap.size = pb + 1 := by rw [hpb,hW1]; simp
   obtain ⟨yb,hyb⟩ : ∃ yb,yb = pb + 1 := ⟨_,rfl⟩
   rw [<- hA0]
   try rw [<- hyb]
   have o0 : Off (fun _ => False) W1 A0 := by rw [hA0]; exact (Off.refl _ W1).alloc _
   have g_Y : A0.heap[yb]? = some (.cells (flat4 (List.replicate n1 0)).toArray 30 (0,0)) := by rw [hA0,hyb,<- hsz]; exact heap_new' rfl _
   have hfl := heap_lt g_F
   have hy0 := heap_lt g_Y
   have hOx := hOw.trans o0 (fun _ _ c => c)
   have g_F := o0.heap g_F (fun c => c)
   obtain ⟨z0,ha0⟩ : ∃ a,a = A0.heap.size := ⟨_,rfl⟩
   have HG := Lib.hid (show A0.heap[fb]? = some (.cells #[.int .i64 id,.int .u64 (wd p 0 : Int),.int .u64 (wd p 1 : Int),.int .u64 (wd p 2 : Int),.int .u64 (wd p 3 : Int),.int .u64 (i : Int),.int .u64 (wd r 0 : Int),.int .u64 (wd r 1 : Int),.int .u64 (wd r 2 : Int),.int .u64 (wd r 3 : Int),.int .u64 (wd s 0 : Int),.int .u64 (wd s 1 : Int),.int .u64 (wd s 2 : Int),.int .u64 (wd s 3 : Int)] 32 (0,0)) /\ A0.heap[yb]? = some (.cells (flat4 (List.replicate n1 0)).toArray 30 (0,0)) /\ fb < z0 /\ yb < z0 /\ Off (fun _ => False) w A0 /\ z0 = A0.heap.size from ⟨g_F,g_Y,by have := o0.size; omega,by omega,hOx,ha0⟩)
   clear hA0 hsz hyb o0 g_Y hfl hy0 hOx g_F g_P hOw hW1 hfb hpb hmk
   refine (new_tp _).mono ?_
   rintro e A1 ⟨rfl,hT1,hO1⟩
   rw [<- ha0] at hT1 ⊢
   clear ha0
   obtain ⟨z1,ha1⟩ : ∃ a,a = A1.heap.size := ⟨_,rfl⟩
   rw [<- ha1] at hT1
   have HT1 := Lib.hid hT1
   have HO1 := Lib.hid hO1
   have HA1 := Lib.hid ha1
   clear hT1 hO1 ha1
   go_wp2_with fail
   refine (new_tp _).mono ?_
   rintro e A2 ⟨rfl,hT2,hO2⟩
   rw [<- HA1.out] at hT2 ⊢
   obtain ⟨z2,ha2⟩ : ∃ a,a = A2.heap.size := ⟨_,rfl⟩
   rw [<- ha2] at hT2
   have HT2 := Lib.hid hT2
   have HO2 := Lib.hid hO2
   have HA2 := Lib.hid ha2
   clear hT2 hO2 ha2
   go_wp2_with fail
   refine (new_tp _).mono ?_
   rintro e A3 ⟨rfl,hT3,hO3⟩
   rw [<- HA2.out] at hT3 ⊢
   obtain ⟨z3,ha3⟩ : ∃ a,a = A3.heap.size := ⟨_,rfl⟩
   rw [<- ha3] at hT3
   have HT3 := Lib.hid hT3
   have HO3 := Lib.hid hO3
   have HA3 := Lib.hid ha3
   clear hT3 hO3 ha3
   go_wp2_with fail
   refine (new_tp _).mono ?_
   rintro e A4 ⟨rfl,hT4,hO4⟩
   rw [<- HA3.out] at hT4 ⊢
   obtain ⟨z4,ha4⟩ : ∃ a,a = A4.heap.size := ⟨_,rfl⟩
   rw [<- ha4] at hT4
   have HE : Hid (EvS w A4 id p i r s fb n1 yb z0 z1 z2 z3 z4 (.slice a1 n1 cap1) is1) := Lib.hid (by
    obtain ⟨g1,g2,g3,g4,g5,g6⟩ := HG.out
    have c1 := HO1.out.size; have c2 := HO2.out.size; have c3 := HO3.out.size; have c4 := hO4.size
    have d1 := HA1.out; have d2 := HA2.out; have d3 := HA3.out
    have o4 := ((HO1.out.trans HO2.out (fun _ _ c => c)).trans HO3.out (fun _ _ c => c)).trans hO4 (fun _ _ c => c)
    have hw := g5.size
    have oo := g5.trans o4 (fun _ _ c => c)
    refine ⟨o4.heap g1 (fun c => c),(IvAt.off HL.out oo (fun _ _ _ c => c)).mono (fun k _ c => by omega),?_,o4.heap g2 (fun c => c),⟨g3,g4,by omega,by omega,by omega,by omega,by omega,by omega⟩,oo⟩
    have h := Ls.of_all (cap := n1) (T := 30) (xs := List.replicate n1 0) (show NumsAt A0 yb 30 (List.replicate n1 0) from g2) (by rw [List.length_replicate]; omega)
    rw [List.length_replicate] at h
    have hfm : (List.replicate n1 0).map (fm p) = List.replicate n1 0 := by simp [fm]
    rw [hfm]
    exact (LsAt.off (Ls.lt h) o4 (fun _ _ _ c => c)).mono (fun k _ c => by have := c.1; omega))
   have H1 := Lib.hid (((HT1.out.off0 HO2.out).off0 HO3.out).off0 hO4)
   have H2 := Lib.hid ((HT2.out.off0 HO3.out).off0 hO4)
   have H3 := Lib.hid (HT3.out.off0 hO4)
   have H4 := Lib.hid hT4
   have HA4 := Lib.hid ha4
   clear ha4 hT4 hO4 HT1 HT2 HT3 HO1 HO2 HO3 HA1 HA2 HA3 HG HL
   obtain ⟨f0,f1,f2,f3,f4,f5,f6,f7,f8,f9,f10,f11,f12,f13⟩ := fv_cells HE.out.F
   have hlf := heap_lt HE.out.F
   go_wp2_with fail
   clear f0 f1 f2 f3 f4 f5 f6 f7 f8 f9 f10 f11 f12 f13 hlf
   refine (FW.out _ _ _ _ _ _ _ A4 HE.out H1.out).mono ?_
   rintro e A5 ⟨u,rfl,hN,hO⟩
   have hb := HE.out.b
   have hE := HE.out.go hO (fun k c => by omega)
   have h1 : TpR A5 z0 l1 z1 z4 := TpR.of hN hb.2.2.2.2.2.2.2
   have h2 := H2.out.off hO (fun k c d => by omega)
   have h3 := H3.out.off hO (fun k c d => by omega)
   have h4 := H4.out.off hO (fun k c d => by omega)
   clear HE H1 H2 H3 H4 hO hb hN
   have HE := Lib.hid hE
   have R1 := Lib.hid h1
   have H2 := Lib.hid h2
   have H3 := Lib.hid h3
   have H4 := Lib.hid h4
   clear hE h1 h2 h3 h4
   obtain ⟨f0,f1,f2,f3,f4,f5,f6,f7,f8,f9,f10,f11,f12,f13⟩ := fv_cells HE.out.F
   have hlf := heap_lt HE.out.F
   go_wp2_with fail
   clear f0 f1 f2 f3 f4 f5 f6 f7 f8 f9 f10 f11 f12 f13 hlf
   refine (FZ.out _ _ _ _ _ _ _ A5 HE.out H2.out).mono ?_
   rintro e A6 ⟨u,rfl,hN,hO⟩
   have hb := HE.out.b
   have hE := HE.out.go hO (fun k c => by omega)
   have h1 := R1.out.go hO (fun k c => by omega)
   have h2 : TpR A6 z1 l2 z2 z4 := TpR.of hN hb.2.2.2.2.2.2.2
   have h3 := H3.out.off hO (fun k c d => by omega)
   have h4 := H4.out.off hO (fun k c d => by omega)
   clear HE R1 H2 H3 H4 hO hb hN
   have HE := Lib.hid hE
   have R1 := Lib.hid h1
   have R2 := Lib.hid h2
   have H3 := Lib.hid h3
   have H4 := Lib.hid h4
   clear hE h1 h2 h3 h4
   obtain ⟨f0,f1,f2,f3,f4,f5,f6,f7,f8,f9,f10,f11,f12,f13⟩ := fv_cells HE.out.F
   have hlf := heap_lt HE.out.F
   go_wp2_with fail
   clear f0 f1 f2 f3 f4 f5 f6 f7 f8 f9 f10 f11 f12 f13 hlf
   refine (FI.out _ _ _ _ _ _ _ A6 HE.out H3.out).mono ?_
   rintro e A7 ⟨u,rfl,hN,hO⟩
   have hb := HE.out.b
   have hE := HE.out.go hO (fun k c => by omega)
   have h1 := R1.out.go hO (fun k c => by omega)
   have h2 := R2.out.go hO (fun k c => by omega)
   have h3 : TpR A7 z2 l3 z3 z4 := TpR.of hN hb.2.2.2.2.2.2.2
   have h4 := H4.out.off hO (fun k c d => by omega)
   clear HE R1 R2 H3 H4 hO hb hN
   have HE := Lib.hid hE
   have R1 := Lib.hid h1
   have R2 := Lib.hid h2
   have R3 := Lib.hid h3
   have H4 := Lib.hid h4
   clear hE h1 h2 h3 h4
   have HK : Hid (∀ W',Off (fun _ => False) A7 W' -> (W'.cell? ⟨fb,0,none⟩ = some (.int .i64 id) /\ W'.cell? ⟨fb,1,none⟩ = some (.int .u64 (wd p 0 : Int)) /\ W'.cell? ⟨fb,2,none⟩ = some (.int .u64 (wd p 1 : Int)) /\ W'.cell? ⟨fb,3,none⟩ = some (.int .u64 (wd p 2 : Int)) /\ W'.cell? ⟨fb,4,none⟩ = some (.int .u64 (wd p 3 : Int)) /\ W'.cell? ⟨fb,5,none⟩ = some (.int .u64 (i : Int)) /\ W'.cell? ⟨fb,6,none⟩ = some (.int .u64 (wd r 0 : Int)) /\ W'.cell? ⟨fb,7,none⟩ = some (.int .u64 (wd r 1 : Int)) /\ W'.cell? ⟨fb,8,none⟩ = some (.int .u64 (wd r 2 : Int)) /\ W'.cell? ⟨fb,9,none⟩ = some (.int .u64 (wd r 3 : Int)) /\ W'.cell? ⟨fb,10,none⟩ = some (.int .u64 (wd s 0 : Int)) /\ W'.cell? ⟨fb,11,none⟩ = some (.int .u64 (wd s 1 : Int)) /\ W'.cell? ⟨fb,12,none⟩ = some (.int .u64 (wd s 2 : Int)) /\ W'.cell? ⟨fb,13,none⟩ = some (.int .u64 (wd s 3 : Int))) /\ Off (fun _ => False) A7 W') := Lib.hid (fun W' h => ⟨fv_cells (h.heap HE.out.F (fun c => c)),h⟩)
   have HEx := Lib.hid HE.out
   have HYO := Lib.hid (fun W' (h : Off (fun _ => False) A7 W') => (h.heap HE.out.O (fun c => c) : W'.heap[yb]? = some (.cells (flat4 (List.replicate n1 0)).toArray 30 (0,0))))
   have HYL := Lib.hid (fun W' (h : Off (fun _ => False) A7 W') => (Ls.of HE.out.Y).off h)
   clear HE
   have HE := HEx
   go_upto_region 9 with fail
   refine wp_region_inv (fun a0 l a' w' => ∃ (u42 : Value) (u43 : Value) (u44 : Value) (u45 : Value) (u46 : Value) (u47 : Value) (u48 : Value) (u49 : Value) (u50 : Value),a' = (Act.put (Act.put (Act.put (Act.put (Act.put (Act.put (Act.put (Act.put (Act.put a0 (some 42) u42) (some 43) u43) (some 44) u44) (some 45) u45) (some 46) u46) (some 47) u47) (some 48) u48) (some 49) u49) (some 50) u50) /\ Slot l 0 u42 (.pointer (some ⟨z3,0,none⟩)) /\ Slot l 1 u43 (FV id p i r s) /\ Slot l 2 u44 (.slice (some ⟨yb,0,none⟩) n1 n1) /\ Slot l 3 u45 (.slice (some ⟨yb,0,none⟩) n1 n1) /\ Slot l 4 u46 (.pointer (some ⟨fb,6,none⟩)) /\ Slot l 5 u47 (V r) /\ Slot l 8 u50 (.tuple #[V 0,.int .i64 8]) /\ Lk l 6 u48 w' ([r]) /\ Lk l 7 u49 w' (List.replicate n1 0 ++ [r]) /\ Off (fun _ => False) A7 w') (by kernel_rfl) (by kernel_rfl) ?_ ⟨?_,?_,?_,?_,?_,?_,?_,?_,?_,trivial⟩ ?_
   ·refine ⟨?z42,?z43,?z44,?z45,?z46,?z47,?z48,?z49,?z50,?fr,Slot.start _ _ _,Slot.start _ _ _,Slot.start _ _ _,Slot.start _ _ _,Slot.start _ _ _,Slot.start _ _ _,Slot.start _ _ _,Lk.start _ _ _ _,Lk.start _ _ _ _,(Off.refl _ A7).drew⟩
    case fr => first | (simp only [Act.put,List.setIfInBounds_toArray,List.set_cons_zero,List.set_cons_succ]; rfl) | simp only [Act.put,List.setIfInBounds_toArray,List.set_cons_zero,List.set_cons_succ]
   ·intro l a wr hI hl hd K' hK
    obtain ⟨u42,u43,u44,u45,u46,u47,u48,u49,u50,ha,s0,s1,s2,s3,s4,s5,s8,M6,M7,hO⟩ := hI
    simp only [Act.put,List.setIfInBounds_toArray,List.set_cons_zero,List.set_cons_succ] at ha
    subst ha
    go_simp
    refine hK.out _ _ ⟨_,_,_,_,_,_,_,_,_,?_,Slot.new _ _ _,s1.keep rfl,s2.keep rfl,s3.keep rfl,s4.keep rfl,s5.keep rfl,s8.keep rfl,M6.keep (Off.refl _ wr) rfl,M7.keep (Off.refl _ wr) rfl,hO⟩
    simp only [Act.put,List.setIfInBounds_toArray,List.set_cons_zero,List.set_cons_succ]
   ·intro l a wr hI hl hd K' hK
    obtain ⟨u42,u43,u44,u45,u46,u47,u48,u49,u50,ha,s0,s1,s2,s3,s4,s5,s8,M6,M7,hO⟩ := hI
    simp only [Act.put,List.setIfInBounds_toArray,List.set_cons_zero,List.set_cons_succ] at ha
    subst ha
    have hc := HK.out wr hO
    have p0 := hc.1.1
    have p1 := hc.1.2.1
    have p2 := hc.1.2.2.1
    have p3 := hc.1.2.2.2.1
    have p4 := hc.1.2.2.2.2.1
    have p5 := hc.1.2.2.2.2.2.1
    have p6 := hc.1.2.2.2.2.2.2.1
    have p7 := hc.1.2.2.2.2.2.2.2.1
    have p8 := hc.1.2.2.2.2.2.2.2.2.1
    have p9 := hc.1.2.2.2.2.2.2.2.2.2.1
    have p10 := hc.1.2.2.2.2.2.2.2.2.2.2.1
    have p11 := hc.1.2.2.2.2.2.2.2.2.2.2.2.1
    have p12 := hc.1.2.2.2.2.2.2.2.2.2.2.2.2.1
    have p13 := hc.1.2.2.2.2.2.2.2.2.2.2.2.2.2
    clear hc
    go_simp
    refine hK.out _ _ ⟨_,_,_,_,_,_,_,_,_,?_,s0.keep rfl,Slot.new _ _ _,s2.keep rfl,s3.keep rfl,s4.keep rfl,s5.keep rfl,s8.keep rfl,M6.keep (Off.refl _ wr) rfl,M7.keep (Off.refl _ wr) rfl,hO⟩
    simp only [Act.put,List.setIfInBounds_toArray,List.set_cons_zero,List.set_cons_succ]
   ·intro l a wr hI hl hd K' hK
    obtain ⟨u42,u43,u44,u45,u46,u47,u48,u49,u50,ha,s0,s1,s2,s3,s4,s5,s8,M6,M7,hO⟩ := hI
    simp only [Act.put,List.setIfInBounds_toArray,List.set_cons_zero,List.set_cons_succ] at ha
    subst ha
    go_simp
    refine hK.out _ _ ⟨_,_,_,_,_,_,_,_,_,?_,s0.keep rfl,s1.keep rfl,Slot.new _ _ _,s3.keep rfl,s4.keep rfl,s5.keep rfl,s8.keep rfl,M6.keep (Off.refl _ wr) rfl,M7.keep (Off.refl _ wr) rfl,hO⟩
    simp only [Act.put,List.setIfInBounds_toArray,List.set_cons_zero,List.set_cons_succ]
   ·intro l a wr hI hl hd K' hK
    obtain ⟨u42,u43,u44,u45,u46,u47,u48,u49,u50,ha,s0,s1,s2,s3,s4,s5,s8,M6,M7,hO⟩ := hI
    simp only [Act.put,List.setIfInBounds_toArray,List.set_cons_zero,List.set_cons_succ] at ha
    subst ha
    go_simp
    refine hK.out _ _ ⟨_,_,_,_,_,_,_,_,_,?_,s0.keep rfl,s1.keep rfl,s2.keep rfl,Slot.new _ _ _,s4.keep rfl,s5.keep rfl,s8.keep rfl,M6.keep (Off.refl _ wr) rfl,M7.keep (Off.refl _ wr) rfl,hO⟩
    simp only [Act.put,List.setIfInBounds_toArray,List.set_cons_zero,List.set_cons_succ]
   ·intro l a wr hI hl hd K' hK
    obtain ⟨u42,u43,u44,u45,u46,u47,u48,u49,u50,ha,s0,s1,s2,s3,s4,s5,s8,M6,M7,hO⟩ := hI
    simp only [Act.put,List.setIfInBounds_toArray,List.set_cons_zero,List.set_cons_succ] at ha
    subst ha
    go_simp
    refine hK.out _ _ ⟨_,_,_,_,_,_,_,_,_,?_,s0.keep rfl,s1.keep rfl,s2.keep rfl,s3.keep rfl,Slot.new _ _ _,s5.keep rfl,s8.keep rfl,M6.keep (Off.refl _ wr) rfl,M7.keep (Off.refl _ wr) rfl,hO⟩
    simp only [Act.put,List.setIfInBounds_toArray,List.set_cons_zero,List.set_cons_succ]
   ·intro l a wr hI hl hd K' hK
    obtain ⟨u42,u43,u44,u45,u46,u47,u48,u49,u50,ha,s0,s1,s2,s3,s4,s5,s8,M6,M7,hO⟩ := hI
    simp only [Act.put,List.setIfInBounds_toArray,List.set_cons_zero,List.set_cons_succ] at ha
    have q4 := s4 (hd 4 (by decide))
    subst ha q4
    have hc := HK.out wr hO
    have p0 := hc.1.1
    have p1 := hc.1.2.1
    have p2 := hc.1.2.2.1
    have p3 := hc.1.2.2.2.1
    have p4 := hc.1.2.2.2.2.1
    have p5 := hc.1.2.2.2.2.2.1
    have p6 := hc.1.2.2.2.2.2.2.1
    have p7 := hc.1.2.2.2.2.2.2.2.1
    have p8 := hc.1.2.2.2.2.2.2.2.2.1
    have p9 := hc.1.2.2.2.2.2.2.2.2.2.1
    have p10 := hc.1.2.2.2.2.2.2.2.2.2.2.1
    have p11 := hc.1.2.2.2.2.2.2.2.2.2.2.2.1
    have p12 := hc.1.2.2.2.2.2.2.2.2.2.2.2.2.1
    have p13 := hc.1.2.2.2.2.2.2.2.2.2.2.2.2.2
    clear hc
    go_simp
    refine hK.out _ _ ⟨_,_,_,_,_,_,_,_,_,?_,s0.keep rfl,s1.keep rfl,s2.keep rfl,s3.keep rfl,s4.keep rfl,Slot.new _ _ _,s8.keep rfl,M6.keep (Off.refl _ wr) rfl,M7.keep (Off.refl _ wr) rfl,hO⟩
    simp only [Act.put,List.setIfInBounds_toArray,List.set_cons_zero,List.set_cons_succ]
   ·intro l a wr hI hl hd K' hK
    obtain ⟨u42,u43,u44,u45,u46,u47,u48,u49,u50,ha,s0,s1,s2,s3,s4,s5,s8,M6,M7,hO⟩ := hI
    simp only [Act.put,List.setIfInBounds_toArray,List.set_cons_zero,List.set_cons_succ] at ha
    have q5 := s5 (hd 5 (by decide))
    subst ha q5
    go_simp
    refine hK.out _ _ ⟨_,_,_,_,_,_,_,_,_,?_,s0.keep rfl,s1.keep rfl,s2.keep rfl,s3.keep rfl,s4.keep rfl,s5.keep rfl,s8.keep rfl,(fun _ => built_r wr r),M7.keep ((Off.refl _ wr).alloc _) rfl,hO.alloc _⟩
    simp only [Act.put,List.setIfInBounds_toArray,List.set_cons_zero,List.set_cons_succ]
   ·intro l a wr hI hl hd K' hK
    obtain ⟨u42,u43,u44,u45,u46,u47,u48,u49,u50,ha,s0,s1,s2,s3,s4,s5,s8,M6,M7,hO⟩ := hI
    simp only [Act.put,List.setIfInBounds_toArray,List.set_cons_zero,List.set_cons_succ] at ha
    have q3 := s3 (hd 3 (by decide))
    have m6 := M6 (hd 6 (by decide))
    subst ha q3
    obtain ⟨ba,bc,rfl,hbl⟩ := m6.open
    obtain ⟨bb,bo,rfl,_,hel⟩ := hbl.get (j := 0) (x := r) rfl
    obtain ⟨uv,w1,hrun,hown,hgrow⟩ := run_append_arg_grows (P := Tryd.prog) wr 35 35 30 i0' _ 4 32 Tryd.underlying35 hi hz0 hz1 hz2 rfl (by decide) ⟨yb,0,none⟩ n1 n1 (flat4 (List.replicate n1 0)) (by rw [flat4_length,List.length_replicate]) (olds_at (HYO.out wr hO)) ⟨bb,bo,none⟩ [r].length bc (words4 r) rfl (words4_el (by simpa using hel)) (by simp) (by unfold maxLen; simp; omega) (by simp; omega)
    have hm : Ls w1 uv (List.replicate n1 0 ++ [r]) := by
     rw [show flat4 (List.replicate n1 0) ++ words4 r = flat4 (List.replicate n1 0 ++ [r]) by rw [flat4_append]; rfl] at hown
     obtain ⟨g',cap',rfl⟩ := ownsRow_succ (k := n1) hown
     exact Ls.of (ls_of_own hown (by simp) (by simp; omega))
    have hOW : Off (fun _ => False) wr w1 := (Off.refl _ wr).grown hgrow (fun j e => by cases e)
    have hO1 := hO.trans hOW (fun _ _ c => c.elim)
    refine wp_append_run _ _ 35 rfl _ _ rfl rfl hrun ?_
    refine hK.out _ _ ⟨_,_,_,_,_,_,_,_,_,?_,s0.keep rfl,s1.keep rfl,s2.keep rfl,s3.keep rfl,s4.keep rfl,s5.keep rfl,s8.keep rfl,M6.keep hOW rfl,Lk.new hm,hO1⟩
    simp only [Act.put,List.setIfInBounds_toArray,List.set_cons_zero,List.set_cons_succ]
   ·intro l a wr hI hl hd K' hK
    obtain ⟨u42,u43,u44,u45,u46,u47,u48,u49,u50,ha,s0,s1,s2,s3,s4,s5,s8,M6,M7,hO⟩ := hI
    simp only [Act.put,List.setIfInBounds_toArray,List.set_cons_zero,List.set_cons_succ] at ha
    have q0 := s0 (hd 0 (by decide))
    have q1 := s1 (hd 1 (by decide))
    have q2 := s2 (hd 2 (by decide))
    have m7 := M7 (hd 7 (by decide))
    subst ha q0 q1 q2
    go_simp
    refine (held_inv (FDt.out wr u49 yb (HYL.out wr hO) m7 z3) hO).mono ?_
    rintro e w1 ⟨rfl,hO1,hOW⟩
    go_wp2_with fail
    refine hK.out _ _ ⟨_,_,_,_,_,_,_,_,_,?_,s0.keep rfl,s1.keep rfl,s2.keep rfl,s3.keep rfl,s4.keep rfl,s5.keep rfl,Slot.new _ _ _,M6.keep hOW rfl,M7.keep hOW rfl,hO1⟩
    simp only [Act.put,List.setIfInBounds_toArray,List.set_cons_zero,List.set_cons_succ]
   ·intro l a wc hI hd
    obtain ⟨u42,u43,u44,u45,u46,u47,u48,u49,u50,ha,s0,s1,s2,s3,s4,s5,s8,M6,M7,hO⟩ := hI
    simp only [Act.put,List.setIfInBounds_toArray,List.set_cons_zero,List.set_cons_succ] at ha
    have q0 := s0 (hd 0 (by decide))
    have q1 := s1 (hd 1 (by decide))
    have q2 := s2 (hd 2 (by decide))
    have q3 := s3 (hd 3 (by decide))
    have q4 := s4 (hd 4 (by decide))
    have q5 := s5 (hd 5 (by decide))
    have q8 := s8 (hd 8 (by decide))
    have m48 := M6 (hd 6 (by decide))
    have m49 := M7 (hd 7 (by decide))
    subst ha q0 q1 q2 q3 q4 q5 q8
    clear hd s0 s1 s2 s3 s4 s5 s8 M6 M7
    have hE := HEx.out.go hO (fun k c => c.elim)
    have h1 := R1.out.go hO (fun k c => c.elim)
    have h2 := R2.out.go hO (fun k c => c.elim)
    have h3 := R3.out.go hO (fun k c => c.elim)
    have h4 := H4.out.off0 hO
    clear m48 m49 hO HK HEx HYO HYL HE FDt FW FZ FI R1 R2 R3 H4
    have HE := Lib.hid hE
    have R1 := Lib.hid h1
    have R2 := Lib.hid h2
    have R3 := Lib.hid h3
    have R4 := Lib.hid h4
    clear hE h1 h2 h3 h4
    go_wp2_with fail
    refine (FC.out _ (Iv.of HE.out.I)).mono ?_
    rintro e B0 ⟨rfl,hO⟩
    have hE := HE.out.go hO (fun k c => c.elim)
    have h1 := R1.out.go hO (fun k c => c.elim)
    have h2 := R2.out.go hO (fun k c => c.elim)
    have h3 := R3.out.go hO (fun k c => c.elim)
    have h4 := R4.out.off0 hO
    clear HE R1 R2 R3 R4 hO
    have HE := Lib.hid hE
    have R1 := Lib.hid h1
    have R2 := Lib.hid h2
    have R3 := Lib.hid h3
    have R4 := Lib.hid h4
    clear hE h1 h2 h3 h4
    go_wp2_with fail
    refine (FAL.out _ (HTw.out.off HE.out.off)).mono ?_
    rintro e B1 ⟨rfl,hO⟩
    have hE := HE.out.go hO (fun k c => c.elim)
    have h1 := R1.out.go hO (fun k c => c.elim)
    have h2 := R2.out.go hO (fun k c => c.elim)
    have h3 := R3.out.go hO (fun k c => c.elim)
    have h4 := R4.out.off0 hO
    clear HE R1 R2 R3 R4 hO
    have HE := Lib.hid hE
    have R1 := Lib.hid h1
    have R2 := Lib.hid h2
    have R3 := Lib.hid h3
    have R4 := Lib.hid h4
    clear hE h1 h2 h3 h4
    obtain ⟨S1,t1,-⟩ := R1.out
    have K1 := Lib.hid t1
    clear t1 R1
    go_wp2_with fail
    refine (events_any _ l1 S1 _ K1.out.1 (by omega)).mono ?_
    rintro e C1 ⟨v1,rfl,hv,hO⟩
    have hE := HE.out.go hO (fun k c => c.elim)
    have h2 := R2.out.go hO (fun k c => c.elim)
    have h3 := R3.out.go hO (fun k c => c.elim)
    have h4 := R4.out.off0 hO
    clear HE R2 R3 R4 hO
    have HE := Lib.hid hE
    have R2 := Lib.hid h2
    have R3 := Lib.hid h3
    have R4 := Lib.hid h4
    clear hE h2 h3 h4
    have V1 := Lib.hid hv
    clear hv K1
    go_wp2_with fail
    refine (FE1.out _).mono ?_
    rintro e D1 ⟨u1,rfl,hu,hO⟩
    have hv := V1.out.off hO (fun _ _ _ c => c)
    have hE := HE.out.go hO (fun k c => c.elim)
    have h2 := R2.out.go hO (fun k c => c.elim)
    have h3 := R3.out.go hO (fun k c => c.elim)
    have h4 := R4.out.off0 hO
    clear HE R2 R3 R4 hO
    have HE := Lib.hid hE
    have R2 := Lib.hid h2
    have R3 := Lib.hid h3
    have R4 := Lib.hid h4
    clear hE h2 h3 h4
    have V1 := Lib.hid hv
    have U1 := Lib.hid hu
    clear hv hu
    go_wp2_with fail
    refine (FSa.out _ _ _ l1 _ _ V1.out U1.out (by omega)).mono ?_
    rintro e G1 ⟨rfl,hO⟩
    have hE := HE.out.go hO (fun k c => c.elim)
    have h2 := R2.out.go hO (fun k c => c.elim)
    have h3 := R3.out.go hO (fun k c => c.elim)
    have h4 := R4.out.off0 hO
    clear HE R2 R3 R4 hO
    have HE := Lib.hid hE
    have R2 := Lib.hid h2
    have R3 := Lib.hid h3
    have R4 := Lib.hid h4
    clear hE h2 h3 h4
    clear V1 U1
    obtain ⟨S2,t2,-⟩ := R2.out
    have K2 := Lib.hid t2
    clear t2 R2
    go_wp2_with fail
    refine (events_any _ l2 S2 _ K2.out.1 (by omega)).mono ?_
    rintro e C2 ⟨v2,rfl,hv,hO⟩
    have hE := HE.out.go hO (fun k c => c.elim)
    have h3 := R3.out.go hO (fun k c => c.elim)
    have h4 := R4.out.off0 hO
    clear HE R3 R4 hO
    have HE := Lib.hid hE
    have R3 := Lib.hid h3
    have R4 := Lib.hid h4
    clear hE h3 h4
    have V2 := Lib.hid hv
    clear hv K2
    go_wp2_with fail
    refine (FE2.out _).mono ?_
    rintro e D2 ⟨u2,rfl,hu,hO⟩
    have hv := V2.out.off hO (fun _ _ _ c => c)
    have hE := HE.out.go hO (fun k c => c.elim)
    have h3 := R3.out.go hO (fun k c => c.elim)
    have h4 := R4.out.off0 hO
    clear HE R3 R4 hO
    have HE := Lib.hid hE
    have R3 := Lib.hid h3
    have R4 := Lib.hid h4
    clear hE h3 h4
    have V2 := Lib.hid hv
    have U2 := Lib.hid hu
    clear hv hu
    go_wp2_with fail
    refine (FSa.out _ _ _ l2 _ _ V2.out U2.out (by omega)).mono ?_
    rintro e G2 ⟨rfl,hO⟩
    have hE := HE.out.go hO (fun k c => c.elim)
    have h3 := R3.out.go hO (fun k c => c.elim)
    have h4 := R4.out.off0 hO
    clear HE R3 R4 hO
    have HE := Lib.hid hE
    have R3 := Lib.hid h3
    have R4 := Lib.hid h4
    clear hE h3 h4
    clear V2 U2
    obtain ⟨S3,t3,-⟩ := R3.out
    have K3 := Lib.hid t3
    clear t3 R3
    go_wp2_with fail
    refine (events_any _ l3 S3 _ K3.out.1 (by omega)).mono ?_
    rintro e C3 ⟨v3,rfl,hv,hO⟩
    have hE := HE.out.go hO (fun k c => c.elim)
    have h4 := R4.out.off0 hO
    clear HE R4 hO
    have HE := Lib.hid hE
    have R4 := Lib.hid h4
    clear hE h4
    have V3 := Lib.hid hv
    clear hv K3
    go_wp2_with fail
    refine (FE3.out _).mono ?_
    rintro e D3 ⟨u3,rfl,hu,hO⟩
    have hv := V3.out.off hO (fun _ _ _ c => c)
    have hE := HE.out.go hO (fun k c => c.elim)
    have h4 := R4.out.off0 hO
    clear HE R4 hO
    have HE := Lib.hid hE
    have R4 := Lib.hid h4
    clear hE h4
    have V3 := Lib.hid hv
    have U3 := Lib.hid hu
    clear hv hu
    go_wp2_with fail
    refine (FSa.out _ _ _ l3 _ _ V3.out U3.out (by omega)).mono ?_
    rintro e G3 ⟨rfl,hO⟩
    have hE := HE.out.go hO (fun k c => c.elim)
    have h4 := R4.out.off0 hO
    clear HE R4 hO
    have HE := Lib.hid hE
    have R4 := Lib.hid h4
    clear hE h4
    clear V3 U3
    go_wp2_with fail
    refine (len_any _ [] _ _ R4.out.1).mono ?_
    rintro e X ⟨rfl,hx⟩
    subst hx
    have HOf := Lib.hid HE.out.off
    clear HE R4
    go_wp2
    go_ret
    exact ⟨rfl,HOf.out⟩
  ·obtain ⟨c,hcv⟩ : ∃ c,c = chkV is1 := ⟨_,rfl⟩
   have hci : decide (c ≠ 0) = true := by rw [hcv]; simp [hc]
   have hcp : ¬ c = 0 := by rw [hcv]; exact hc
   have FDt := Lib.hid (show ∀ W u q,Ls W (.slice (some ⟨q,0,none⟩) n1 n1) ((List.replicate n1 0).map (fm p)) -> Ls W u (List.replicate n1 0 ++ [r]) -> ∀ b,Calls Tryd.prog 21 #[.pointer (some ⟨b,0,none⟩),FV id p i r s,.slice (some ⟨q,0,none⟩) n1 n1,u] W fun e w' => e = .returned (.tuple #[V 0,.int .i64 8]) /\ Off (fun _ => False) W w' from fun W u q h k b => dot_q_len _ _ _ (by simp) _ _ W h k)
   have FC := Lib.hid (show ∀ W,Iv W (.slice a1 n1 cap1) is1 -> Calls Tryd.prog 11 #[.slice a1 n1 cap1] W fun e w' => e = .returned (.int .i64 c) /\ Off (fun _ => False) W w' from fun W h => by rw [hcv]; exact refcheck_any is1 (by omega) _ W h)
   have FW := Lib.hid (show ∀ fb yb z0 z1 z2 z3 z4 W,EvS w W id p i r s fb n1 yb z0 z1 z2 z3 z4 (.slice a1 n1 cap1) is1 -> Calls Tryd.prog 13 #[.pointer (some ⟨z0,0,none⟩),FV id p i r s,.slice a1 n1 cap1] W fun e w' => e = .returned (.tuple #[.slice none 0 0,.int .i64 c]) /\ Off (fun _ => False) W w' from fun fb yb z0 z1 z2 z3 z4 W h => by rw [hcv]; exact weights_err is1 hc (by omega) _ _ W (Iv.of h.I))
   have FZ := Lib.hid (show ∀ fb yb z0 z1 z2 z3 z4 W,EvS w W id p i r s fb n1 yb z0 z1 z2 z3 z4 (.slice a1 n1 cap1) is1 -> Calls Tryd.prog 14 #[.pointer (some ⟨z1,0,none⟩),FV id p i r s,.slice a1 n1 cap1] W fun e w' => e = .returned (.tuple #[.slice none 0 0,.int .i64 c]) /\ Off (fun _ => False) W w' from fun fb yb z0 z1 z2 z3 z4 W h => by rw [hcv]; exact zero_err is1 hc (by omega) _ _ W (Iv.of h.I))
   have FI := Lib.hid (show ∀ fb yb z0 z1 z2 z3 z4 W,EvS w W id p i r s fb n1 yb z0 z1 z2 z3 z4 (.slice a1 n1 cap1) is1 -> Calls Tryd.prog 19 #[.pointer (some ⟨z2,0,none⟩),FV id p i r s,.slice a1 n1 cap1,.slice (some ⟨yb,0,none⟩) n1 n1] W fun e w' => e = .returned (.tuple #[.slice none 0 0,.int .i64 c]) /\ Off (fun _ => False) W w' from fun fb yb z0 z1 z2 z3 z4 W h => by rw [hcv]; exact itp_err is1 hc (by omega) _ _ _ W (Iv.of h.I))
   clear hc hcv hid hp h1 hp0 hbig hn1 w1 hmx hF
   go_enter Tryd.func7,Tryd.ntmps7
   go_wp2_with fail
   refine (FG.out _ (hT.off (Off.refl _ w))).mono ?_
   rintro e u0 ⟨rfl,hO1⟩
   obtain ⟨W1,hW1⟩ : ∃ W1,W1 = (u0.alloc (.cells #[.int .i64 id,.int .u64 (wd p 0 : Int),.int .u64 (wd p 1 : Int),.int .u64 (wd p 2 : Int),.int .u64 (wd p 3 : Int),.int .u64 (i : Int),.int .u64 (wd r 0 : Int),.int .u64 (wd r 1 : Int),.int .u64 (wd r 2 : Int),.int .u64 (wd r 3 : Int),.int .u64 (wd s 0 : Int),.int .u64 (wd s 1 : Int),.int .u64 (wd s 2 : Int),.int .u64 (wd s 3 : Int)] 32)).alloc (.cells #[.int .u64 (wd p 0 : Int),.int .u64 (wd p 1 : Int),.int .u64 (wd p 2 : Int),.int .u64 (wd p 3 : Int)] 29) := ⟨_,rfl⟩
   have o1 : Off (fun _ => False) u0 W1 := by rw [hW1]; exact ((Off.refl _ u0).alloc _).alloc _
   have g_F : W1.heap[u0.heap.size]? = some (.cells #[.int .i64 id,.int .u64 (wd p 0 : Int),.int .u64 (wd p 1 : Int),.int .u64 (wd p 2 : Int),.int .u64 (wd p 3 : Int),.int .u64 (i : Int),.int .u64 (wd r 0 : Int),.int .u64 (wd r 1 : Int),.int .u64 (wd r 2 : Int),.int .u64 (wd r 3 : Int),.int .u64 (wd s 0 : Int),.int .u64 (wd s 1 : Int),.int .u64 (wd s 2 : Int),.int .u64 (wd s 3 : Int)] 32 (0,0)) := by rw [hW1]; exact heap_old' (heap_new' rfl _) _
   have g_P : W1.heap[u0.heap.size + 1]? = some (.cells #[.int .u64 (wd p 0 : Int),.int .u64 (wd p 1 : Int),.int .u64 (wd p 2 : Int),.int .u64 (wd p 3 : Int)] 29 (0,0)) := by rw [hW1]; exact heap_new' (by simp) _
   obtain ⟨fb,hfb⟩ : ∃ fb,fb = u0.heap.size := ⟨_,rfl⟩
   obtain ⟨pb,hpb⟩ : ∃ pb,pb = u0.heap.size + 1 := ⟨_,rfl⟩
   rw [<- hfb] at g_F
   rw [<- hpb] at g_P
   have hOw := hO1.trans o1 (fun _ _ c => c)
   clear hO1 o1
   rw [hW1] at hOw g_F g_P
   go_wp2_with fail
   rw [<- hW1] at hOw g_F g_P ⊢
   rw [<- hpb,<- hfb]
   obtain ⟨A0,hA0⟩ : ∃ A0,A0 = W1.alloc (.cells (flat4 (List.replicate n1 0)).toArray 30) := ⟨_,rfl⟩
   have hsz : W1.heap.size = pb + 1 := by rw [hpb,hW1]; simp
   obtain ⟨yb,hyb⟩ : ∃ yb,yb = pb + 1 := ⟨_,rfl⟩
   rw [<- hA0]
   try rw [<- hyb]
   have o0 : Off (fun _ => False) W1 A0 := by rw [hA0]; exact (Off.refl _ W1).alloc _
   have g_Y : A0.heap[yb]? = some (.cells (flat4 (List.replicate n1 0)).toArray 30 (0,0)) := by rw [hA0,hyb,<- hsz]; exact heap_new' rfl _
   have hfl := heap_lt g_F
   have hy0 := heap_lt g_Y
   have hOx := hOw.trans o0 (fun _ _ c => c)
   have g_F := o0.heap g_F (fun c => c)
   obtain ⟨z0,ha0⟩ : ∃ a,a = A0.heap.size := ⟨_,rfl⟩
   have HG := Lib.hid (show A0.heap[fb]? = some (.cells #[.int .i64 id,.int .u64 (wd p 0 : Int),.int .u64 (wd p 1 : Int),.int .u64 (wd p 2 : Int),.int .u64 (wd p 3 : Int),.int .u64 (i : Int),.int .u64 (wd r 0 : Int),.int .u64 (wd r 1 : Int),.int .u64 (wd r 2 : Int),.int .u64 (wd r 3 : Int),.int .u64 (wd s 0 : Int),.int .u64 (wd s 1 : Int),.int .u64 (wd s 2 : Int),.int .u64 (wd s 3 : Int)] 32 (0,0)) /\ A0.heap[yb]? = some (.cells (flat4 (List.replicate n1 0)).toArray 30 (0,0)) /\ fb < z0 /\ yb < z0 /\ Off (fun _ => False) w A0 /\ z0 = A0.heap.size from ⟨g_F,g_Y,by have := o0.size; omega,by omega,hOx,ha0⟩)
   clear hA0 hsz hyb o0 g_Y hfl hy0 hOx g_F g_P hOw hW1 hfb hpb hmk
   refine (new_tp _).mono ?_
   rintro e A1 ⟨rfl,hT1,hO1⟩
   rw [<- ha0] at hT1 ⊢
   clear ha0
   obtain ⟨z1,ha1⟩ : ∃ a,a = A1.heap.size := ⟨_,rfl⟩
   rw [<- ha1] at hT1
   have HT1 := Lib.hid hT1
   have HO1 := Lib.hid hO1
   have HA1 := Lib.hid ha1
   clear hT1 hO1 ha1
   go_wp2_with fail
   refine (new_tp _).mono ?_
   rintro e A2 ⟨rfl,hT2,hO2⟩
   rw [<- HA1.out] at hT2 ⊢
   obtain ⟨z2,ha2⟩ : ∃ a,a = A2.heap.size := ⟨_,rfl⟩
   rw [<- ha2] at hT2
   have HT2 := Lib.hid hT2
   have HO2 := Lib.hid hO2
   have HA2 := Lib.hid ha2
   clear hT2 hO2 ha2
   go_wp2_with fail
   refine (new_tp _).mono ?_
   rintro e A3 ⟨rfl,hT3,hO3⟩
   rw [<- HA2.out] at hT3 ⊢
   obtain ⟨z3,ha3⟩ : ∃ a,a = A3.heap.size := ⟨_,rfl⟩
   rw [<- ha3] at hT3
   have HT3 := Lib.hid hT3
   have HO3 := Lib.hid hO3
   have HA3 := Lib.hid ha3
   clear hT3 hO3 ha3
   go_wp2_with fail
   refine (new_tp _).mono ?_
   rintro e A4 ⟨rfl,hT4,hO4⟩
   rw [<- HA3.out] at hT4 ⊢
   obtain ⟨z4,ha4⟩ : ∃ a,a = A4.heap.size := ⟨_,rfl⟩
   rw [<- ha4] at hT4
   have HE : Hid (EvS w A4 id p i r s fb n1 yb z0 z1 z2 z3 z4 (.slice a1 n1 cap1) is1) := Lib.hid (by
    obtain ⟨g1,g2,g3,g4,g5,g6⟩ := HG.out
    have c1 := HO1.out.size; have c2 := HO2.out.size; have c3 := HO3.out.size; have c4 := hO4.size
    have d1 := HA1.out; have d2 := HA2.out; have d3 := HA3.out
    have o4 := ((HO1.out.trans HO2.out (fun _ _ c => c)).trans HO3.out (fun _ _ c => c)).trans hO4 (fun _ _ c => c)
    have hw := g5.size
    have oo := g5.trans o4 (fun _ _ c => c)
    refine ⟨o4.heap g1 (fun c => c),(IvAt.off HL.out oo (fun _ _ _ c => c)).mono (fun k _ c => by omega),?_,o4.heap g2 (fun c => c),⟨g3,g4,by omega,by omega,by omega,by omega,by omega,by omega⟩,oo⟩
    have h := Ls.of_all (cap := n1) (T := 30) (xs := List.replicate n1 0) (show NumsAt A0 yb 30 (List.replicate n1 0) from g2) (by rw [List.length_replicate]; omega)
    rw [List.length_replicate] at h
    have hfm : (List.replicate n1 0).map (fm p) = List.replicate n1 0 := by simp [fm]
    rw [hfm]
    exact (LsAt.off (Ls.lt h) o4 (fun _ _ _ c => c)).mono (fun k _ c => by have := c.1; omega))
   have H1 := Lib.hid (((HT1.out.off0 HO2.out).off0 HO3.out).off0 hO4)
   have H2 := Lib.hid ((HT2.out.off0 HO3.out).off0 hO4)
   have H3 := Lib.hid (HT3.out.off0 hO4)
   have H4 := Lib.hid hT4
   have HA4 := Lib.hid ha4
   clear ha4 hT4 hO4 HT1 HT2 HT3 HO1 HO2 HO3 HA1 HA2 HA3 HG HL
   obtain ⟨f0,f1,f2,f3,f4,f5,f6,f7,f8,f9,f10,f11,f12,f13⟩ := fv_cells HE.out.F
   have hlf := heap_lt HE.out.F
   go_wp2_with fail
   clear f0 f1 f2 f3 f4 f5 f6 f7 f8 f9 f10 f11 f12 f13 hlf
   refine (FW.out _ _ _ _ _ _ _ A4 HE.out).mono ?_
   rintro e A5 ⟨rfl,hO⟩
   have hb := HE.out.b
   have hE := HE.out.go hO (fun k c => by exact c.elim)
   have h1 := H1.out.off hO (fun k c d => by exact c.elim)
   have h2 := H2.out.off hO (fun k c d => by exact c.elim)
   have h3 := H3.out.off hO (fun k c d => by exact c.elim)
   have h4 := H4.out.off hO (fun k c d => by exact c.elim)
   clear HE H1 H2 H3 H4 hO hb
   have HE := Lib.hid hE
   have H1 := Lib.hid h1
   have H2 := Lib.hid h2
   have H3 := Lib.hid h3
   have H4 := Lib.hid h4
   clear hE h1 h2 h3 h4
   obtain ⟨f0,f1,f2,f3,f4,f5,f6,f7,f8,f9,f10,f11,f12,f13⟩ := fv_cells HE.out.F
   have hlf := heap_lt HE.out.F
   go_wp2_with fail
   clear f0 f1 f2 f3 f4 f5 f6 f7 f8 f9 f10 f11 f12 f13 hlf
   refine (FZ.out _ _ _ _ _ _ _ A5 HE.out).mono ?_
   rintro e A6 ⟨rfl,hO⟩
   have hb := HE.out.b
   have hE := HE.out.go hO (fun k c => by exact c.elim)
   have h1 := H1.out.off hO (fun k c d => by exact c.elim)
   have h2 := H2.out.off hO (fun k c d => by exact c.elim)
   have h3 := H3.out.off hO (fun k c d => by exact c.elim)
   have h4 := H4.out.off hO (fun k c d => by exact c.elim)
   clear HE H1 H2 H3 H4 hO hb
   have HE := Lib.hid hE
   have H1 := Lib.hid h1
   have H2 := Lib.hid h2
   have H3 := Lib.hid h3
   have H4 := Lib.hid h4
   clear hE h1 h2 h3 h4
   obtain ⟨f0,f1,f2,f3,f4,f5,f6,f7,f8,f9,f10,f11,f12,f13⟩ := fv_cells HE.out.F
   have hlf := heap_lt HE.out.F
   go_wp2_with fail
   clear f0 f1 f2 f3 f4 f5 f6 f7 f8 f9 f10 f11 f12 f13 hlf
   refine (FI.out _ _ _ _ _ _ _ A6 HE.out).mono ?_
   rintro e A7 ⟨rfl,hO⟩
   have hb := HE.out.b
   have hE := HE.out.go hO (fun k c => by exact c.elim)
   have h1 := H1.out.off hO (fun k c d => by exact c.elim)
   have h2 := H2.out.off hO (fun k c d => by exact c.elim)
   have h3 := H3.out.off hO (fun k c d => by exact c.elim)
   have h4 := H4.out.off hO (fun k c d => by exact c.elim)
   clear HE H1 H2 H3 H4 hO hb
   have HE := Lib.hid hE
   have H1 := Lib.hid h1
   have H2 := Lib.hid h2
   have H3 := Lib.hid h3
   have H4 := Lib.hid h4
   clear hE h1 h2 h3 h4
   have HK : Hid (∀ W',Off (fun _ => False) A7 W' -> (W'.cell? ⟨fb,0,none⟩ = some (.int .i64 id) /\ W'.cell? ⟨fb,1,none⟩ = some (.int .u64 (wd p 0 : Int)) /\ W'.cell? ⟨fb,2,none⟩ = some (.int .u64 (wd p 1 : Int)) /\ W'.cell? ⟨fb,3,none⟩ = some (.int .u64 (wd p 2 : Int)) /\ W'.cell? ⟨fb,4,none⟩ = some (.int .u64 (wd p 3 : Int)) /\ W'.cell? ⟨fb,5,none⟩ = some (.int .u64 (i : Int)) /\ W'.cell? ⟨fb,6,none⟩ = some (.int .u64 (wd r 0 : Int)) /\ W'.cell? ⟨fb,7,none⟩ = some (.int .u64 (wd r 1 : Int)) /\ W'.cell? ⟨fb,8,none⟩ = some (.int .u64 (wd r 2 : Int)) /\ W'.cell? ⟨fb,9,none⟩ = some (.int .u64 (wd r 3 : Int)) /\ W'.cell? ⟨fb,10,none⟩ = some (.int .u64 (wd s 0 : Int)) /\ W'.cell? ⟨fb,11,none⟩ = some (.int .u64 (wd s 1 : Int)) /\ W'.cell? ⟨fb,12,none⟩ = some (.int .u64 (wd s 2 : Int)) /\ W'.cell? ⟨fb,13,none⟩ = some (.int .u64 (wd s 3 : Int))) /\ Off (fun _ => False) A7 W') := Lib.hid (fun W' h => ⟨fv_cells (h.heap HE.out.F (fun c => c)),h⟩)
   have HEx := Lib.hid HE.out
   have HYO := Lib.hid (fun W' (h : Off (fun _ => False) A7 W') => (h.heap HE.out.O (fun c => c) : W'.heap[yb]? = some (.cells (flat4 (List.replicate n1 0)).toArray 30 (0,0))))
   have HYL := Lib.hid (fun W' (h : Off (fun _ => False) A7 W') => (Ls.of HE.out.Y).off h)
   clear HE
   have HE := HEx
   go_upto_region 9 with fail
   refine wp_region_inv (fun a0 l a' w' => ∃ (u42 : Value) (u43 : Value) (u44 : Value) (u45 : Value) (u46 : Value) (u47 : Value) (u48 : Value) (u49 : Value) (u50 : Value),a' = (Act.put (Act.put (Act.put (Act.put (Act.put (Act.put (Act.put (Act.put (Act.put a0 (some 42) u42) (some 43) u43) (some 44) u44) (some 45) u45) (some 46) u46) (some 47) u47) (some 48) u48) (some 49) u49) (some 50) u50) /\ Slot l 0 u42 (.pointer (some ⟨z3,0,none⟩)) /\ Slot l 1 u43 (FV id p i r s) /\ Slot l 2 u44 (.slice (some ⟨yb,0,none⟩) n1 n1) /\ Slot l 3 u45 (.slice (some ⟨yb,0,none⟩) n1 n1) /\ Slot l 4 u46 (.pointer (some ⟨fb,6,none⟩)) /\ Slot l 5 u47 (V r) /\ Slot l 8 u50 (.tuple #[V 0,.int .i64 8]) /\ Lk l 6 u48 w' ([r]) /\ Lk l 7 u49 w' (List.replicate n1 0 ++ [r]) /\ Off (fun _ => False) A7 w') (by kernel_rfl) (by kernel_rfl) ?_ ⟨?_,?_,?_,?_,?_,?_,?_,?_,?_,trivial⟩ ?_
   ·refine ⟨?z42,?z43,?z44,?z45,?z46,?z47,?z48,?z49,?z50,?fr,Slot.start _ _ _,Slot.start _ _ _,Slot.start _ _ _,Slot.start _ _ _,Slot.start _ _ _,Slot.start _ _ _,Slot.start _ _ _,Lk.start _ _ _ _,Lk.start _ _ _ _,(Off.refl _ A7).drew⟩
    case fr => first | (simp only [Act.put,List.setIfInBounds_toArray,List.set_cons_zero,List.set_cons_succ]; rfl) | simp only [Act.put,List.setIfInBounds_toArray,List.set_cons_zero,List.set_cons_succ]
   ·intro l a wr hI hl hd K' hK
    obtain ⟨u42,u43,u44,u45,u46,u47,u48,u49,u50,ha,s0,s1,s2,s3,s4,s5,s8,M6,M7,hO⟩ := hI
    simp only [Act.put,List.setIfInBounds_toArray,List.set_cons_zero,List.set_cons_succ] at ha
    subst ha
    go_simp
    refine hK.out _ _ ⟨_,_,_,_,_,_,_,_,_,?_,Slot.new _ _ _,s1.keep rfl,s2.keep rfl,s3.keep rfl,s4.keep rfl,s5.keep rfl,s8.keep rfl,M6.keep (Off.refl _ wr) rfl,M7.keep (Off.refl _ wr) rfl,hO⟩
    simp only [Act.put,List.setIfInBounds_toArray,List.set_cons_zero,List.set_cons_succ]
   ·intro l a wr hI hl hd K' hK
    obtain ⟨u42,u43,u44,u45,u46,u47,u48,u49,u50,ha,s0,s1,s2,s3,s4,s5,s8,M6,M7,hO⟩ := hI
    simp only [Act.put,List.setIfInBounds_toArray,List.set_cons_zero,List.set_cons_succ] at ha
    subst ha
    have hc := HK.out wr hO
    have p0 := hc.1.1
    have p1 := hc.1.2.1
    have p2 := hc.1.2.2.1
    have p3 := hc.1.2.2.2.1
    have p4 := hc.1.2.2.2.2.1
    have p5 := hc.1.2.2.2.2.2.1
    have p6 := hc.1.2.2.2.2.2.2.1
    have p7 := hc.1.2.2.2.2.2.2.2.1
    have p8 := hc.1.2.2.2.2.2.2.2.2.1
    have p9 := hc.1.2.2.2.2.2.2.2.2.2.1
    have p10 := hc.1.2.2.2.2.2.2.2.2.2.2.1
    have p11 := hc.1.2.2.2.2.2.2.2.2.2.2.2.1
    have p12 := hc.1.2.2.2.2.2.2.2.2.2.2.2.2.1
    have p13 := hc.1.2.2.2.2.2.2.2.2.2.2.2.2.2
    clear hc
    go_simp
    refine hK.out _ _ ⟨_,_,_,_,_,_,_,_,_,?_,s0.keep rfl,Slot.new _ _ _,s2.keep rfl,s3.keep rfl,s4.keep rfl,s5.keep rfl,s8.keep rfl,M6.keep (Off.refl _ wr) rfl,M7.keep (Off.refl _ wr) rfl,hO⟩
    simp only [Act.put,List.setIfInBounds_toArray,List.set_cons_zero,List.set_cons_succ]
   ·intro l a wr hI hl hd K' hK
    obtain ⟨u42,u43,u44,u45,u46,u47,u48,u49,u50,ha,s0,s1,s2,s3,s4,s5,s8,M6,M7,hO⟩ := hI
    simp only [Act.put,List.setIfInBounds_toArray,List.set_cons_zero,List.set_cons_succ] at ha
    subst ha
    go_simp
    refine hK.out _ _ ⟨_,_,_,_,_,_,_,_,_,?_,s0.keep rfl,s1.keep rfl,Slot.new _ _ _,s3.keep rfl,s4.keep rfl,s5.keep rfl,s8.keep rfl,M6.keep (Off.refl _ wr) rfl,M7.keep (Off.refl _ wr) rfl,hO⟩
    simp only [Act.put,List.setIfInBounds_toArray,List.set_cons_zero,List.set_cons_succ]
   ·intro l a wr hI hl hd K' hK
    obtain ⟨u42,u43,u44,u45,u46,u47,u48,u49,u50,ha,s0,s1,s2,s3,s4,s5,s8,M6,M7,hO⟩ := hI
    simp only [Act.put,List.setIfInBounds_toArray,List.set_cons_zero,List.set_cons_succ] at ha
    subst ha
    go_simp
    refine hK.out _ _ ⟨_,_,_,_,_,_,_,_,_,?_,s0.keep rfl,s1.keep rfl,s2.keep rfl,Slot.new _ _ _,s4.keep rfl,s5.keep rfl,s8.keep rfl,M6.keep (Off.refl _ wr) rfl,M7.keep (Off.refl _ wr) rfl,hO⟩
    simp only [Act.put,List.setIfInBounds_toArray,List.set_cons_zero,List.set_cons_succ]
   ·intro l a wr hI hl hd K' hK
    obtain ⟨u42,u43,u44,u45,u46,u47,u48,u49,u50,ha,s0,s1,s2,s3,s4,s5,s8,M6,M7,hO⟩ := hI
    simp only [Act.put,List.setIfInBounds_toArray,List.set_cons_zero,List.set_cons_succ] at ha
    subst ha
    go_simp
    refine hK.out _ _ ⟨_,_,_,_,_,_,_,_,_,?_,s0.keep rfl,s1.keep rfl,s2.keep rfl,s3.keep rfl,Slot.new _ _ _,s5.keep rfl,s8.keep rfl,M6.keep (Off.refl _ wr) rfl,M7.keep (Off.refl _ wr) rfl,hO⟩
    simp only [Act.put,List.setIfInBounds_toArray,List.set_cons_zero,List.set_cons_succ]
   ·intro l a wr hI hl hd K' hK
    obtain ⟨u42,u43,u44,u45,u46,u47,u48,u49,u50,ha,s0,s1,s2,s3,s4,s5,s8,M6,M7,hO⟩ := hI
    simp only [Act.put,List.setIfInBounds_toArray,List.set_cons_zero,List.set_cons_succ] at ha
    have q4 := s4 (hd 4 (by decide))
    subst ha q4
    have hc := HK.out wr hO
    have p0 := hc.1.1
    have p1 := hc.1.2.1
    have p2 := hc.1.2.2.1
    have p3 := hc.1.2.2.2.1
    have p4 := hc.1.2.2.2.2.1
    have p5 := hc.1.2.2.2.2.2.1
    have p6 := hc.1.2.2.2.2.2.2.1
    have p7 := hc.1.2.2.2.2.2.2.2.1
    have p8 := hc.1.2.2.2.2.2.2.2.2.1
    have p9 := hc.1.2.2.2.2.2.2.2.2.2.1
    have p10 := hc.1.2.2.2.2.2.2.2.2.2.2.1
    have p11 := hc.1.2.2.2.2.2.2.2.2.2.2.2.1
    have p12 := hc.1.2.2.2.2.2.2.2.2.2.2.2.2.1
    have p13 := hc.1.2.2.2.2.2.2.2.2.2.2.2.2.2
    clear hc
    go_simp
    refine hK.out _ _ ⟨_,_,_,_,_,_,_,_,_,?_,s0.keep rfl,s1.keep rfl,s2.keep rfl,s3.keep rfl,s4.keep rfl,Slot.new _ _ _,s8.keep rfl,M6.keep (Off.refl _ wr) rfl,M7.keep (Off.refl _ wr) rfl,hO⟩
    simp only [Act.put,List.setIfInBounds_toArray,List.set_cons_zero,List.set_cons_succ]
   ·intro l a wr hI hl hd K' hK
    obtain ⟨u42,u43,u44,u45,u46,u47,u48,u49,u50,ha,s0,s1,s2,s3,s4,s5,s8,M6,M7,hO⟩ := hI
    simp only [Act.put,List.setIfInBounds_toArray,List.set_cons_zero,List.set_cons_succ] at ha
    have q5 := s5 (hd 5 (by decide))
    subst ha q5
    go_simp
    refine hK.out _ _ ⟨_,_,_,_,_,_,_,_,_,?_,s0.keep rfl,s1.keep rfl,s2.keep rfl,s3.keep rfl,s4.keep rfl,s5.keep rfl,s8.keep rfl,(fun _ => built_r wr r),M7.keep ((Off.refl _ wr).alloc _) rfl,hO.alloc _⟩
    simp only [Act.put,List.setIfInBounds_toArray,List.set_cons_zero,List.set_cons_succ]
   ·intro l a wr hI hl hd K' hK
    obtain ⟨u42,u43,u44,u45,u46,u47,u48,u49,u50,ha,s0,s1,s2,s3,s4,s5,s8,M6,M7,hO⟩ := hI
    simp only [Act.put,List.setIfInBounds_toArray,List.set_cons_zero,List.set_cons_succ] at ha
    have q3 := s3 (hd 3 (by decide))
    have m6 := M6 (hd 6 (by decide))
    subst ha q3
    obtain ⟨ba,bc,rfl,hbl⟩ := m6.open
    obtain ⟨bb,bo,rfl,_,hel⟩ := hbl.get (j := 0) (x := r) rfl
    obtain ⟨uv,w1,hrun,hown,hgrow⟩ := run_append_arg_grows (P := Tryd.prog) wr 35 35 30 i0' _ 4 32 Tryd.underlying35 hi hz0 hz1 hz2 rfl (by decide) ⟨yb,0,none⟩ n1 n1 (flat4 (List.replicate n1 0)) (by rw [flat4_length,List.length_replicate]) (olds_at (HYO.out wr hO)) ⟨bb,bo,none⟩ [r].length bc (words4 r) rfl (words4_el (by simpa using hel)) (by simp) (by unfold maxLen; simp; omega) (by simp; omega)
    have hm : Ls w1 uv (List.replicate n1 0 ++ [r]) := by
     rw [show flat4 (List.replicate n1 0) ++ words4 r = flat4 (List.replicate n1 0 ++ [r]) by rw [flat4_append]; rfl] at hown
     obtain ⟨g',cap',rfl⟩ := ownsRow_succ (k := n1) hown
     exact Ls.of (ls_of_own hown (by simp) (by simp; omega))
    have hOW : Off (fun _ => False) wr w1 := (Off.refl _ wr).grown hgrow (fun j e => by cases e)
    have hO1 := hO.trans hOW (fun _ _ c => c.elim)
    refine wp_append_run _ _ 35 rfl _ _ rfl rfl hrun ?_
    refine hK.out _ _ ⟨_,_,_,_,_,_,_,_,_,?_,s0.keep rfl,s1.keep rfl,s2.keep rfl,s3.keep rfl,s4.keep rfl,s5.keep rfl,s8.keep rfl,M6.keep hOW rfl,Lk.new hm,hO1⟩
    simp only [Act.put,List.setIfInBounds_toArray,List.set_cons_zero,List.set_cons_succ]
   ·intro l a wr hI hl hd K' hK
    obtain ⟨u42,u43,u44,u45,u46,u47,u48,u49,u50,ha,s0,s1,s2,s3,s4,s5,s8,M6,M7,hO⟩ := hI
    simp only [Act.put,List.setIfInBounds_toArray,List.set_cons_zero,List.set_cons_succ] at ha
    have q0 := s0 (hd 0 (by decide))
    have q1 := s1 (hd 1 (by decide))
    have q2 := s2 (hd 2 (by decide))
    have m7 := M7 (hd 7 (by decide))
    subst ha q0 q1 q2
    go_simp
    refine (held_inv (FDt.out wr u49 yb (HYL.out wr hO) m7 z3) hO).mono ?_
    rintro e w1 ⟨rfl,hO1,hOW⟩
    go_wp2_with fail
    refine hK.out _ _ ⟨_,_,_,_,_,_,_,_,_,?_,s0.keep rfl,s1.keep rfl,s2.keep rfl,s3.keep rfl,s4.keep rfl,s5.keep rfl,Slot.new _ _ _,M6.keep hOW rfl,M7.keep hOW rfl,hO1⟩
    simp only [Act.put,List.setIfInBounds_toArray,List.set_cons_zero,List.set_cons_succ]
   ·intro l a wc hI hd
    obtain ⟨u42,u43,u44,u45,u46,u47,u48,u49,u50,ha,s0,s1,s2,s3,s4,s5,s8,M6,M7,hO⟩ := hI
    simp only [Act.put,List.setIfInBounds_toArray,List.set_cons_zero,List.set_cons_succ] at ha
    have q0 := s0 (hd 0 (by decide))
    have q1 := s1 (hd 1 (by decide))
    have q2 := s2 (hd 2 (by decide))
    have q3 := s3 (hd 3 (by decide))
    have q4 := s4 (hd 4 (by decide))
    have q5 := s5 (hd 5 (by decide))
    have q8 := s8 (hd 8 (by decide))
    have m48 := M6 (hd 6 (by decide))
    have m49 := M7 (hd 7 (by decide))
    subst ha q0 q1 q2 q3 q4 q5 q8
    clear hd s0 s1 s2 s3 s4 s5 s8 M6 M7
    have hE := HEx.out.go hO (fun k c => c.elim)
    have h1 := H1.out.off0 hO
    have h2 := H2.out.off0 hO
    have h3 := H3.out.off0 hO
    have h4 := H4.out.off0 hO
    clear m48 m49 hO HK HEx HYO HYL HE FDt FW FZ FI H1 H2 H3 H4
    have HE := Lib.hid hE
    have R1 := Lib.hid h1
    have R2 := Lib.hid h2
    have R3 := Lib.hid h3
    have R4 := Lib.hid h4
    clear hE h1 h2 h3 h4
    go_wp2_with fail
    refine (FC.out _ (Iv.of HE.out.I)).mono ?_
    rintro e B0 ⟨rfl,hO⟩
    have hE := HE.out.go hO (fun k c => c.elim)
    have h1 := R1.out.off0 hO
    have h2 := R2.out.off0 hO
    have h3 := R3.out.off0 hO
    have h4 := R4.out.off0 hO
    clear HE R1 R2 R3 R4 hO
    have HE := Lib.hid hE
    have R1 := Lib.hid h1
    have R2 := Lib.hid h2
    have R3 := Lib.hid h3
    have R4 := Lib.hid h4
    clear hE h1 h2 h3 h4
    go_wp2_with fail
    refine (FAL.out _ (HTw.out.off HE.out.off)).mono ?_
    rintro e B1 ⟨rfl,hO⟩
    have hE := HE.out.go hO (fun k c => c.elim)
    have h1 := R1.out.off0 hO
    have h2 := R2.out.off0 hO
    have h3 := R3.out.off0 hO
    have h4 := R4.out.off0 hO
    clear HE R1 R2 R3 R4 hO
    have HE := Lib.hid hE
    have R1 := Lib.hid h1
    have R2 := Lib.hid h2
    have R3 := Lib.hid h3
    have R4 := Lib.hid h4
    clear hE h1 h2 h3 h4
    go_wp2_with fail
    refine (len_any _ [] _ _ R1.out.1).mono ?_
    rintro e X1 ⟨rfl,hx⟩
    subst hx
    go_wp2_with fail
    refine (len_any _ [] _ _ R2.out.1).mono ?_
    rintro e X2 ⟨rfl,hx⟩
    subst hx
    go_wp2_with fail
    refine (len_any _ [] _ _ R3.out.1).mono ?_
    rintro e X3 ⟨rfl,hx⟩
    subst hx
    go_wp2_with fail
    refine (len_any _ [] _ _ R4.out.1).mono ?_
    rintro e X4 ⟨rfl,hx⟩
    subst hx
    have HOf := Lib.hid HE.out.off
    clear HE R1 R2 R3 R4
    go_wp2
    go_ret
    exact ⟨rfl,HOf.out⟩

theorem door_met (os : Os) (args : Array Value) : laidMetH Tryd.prog [("sharecore/field.fields",Rows.laid_sharecore_field_fields)] ((World.doorLaid Tryd.prog 400 os).forCall (fun _ _ => 0) ⟨#[],args,[]⟩).memory :=
 laidMetH_of_parts3 (fuel := 8) (laidMet_of_run' 8 (by kernel_rfl) (by kernel_rfl)) (by kernel_rfl) (by kernel_rfl)

set_option maxRecDepth 100000 in
theorem lifted (os : Os) (started : os.Started) (H : Type) (enc : TypeId × Value -> H) :
  ReturnsInHanded {} Tryd.checked os 7 .any (fun w args => (Rows.lagrangeEventsSpec.pre enc Tryd.prog Tryd.f7 [] false w args /\ laidMetH Tryd.prog [("sharecore/field.fields",Rows.laid_sharecore_field_fields)] w) /\ sizedMet enc Tryd.prog Tryd.f7 (OpenSpec.ofChange Rows.lagrangeEventsSpec) false w args)
   (Rows.lagrangeEventsSpec.post enc Tryd.prog Tryd.f7 false true false false) := by
 refine returnsInHanded_of_change_and (C := Tryd.checked) (X := fun w _ => laidMetH Tryd.prog [("sharecore/field.fields",Rows.laid_sharecore_field_fields)] w) (fun _ _ _ hh h => h.of_heap hh) own started (by kernel_rfl) Tryd.func7
  (ChangeSpec.witness_shaped (enc := enc) (C := Tryd.checked) (os := os) (X := fun w _ => laidMetH Tryd.prog [("sharecore/field.fields",Rows.laid_sharecore_field_fields)] w) false (World.doorLaid Tryd.prog 400 os) #[.bool false,.slice none 0 0] 8 rfl (World.shaped_of_RefB (by kernel_rfl) (by kernel_rfl)) (by kernel_rfl) (by kernel_rfl) (by kernel_rfl) (door_met os _)) ?_
 intro W base args ds gs before hval0 hW _ _ hL _
 have hval : ∀ (j : Nat) t v,Tryd.f7.params[j]? = some t -> args[j]? = some v -> Value.okWide Tryd.prog W .any base t v := hval0
 have hW' := hW
 obtain ⟨p,q,hA0,hV,rfl,hfz,hnd⟩ := hW
 have hA : DataW.TrodAll enc Tryd.prog W 0 (fun _ => true) true Tryd.f7.params.toList args.toList ds p := hA0
 rw [Tryd.params7] at hA hval
 obtain ⟨v0,vs0,d0,ds0,p0,q0,hargs,rfl,rfl,h0,r0⟩ := trodAll_cons hA
 obtain ⟨v1,vs1,d1,ds1,p1,q1,rfl,rfl,rfl,h1,r1⟩ := trodAll_cons r0
 obtain ⟨rfl,rfl,rfl⟩ := trodAll_nil r1
 obtain rfl : args = #[v0,v1] := by cases args; simp_all
 obtain ⟨rfl,rfl⟩ := trodVars_none hV
 obtain ⟨i0,rfl,rfl,rfl⟩ := open_bool Tryd.underlying4 (hval 0 4 v0 rfl rfl) h0
 have w0 := trivial
 obtain ⟨a1,n1,cap1,rfl⟩ := okWide_slice Tryd.underlying22 (hval 1 22 v1 rfl rfl)
 have k1 := h1
 have lt1 : ∀ x ∈ p1,x.block < W.heap.size := by obtain ⟨m,hm⟩ := k1; exact DataW.trod_lt m _ _ _ hm
 obtain ⟨is1,hn1,w1⟩ : ∃ xs,n1 = xs.length /\ IvAt W (.slice a1 n1 cap1) xs (fun k => k < W.heap.size) := by
  obtain ⟨fuel,hf⟩ := h1
  exact ints_of_trod hf
 have hT := tab_of_laid hL
 clear hA0 hval0
 refine (walk i0 a1 n1 cap1 is1 W w0 hn1 w1 hT).mono fun e W' ⟨he,hoff⟩ => ?_
 have bel : Below W.heap.size W W' := hoff.below (Nat.le_refl _) (fun _ _ c => c)
 subst he
 exact ⟨_,rfl,_,_,_,[],_,[],hW',trodAll_mk1 (shut_bool Tryd.underlying4 _),(trodAll_cons_mk (shut_bool Tryd.underlying4 _) (trodAll_cons_mk (Below.trod laidOut (by kernel_rfl) (of_decide_eq_true (by kernel_rfl)) k1 bel lt1) trodAll_mk0)),rfl,bel.frame _,fun h => by cases h⟩

theorem over : Rows.lagrangeEventsRow.holds Tryd.pinned (OpenSpec.ofChange Rows.lagrangeEventsSpec) :=
 OpenClaim.holds_of_wide 7 Tryd.f7 rfl rfl rfl rfl rfl rfl rfl ⟨rfl,rfl,rfl,rfl,rfl⟩ rfl rfl rfl rfl rfl (by kernel_rfl) Tryd.func7 (by kernel_rfl)
  (of_decide_eq_true (by kernel_rfl)) (by unfold Func.isWrapper; first | (rw [if_pos (by decide +kernel)]; kernel_rfl) | (rw [if_neg (by decide +kernel)]; exact ⟨rfl,rfl⟩))
  (fun os started H enc _ => lifted os started H enc)

theorem proved : Rows.LagrangeEventsCardSaid :=
 Claim7.holds_tied_plain_at .later [] [.data] true (true,"52e3f175f7e7c68eca78e9b4b0e19955f01f7bfa3cfafd6aaba7d864c2871f24") false
  over (fun _ h => by cases h) (by kernel_rfl) (fun _ h => by cases h) lagrangeEvents_row_tie rfl ⟨rfl,rfl⟩ (by kernel_rfl) rfl
  (fun f fn hf hfn => by
   obtain rfl : f = 7 := Option.some.inj ((show Tryd.prog.funcNamed "sharecore/sharecorelaw09.LagrangeEvents" = some 7 by kernel_rfl).symm.trans hf) |>.symm
   obtain rfl : fn = Tryd.f7 := (Option.some.inj (Tryd.func7.symm.trans hfn)).symm
   exact ⟨by kernel_rfl,fun j t ht => by
    rw [Tryd.params7] at ht
    have hm : t ∈ [4,22] := by simpa using Array.mem_of_getElem? ht
    have hall : ([4,22].all fun u => !Tryd.prog.wantsStandIn u) = true := by kernel_rfl
    exact (show Tryd.prog.wantsStandIn t = false by simpa using List.all_eq_true.1 hall t hm)⟩)
  (by kernel_rfl)
#print axioms proved
end Go.Proofs.YtcebegfnplplcaaDoor.lagrangeEvents
-- squeezed
