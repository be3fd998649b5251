/-
  For every field, list of numbers and polynomial, the examples of the chapter hold, and with correct points the values of the polynomial fit with its number of coefficients, and any values at no more points than that: the statement of P10.4. No condition.
-/
import Derived.Test.YtggebccgiigboaaDoorRows
import Derived.Test.YtggebccgiigboaaDoorTie
import Derived.Test.YtggebccgiigboaaDoorCards
import Derived.LaidMore
import Derived.LaidHandle
import Derived.SevenTiedAt
import Derived.Stop.Joined
import Derived.JoinedOf
import Derived.Test.YtggebccgiigboaaDoorLimbWords
import Derived.Test.YtggebccgiigboaaDoorIntAll
import Derived.Test.YtggebccgiigboaaDoorVecOpen
import Derived.Test.YtggebccgiigboaaDoorPtsOpen
import Derived.Test.YtggebccgiigboaaDoorFieldTab
import Derived.Test.YtggebccgiigboaaDoorFieldHeld
import Derived.Test.YtggebccgiigboaaDoorDegAlive
import Derived.Test.YtggebccgiigboaaDoorDegRef
import Derived.Test.YtggebccgiigboaaDoorDegBase
import Derived.Test.YtggebccgiigboaaDoorPolLists
import Derived.Test.YtggebccgiigboaaDoorInvAll
import Derived.Test.YtggebccgiigboaaDoorMaskBase
import Derived.WalkKit
import Derived.ProofKit
import Derived.OpenShut
import Derived.ShutString
import Derived.ChangeOld
import Derived.Below
namespace Go.Proofs.YtggebccgiigboaaDoor.degreeAccepts
open Go.ChangeShapes Go.WideShapes Go.ChangeAt Go.RowKit
set_option linter.unusedVariables false

theorem own : ownKnob Tryd.prog.godebug = none := by kernel_rfl
theorem laidOut : laidOutB Tryd.prog = true := by kernel_rfl

theorem mods_lt {p : Nat} (h : 0 < p) (xs : List Nat) : ∀ v ∈ xs.map (· % p),v < p := by
 intro v hv
 obtain ⟨x,_,rfl⟩ := List.mem_map.1 hv
 exact Nat.mod_lt _ h
theorem two_cells {w : World} {b : Nat} {T : TypeId} {v0 v1 : Value} (h : w.heap[b]? = some (.cells #[v0,v1] T (0,0))) : w.cell? ⟨b,0,none⟩ = some v0 /\ w.cell? ⟨b,1,none⟩ = some v1 := ⟨cell_of_heap h 0,cell_of_heap h 1⟩
theorem own_cap {w : World} {B n cap size : Nat} {T : TypeId} {a : Option Addr} {xs : List Value} (h : w.ownsRow B T size (.slice a n cap) n xs) : n <= cap := by
 rcases h.2 with ⟨e,h0⟩ | ⟨g,c,cur,e,_,_,hc,_⟩
 ·omega
 ·cases e; exact hc
theorem ret_int {a b : Int} (k : IntKind) (h : a = b) : Ending.returned (.int k a) = .returned (.int k b) := by rw [h]
/-- A list of the call's own that takes one element more at operation i. -/
def OwT (B : Nat) (T : TypeId) (v0 : Value) (k : Nat) (x0 x1 : List Value) (l : Nat -> Bool) (i : Nat) (u : Value) (w : World) : Prop := (l i = false -> w.ownsRow B T 4 v0 k x0) /\ (l i = true -> w.ownsRow B T 4 u (k + 1) x1)
theorem OwT.keep {B : Nat} {T : TypeId} {v0 : Value} {k : Nat} {x0 x1 : List Value} {l : Nat -> Bool} {i j : Nat} {u : Value} {w w' : World} (h : OwT B T v0 k x0 x1 l i u w) (ho : Off (fun _ => False) w w') (hj : (j == i) = false) : OwT B T v0 k x0 x1 (upd l j) i u w' := by
 unfold OwT
 rw [upd_k l hj]
 exact ⟨fun hl => own_off (h.1 hl) ho,fun hl => own_off (h.2 hl) ho⟩
/-- A slice of numbers that is told till operation t. -/
def LkU (l : Nat -> Bool) (i t : Nat) (u : Value) (w : World) (xs : List Nat) : Prop := l i = true -> l t = false -> Ls w u xs
theorem LkU.keep {l : Nat -> Bool} {i t j : Nat} {u : Value} {w w' : World} {xs : List Nat} (h : LkU l i t u w xs) (ho : Off (fun _ => False) w w') (hi : (j == i) = false) (ht : (j == t) = false) : LkU (upd l j) i t u w' xs := fun h1 h2 => by
 rw [upd_k l hi] at h1; rw [upd_k l ht] at h2; exact (h h1 h2).off ho
/-- A list of the call's own that an assign has taken over. -/
def OwN (B : Nat) (T : TypeId) (n : Nat) (x : List Value) (l : Nat -> Bool) (i t : Nat) (u : Value) (w : World) : Prop := l i = true -> l t = true /\ w.ownsRow B T 4 u n x
theorem OwN.keep {B : Nat} {T : TypeId} {n : Nat} {x : List Value} {l : Nat -> Bool} {i t j : Nat} {u : Value} {w w' : World} (h : OwN B T n x l i t u w) (ho : Off (fun _ => False) w w') (hi : (j == i) = false) (ht : (j == t) = false) : OwN B T n x (upd l j) i t u w' := fun h1 => by
 rw [upd_k l hi] at h1
 exact ⟨by rw [upd_k l ht]; exact (h h1).1,own_off (h h1).2 ho⟩
theorem OwN.past {B : Nat} {T : TypeId} {n : Nat} {x : List Value} {l : Nat -> Bool} {i t : Nat} {u : Value} {w w' : World} (h : OwN B T n x l i t u w) (hl : l t = false) (hi : (t == i) = false) : OwN B T n x (upd l t) i t u w' := fun h1 => by
 rw [upd_k l hi] at h1; have h2 := (h h1).1; rw [hl] at h2; cases h2
theorem OwT.new {B : Nat} {T : TypeId} {v0 : Value} {k : Nat} {x0 x1 : List Value} {l : Nat -> Bool} {i : Nat} {u : Value} {w : World} (h : w.ownsRow B T 4 u (k + 1) x1) : OwT B T v0 k x0 x1 (upd l i) i u w := ⟨fun h => (by rw [upd_same] at h; cases h),fun _ => h⟩
theorem OwT.start {B : Nat} {T : TypeId} {v0 : Value} {k : Nat} {x0 x1 : List Value} {i : Nat} {u : Value} {w : World} (h : w.ownsRow B T 4 v0 k x0) : OwT B T v0 k x0 x1 (fun _ => false) i u w := ⟨fun _ => h,fun h => (by cases h)⟩
/-- A list of the call's own till operation i. -/
def OwB (B : Nat) (T : TypeId) (v : Value) (k : Nat) (x : List Value) (l : Nat -> Bool) (i : Nat) (w : World) : Prop := l i = false -> w.ownsRow B T 4 v k x
theorem OwB.keep {B : Nat} {T : TypeId} {v : Value} {k : Nat} {x : List Value} {l : Nat -> Bool} {i j : Nat} {w w' : World} (h : OwB B T v k x l i w) (ho : Off (fun _ => False) w w') (hj : (j == i) = false) : OwB B T v k x (upd l j) i w' := fun hl => by
 rw [upd_k l hj] at hl; exact own_off (h hl) ho
theorem OwB.gone {B : Nat} {T : TypeId} {v : Value} {k : Nat} {x : List Value} {l : Nat -> Bool} {i : Nat} {w : World} : OwB B T v k x (upd l i) i w := fun h => by rw [upd_same] at h; cases h
theorem LkU.gone {l : Nat -> Bool} {i t : Nat} {u : Value} {w : World} {xs : List Nat} : LkU (upd l t) i t u w xs := fun _ h => by rw [upd_same] at h; cases h
theorem words4_el {w : World} {b off r : Nat} (h : elAt w b off r) : ∀ j u,(words4 r)[j]? = some u -> w.cell? ((⟨b,off,none⟩ : Addr).add j) = some u := by
 intro j u hj
 obtain ⟨c0,c1,c2,c3⟩ := h
 rw [Addr.add_lit]
 have hjl := (List.getElem?_eq_some_iff.1 hj).1
 have : j = 0 ∨ j = 1 ∨ j = 2 ∨ j = 3 := by simp [words4] at hjl; omega
 rcases this with rfl | rfl | rfl | rfl <;> simp [words4] at hj <;> subst hj <;> assumption
theorem built_r (w : World) (m : Nat) : Ls (w.alloc (.cells #[.int .u64 (wd m 0 : Int),.int .u64 (wd m 1 : Int),.int .u64 (wd m 2 : Int),.int .u64 (wd m 3 : Int)] 29 (0,0))) (.slice (some ⟨w.heap.size,0,none⟩) 1 1) [m] := ls_build w [m] (by simp) 29
theorem wp_append_run {w : World} {o : Oper} {a : Act} {K : Act -> World -> Prop} {Q : Exit -> Act -> World -> Prop} (s x : Operand) (t : TypeId) (ho : o.op = .call { callee := .builtin .append,args := #[s,x],argTypes := #[t,t] }) (v1 v2 : Value) (hs : a.eval s = v1) (hx : a.eval x = v2) {v' : Value} {w' : World}
  (hr : (Builtin.append_ #[t,t] o.type #[v1,v2]).run Tryd.prog w = .ok v' w') (h : K (a.put o.dst v') w') : o.wp Tryd.prog a w K Q := by
 unfold Oper.wp execOp
 simp only [ho,resolve,invoke,builtin,Sem.run_bind,Sem.run_pure,Result.andThen_ok,List.map_toArray,List.map_cons,List.map_nil,hs,hx,hr]
 exact h
theorem chkV_take {xs : List Int} (h : chkV xs = 0) (m : Nat) : chkV (xs.take m) = 0 := by
 obtain ⟨hr,hd⟩ := chkV_zero h
 exact chkV_ok (fun x hx => hr x (List.mem_of_mem_take hx)) (hd.sublist (List.take_sublist m xs))
set_option maxRecDepth 100000 in
set_option maxHeartbeats 4000000 in
theorem walk (i0 : Bool) (a1 : Option Addr) (n1 cap1 : Nat) (is1 : List Int) (a2 : Option Addr) (n2 cap2 : Nat) (xs2 : List Nat) (w : World) (w0 : True) (hn1 : n1 = is1.length) (hc1 : n1 <= cap1) (w1 : IvAt w (.slice a1 n1 cap1) is1 (fun k => k < w.heap.size)) (hn2 : n2 = xs2.length) (w2 : VsAt w (.slice a2 n2 cap2) xs2 (fun k => k < w.heap.size)) (hT : TabAt w) :
  Calls Tryd.prog 6 #[.bool i0,.slice a1 n1 cap1,.slice a2 n2 cap2] w fun e w' => e = .returned (.bool true) /\ Off (fun _ => False) w w' := by
 obtain ⟨id,p,i,r,s,hF,hid⟩ := fld_of i0
 have hp := hF.mp.lt
 have h1 := hF.mp.one
 have hp0 : 0 < p := by omega
 obtain ⟨_,hfer,_,hbig⟩ := fld_full hF
 have FG := Lib.hid (fun W hT => get10_any i0 hF hid W hT)
 have FAL : Hid (∀ W,TabAt W -> Calls Tryd.prog 8 #[] W fun e w' => e = .returned (.bool true) /\ Off (fun _ => False) W w') := Lib.hid (fun W hT => alive10_any W hT)
 obtain ⟨hnl,hnm,hws⟩ := w1.len
 obtain ⟨hnl2,hnm2,hxs2⟩ := w2.len
 have HL1 := Lib.hid (Iv.of w1)
 have HTw := Lib.hid hT
 by_cases hmx : 5 < n1
 ·have hbi : decide ((5 : Int) < (n1 : Int)) = true := by simp; omega
  have hbp : (5 : Int) < (n1 : Int) := by omega
  clear hF hid hp h1 hp0 hfer hbig FG hnl hnm hws hn1 hc1 w1 w2 hnl2 hnm2 hxs2 hn2 hmx
  go_enter Tryd.func6,Tryd.ntmps6
  go_wp2_with fail
  refine (FAL.out _ (hT.off (Off.refl _ w))).mono ?_
  rintro e u0 ⟨rfl,hO⟩
  have HO := Lib.hid ((Off.refl _ w : Off (fun _ => False) w _).trans hO (fun _ _ c => c))
  clear hO
  go_wp2
  go_ret
  exact ⟨rfl,HO.out⟩
 ·have hbi : decide ((5 : Int) < (n1 : Int)) = false := by simp; omega
  have hbp : ¬ (5 : Int) < (n1 : Int) := by omega
  by_cases hmn : 5 < n2
  ·have hbi2 : decide ((5 : Int) < (n2 : Int)) = true := by simp; omega
   have hbp2 : (5 : Int) < (n2 : Int) := by omega
   clear hF hid hp h1 hp0 hfer hbig FG hnl hnm hws hn1 hc1 w1 w2 hnl2 hnm2 hxs2 hn2 hmx hmn
   go_enter Tryd.func6,Tryd.ntmps6
   go_wp2_with fail
   refine (FAL.out _ (hT.off (Off.refl _ w))).mono ?_
   rintro e u0 ⟨rfl,hO⟩
   have HO := Lib.hid ((Off.refl _ w : Off (fun _ => False) w _).trans hO (fun _ _ c => c))
   clear hO
   go_wp2
   go_ret
   exact ⟨rfl,HO.out⟩
  ·have hbi2 : decide ((5 : Int) < (n2 : Int)) = false := by simp; omega
   have hbp2 : ¬ (5 : Int) < (n2 : Int) := by omega
   by_cases hc : chkV is1 = 0
   ·obtain ⟨hr,hnd⟩ := chkV_zero hc
    obtain ⟨vs,hvs⟩ : ∃ l,l = xs2.map (· % p) := ⟨_,rfl⟩
    have hvsl : vs.length = n2 := by rw [hvs,List.length_map]; omega
    have hvsp : ∀ v ∈ vs,v < p := by rw [hvs]; exact mods_lt hp0 _
    have FV2 := Lib.hid (show ∀ W v,Ls W v xs2 -> Calls Tryd.prog 10 #[V p,v] W fun e w' => ∃ a c a2 c2,e = .returned (.tuple #[.slice a n2 c,.slice a2 n2 c2]) /\ n2 <= c2 /\ Ls w' (.slice a n2 c) vs /\ Ls w' (.slice a2 n2 c2) (vs.map (fm p)) /\ Off (fun _ => False) W w' from fun W v h => by
     refine (values_own hp h1 xs2 hxs2 (by omega) v W h).mono ?_
     rintro e w' ⟨a,c,a2,c2,rfl,k1,k2,hO⟩
     rw [<- hvs] at k1 k2
     have k3 := own_cap k2
     have k4 := Ls.of (ls_of_own k1 (by rw [hvs,List.length_map]) (by omega))
     have k5 := Ls.of (ls_of_own k2 (by rw [List.length_map,hvs,List.length_map]) (by omega))
     rw [<- hnl2] at k3 k4 k5 ⊢
     exact ⟨_,_,_,_,rfl,k3,k4,k5,hO⟩)
    have HL2 := Lib.hid (ls_of_vs w2 (by omega))
    obtain ⟨ps,hps⟩ : ∃ l,l = ptV is1 := ⟨_,rfl⟩
    obtain ⟨ys,hys⟩ : ∃ l,l = ps.map (fun x => pv vs x % p) := ⟨_,rfl⟩
    obtain ⟨es,hes⟩ : ∃ l,l = ys.map (fm p) := ⟨_,rfl⟩
    have hpl : ps.length = n1 := by rw [hps,ptV_length]; omega
    have hyl : ys.length = n1 := by rw [hys,List.length_map]; exact hpl
    have hel : es.length = n1 := by rw [hes,List.length_map]; exact hyl
    have HAt := Lib.hid (show ∀ W,Off (fun _ => False) w W -> ∀ k,k < n1 -> ∃ b off m,a1 = some ⟨b,off,none⟩ /\ W.cell? ⟨b,off + k,none⟩ = some (.int .i64 ((m : Nat) : Int)) /\ m < 256 /\ ps[k]? = some m from fun W h k hk => by
     obtain ⟨b,off,m,h1,h2,h3,h4⟩ := ints_at (IvAt.off w1 h (fun _ _ _ c => c)) hr hk
     rw [<- hps,List.getD_eq_getElem?_getD,List.getElem?_eq_getElem (by omega)] at h4
     exact ⟨b,off,m,h1,h2,h3,by rw [List.getElem?_eq_getElem (by omega)]; simpa using h4⟩)
    have FPt := Lib.hid (show ∀ m : Nat,m < 256 -> ∀ W,Calls Tryd.prog 26 #[.int .i64 (m : Int)] W fun e w' => e = .returned (V m) /\ Off (fun _ => False) W w' from fun m hm W => point_any m hm W)
    have FEv := Lib.hid (show ∀ m,m < 256 -> ∀ W v,Ls W v vs -> Calls Tryd.prog 25 #[V p,v,V m] W fun e w' => e = .returned (V (pv vs m % p)) /\ Off (fun _ => False) W w' from fun m hm W v h => refeval_any hp (by omega) vs hvsp m (by omega) v W h)
    have FFm := Lib.hid (show ∀ y,y < p -> ∀ W,Calls Tryd.prog 24 #[V p,V y] W fun e w' => e = .returned (V (fm p y)) /\ Off (fun _ => False) W w' from fun y hy W => form_any p y hp h1 (Nat.lt_trans hy hp) W)
    have HEs := Lib.hid (show ∀ k m,ps[k]? = some m -> es[k]? = some (fm p (pv vs m % p)) from fun k m h => by rw [hes,hys,List.getElem?_map,List.getElem?_map,h]; rfl)
    have HEl := Lib.hid hel
    have HPm := Lib.hid (show ∀ m,pv vs m % p < p from fun m => Nat.mod_lt _ hp0)
    have hap : Apart p ps := by rw [hps]; exact ints_apart hbig hc
    have hplt : ∀ x ∈ ps,x < p := by rw [hps]; exact ptV_lt hbig hr
    have hf1 : fitM p is1 ys (n2 : Int) = 18446744073709551615 := by
     unfold fitM
     rw [<- hps,Int.toNat_natCast,low_of_values h1 hfer ps hplt hap vs hvsp ys (fun j hj => by
      rw [hys,List.getD_eq_getElem?_getD,List.getElem?_map,List.getD_eq_getElem?_getD,List.getElem?_eq_getElem hj]
      simp) (by omega)]; rfl
    obtain ⟨m1,hm1⟩ : ∃ m1,m1 = min n2 n1 := ⟨_,rfl⟩
    have hmm : min (n2 : Int) (n1 : Int) = (m1 : Int) := by omega
    have hf2 : fitM p (is1.take m1) (vs.take m1) (n2 : Int) = 18446744073709551615 := by
     unfold fitM
     rw [Int.toNat_natCast,low_long _ _ (by rw [ptV_length,List.length_take]; omega)]; rfl
    have FF1 := Lib.hid (show ∀ W u,Iv W (.slice a1 n1 cap1) is1 -> Ls W u es -> Calls Tryd.prog 11 #[.pointer none,FV id p i r s,.slice a1 n1 cap1,u,.int .i64 (n2 : Int)] W fun e w' => e = .returned (.tuple #[.int .u64 18446744073709551615,.int .i64 0]) /\ Off (fun _ => False) W w' from fun W u h k => by
     have g := fits_ls hF is1 hc (by omega) ys (by omega) (n2 : Int) _ u W h (by rw [<- hes]; exact k)
     rw [hf1] at g; exact g)
    have FF2 := Lib.hid (show ∀ W a c,Iv W (.slice a1 n1 cap1) is1 /\ Ls W (.slice a n2 c) (vs.map (fm p)) -> Calls Tryd.prog 11 #[.pointer none,FV id p i r s,.slice a1 m1 cap1,.slice a m1 c,.int .i64 (n2 : Int)] W fun e w' => e = .returned (.tuple #[.int .u64 18446744073709551615,.int .i64 0]) /\ Off (fun _ => False) W w' from fun W a c h => by
     have g := fits_ls hF (is1.take m1) (chkV_take hc m1) (by rw [List.length_take]; omega) (vs.take m1) (by rw [List.length_take,List.length_take]; omega) (n2 : Int) (.slice a1 m1 cap1) (.slice a m1 c) W (h.1.take m1 (by omega)) (by
      have h2 := h.2.take m1 (by omega)
      rw [<- List.map_take] at h2; exact h2)
     rw [hf2] at g; exact g)
    have hs2 := slice_to_int a1 n1 cap1 m1 (by omega)
    have FC := Lib.hid (show ∀ W,Iv W (.slice a1 n1 cap1) is1 -> Calls Tryd.prog 12 #[.slice a1 n1 cap1] W fun e w' => e = .returned (.int .i64 0) /\ Off (fun _ => False) W w' from fun W h => by have g := refcheck_any is1 (by omega) _ W h; rw [hc] at g; exact g)
    have HM1 := Lib.hid hm1
    obtain ⟨i0',hi,hz0,hz1,hz2'⟩ := info_parts elem_info
    have hn6 : n1 <= 6 := by omega
    clear hm1 hf1 hf2 hap hplt hpl hyl hel hps hys hes hvs hvsl hvsp hc hr hnd hmx hmn hF hid hp h1 hp0 hfer hbig hnl hnm hws hn1 hc1 w1 w2 hnl2 hnm2 hxs2 hn2 hT
    go_enter Tryd.func6,Tryd.ntmps6
    go_wp2_with fail
    refine (FC.out _ HL1.out).mono ?_
    rintro e u0' ⟨rfl,hOc⟩
    go_wp2_with fail
    refine (FG.out _ (HTw.out.off hOc)).mono ?_
    rintro e u0 ⟨rfl,hO1⟩
    obtain ⟨W1,hW1⟩ : ∃ W1,W1 = (u0.alloc (.cells #[.int .i64 id,.int .u64 (wd p 0 : Int),.int .u64 (wd p 1 : Int),.int .u64 (wd p 2 : Int),.int .u64 (wd p 3 : Int),.int .u64 (i : Int),.int .u64 (wd r 0 : Int),.int .u64 (wd r 1 : Int),.int .u64 (wd r 2 : Int),.int .u64 (wd r 3 : Int),.int .u64 (wd s 0 : Int),.int .u64 (wd s 1 : Int),.int .u64 (wd s 2 : Int),.int .u64 (wd s 3 : Int)] 31)).alloc (.cells #[.int .u64 (wd p 0 : Int),.int .u64 (wd p 1 : Int),.int .u64 (wd p 2 : Int),.int .u64 (wd p 3 : Int)] 28) := ⟨_,rfl⟩
    have o1 : Off (fun _ => False) u0 W1 := by rw [hW1]; exact ((Off.refl _ u0).alloc _).alloc _
    have g_F : W1.heap[u0.heap.size]? = some (.cells #[.int .i64 id,.int .u64 (wd p 0 : Int),.int .u64 (wd p 1 : Int),.int .u64 (wd p 2 : Int),.int .u64 (wd p 3 : Int),.int .u64 (i : Int),.int .u64 (wd r 0 : Int),.int .u64 (wd r 1 : Int),.int .u64 (wd r 2 : Int),.int .u64 (wd r 3 : Int),.int .u64 (wd s 0 : Int),.int .u64 (wd s 1 : Int),.int .u64 (wd s 2 : Int),.int .u64 (wd s 3 : Int)] 31 (0,0)) := by rw [hW1]; exact heap_old' (heap_new' rfl _) _
    have g_P : W1.heap[u0.heap.size + 1]? = some (.cells #[.int .u64 (wd p 0 : Int),.int .u64 (wd p 1 : Int),.int .u64 (wd p 2 : Int),.int .u64 (wd p 3 : Int)] 28 (0,0)) := by rw [hW1]; exact heap_new' (by simp) _
    have hOw := (hOc : Off (fun _ => False) w _).trans (hO1.trans o1 (fun _ _ c => c)) (fun _ _ c => c)
    obtain ⟨fb,hfb⟩ : ∃ fb,fb = u0.heap.size := ⟨_,rfl⟩
    obtain ⟨pb,hpb⟩ : ∃ pb,pb = u0.heap.size + 1 := ⟨_,rfl⟩
    rw [<- hfb] at g_F
    rw [<- hpb] at g_P
    have HW := Lib.hid (show ∀ W,Off (fun _ => False) W1 W -> W.heap[fb]? = some (.cells #[.int .i64 id,.int .u64 (wd p 0 : Int),.int .u64 (wd p 1 : Int),.int .u64 (wd p 2 : Int),.int .u64 (wd p 3 : Int),.int .u64 (i : Int),.int .u64 (wd r 0 : Int),.int .u64 (wd r 1 : Int),.int .u64 (wd r 2 : Int),.int .u64 (wd r 3 : Int),.int .u64 (wd s 0 : Int),.int .u64 (wd s 1 : Int),.int .u64 (wd s 2 : Int),.int .u64 (wd s 3 : Int)] 31 (0,0)) /\ W.heap[pb]? = some (.cells #[.int .u64 (wd p 0 : Int),.int .u64 (wd p 1 : Int),.int .u64 (wd p 2 : Int),.int .u64 (wd p 3 : Int)] 28 (0,0)) /\ Off (fun _ => False) w W from fun W h => ⟨h.heap g_F (fun c => c),h.heap g_P (fun c => c),hOw.trans h (fun _ _ c => c)⟩)
    have HO := Lib.hid (Off.refl (fun _ => False) W1)
    have HW1 := Lib.hid hW1
    go_upto_region 4 with fail
    rw [<- HW1.out]
    rw [<- hpb,<- hfb]
    clear g_F g_P hOw hW1 hfb hpb o1 hO1 HW1 hOc
    obtain ⟨g_F,g_P,hOw⟩ := HW.out _ HO.out
    obtain ⟨p0,p1,p2,p3⟩ := cells4 g_P
    have hlp := heap_lt g_P
    clear g_F g_P hOw
    go_wp2_with fail
    clear p0 p1 p2 p3 hlp
    refine (FV2.out _ _ (HL2.out.off (HW.out _ HO.out).2.2)).mono ?_
    rintro e u1 ⟨za,zc,ca,cc,rfl,hcc,h_z1,h_z2,hO1⟩
    have H_z1 := Lib.hid h_z1
    have H_z2 := Lib.hid h_z2
    have HO := Lib.hid (HO.out.trans hO1 (fun _ _ c => c))
    have hs1 := slice_to_el ca n2 cc m1 (by have := HM1.out; omega)
    clear h_z1 h_z2 hO1 hcc
    go_wp2
    go_loopw [11,46] (fun v ix wr => ∃ k : Nat,k <= n1 /\ ix = .int .i64 (k : Int) /\ (∃ a c,v = .slice a k c /\ wr.ownsRow u1.heap.size 29 4 v k (flat4 (es.take k))) /\ Off (fun _ => False) u1 wr) (fun _ ix _ => n1 - (intOf ix).toNat)
    case atStart => exact ⟨0,Nat.zero_le _,rfl,⟨none,0,rfl,World.ownsRow_nil _ _ _ _⟩,Off.refl _ _⟩
    case round =>
     obtain ⟨k,hk,rfl,⟨va,vc,rfl,hown⟩,hO⟩ := hrel
     by_cases hlt : k < n1
     ·obtain ⟨b,off,m,rfl,c0,hm256,hpk⟩ := HAt.out wr ((HW.out _ HO.out).2.2.trans hO (fun _ _ c => c)) k hlt
      obtain ⟨e,he⟩ : ∃ e,e = pv vs m % p := ⟨_,rfl⟩
      obtain ⟨q,hq⟩ : ∃ q,q = fm p e := ⟨_,rfl⟩
      have hek : es[k]? = some q := by rw [hq,he]; exact HEs.out k m hpk
      have HYt := Lib.hid (show flat4 (es.take k) ++ words4 q = flat4 (es.take (k + 1)) by
       obtain ⟨hlk,hxk⟩ := List.getElem?_eq_some_iff.1 hek
       rw [List.take_succ_eq_append_getElem hlk,hxk,flat4_append]; rfl)
      have HPt := Lib.hid (fun W => FPt.out m hm256 W)
      have HFm := Lib.hid (show ∀ W,Calls Tryd.prog 24 #[V p,V e] W fun e w' => e = .returned (V q) /\ Off (fun _ => False) W w' from fun W => by rw [hq]; exact FFm.out e (by rw [he]; exact HPm.out m) W)
      have HEv := Lib.hid (show ∀ W,Off (fun _ => False) u1 W -> Calls Tryd.prog 25 #[V p,.slice za n2 zc,V m] W fun e' w' => e' = .returned (V e) /\ Off (fun _ => False) W w' from fun W h => by rw [he]; exact FEv.out m hm256 W _ (H_z1.out.off h))
      have HK : Hid (∀ W',Off (fun _ => False) u1 W' -> (W'.cell? ⟨pb,0,none⟩ = some (.int .u64 (wd p 0 : Int)) /\ W'.cell? ⟨pb,1,none⟩ = some (.int .u64 (wd p 1 : Int)) /\ W'.cell? ⟨pb,2,none⟩ = some (.int .u64 (wd p 2 : Int)) /\ W'.cell? ⟨pb,3,none⟩ = some (.int .u64 (wd p 3 : Int))) /\ Off (fun _ => False) u1 W') := Lib.hid (fun W' h => ⟨cells4 (h.heap (HW.out _ HO.out).2.1 (fun c => c)),h⟩)
      have hkn : (k : Int) < (n1 : Int) := by omega
      have hwk : IntKind.i64.wrap ((k : Int) + 1) = (k : Int) + 1 := by rw [IntKind.wrap_i64]; omega
      have HOr := Lib.hid hO
      have HOn := Lib.hid hown
      clear hO hown hq he hek hpk hm256
      go_upto_region 9 with fail
      refine wp_region_inv (fun a0 l a' w' => ∃ (u50 : Value) (u51 : Value) (u52 : Value) (u53 : Value) (u54 : Value) (u55 : Value) (u56 : Value) (u57 : Value) (u58 : Value) (u59 : Value) (u11 : Value),a' = (Act.put (Act.put (Act.put (Act.put (Act.put (Act.put (Act.put (Act.put (Act.put (Act.put (Act.put a0 (some 50) u50) (some 51) u51) (some 52) u52) (some 53) u53) (some 54) u54) (some 55) u55) (some 56) u56) (some 57) u57) (some 58) u58) (some 59) u59) (some 11) u11) /\ Slot l 0 u50 (.slice va k vc) /\ Slot l 1 u51 (V p) /\ Slot l 2 u52 (V p) /\ Slot l 3 u53 (.slice za n2 zc) /\ Slot l 4 u54 (.int .i64 (m : Int)) /\ Slot l 5 u55 (V m) /\ Slot l 6 u56 (V e) /\ Slot l 7 u57 (V q) /\ LkU l 8 9 u58 w' ([q]) /\ OwT u1.heap.size 29 (.slice va k vc) k (flat4 (es.take k)) (flat4 (es.take (k + 1))) l 9 u59 w' /\ OwN u1.heap.size 29 (k + 1) (flat4 (es.take (k + 1))) l 10 9 u11 w' /\ Dep l 0 9 /\ Dep l 0 10 /\ Was l 10 u11 (.slice va k vc) /\ Off (fun _ => False) u1 w') (by kernel_rfl) (by kernel_rfl) ?_ ⟨?_,?_,?_,?_,?_,?_,?_,?_,?_,?_,?_,trivial⟩ ?_
      ·refine ⟨?z50,?z51,?z52,?z53,?z54,?z55,?z56,?z57,?z58,?z59,.slice va k vc,?fr,Slot.start _ _ _,Slot.start _ _ _,Slot.start _ _ _,Slot.start _ _ _,Slot.start _ _ _,Slot.start _ _ _,Slot.start _ _ _,Slot.start _ _ _,(fun h => by cases h),OwT.start (own_off HOn.out (Off.refl _ wr).drew),(fun h => by cases h),Dep.start _ _,Dep.start _ _,Was.start _ _,HOr.out.drew⟩
       case fr => first | (simp only [Act.put,List.setIfInBounds_toArray,List.set_cons_zero,List.set_cons_succ]; rfl) | simp only [Act.put,List.setIfInBounds_toArray,List.set_cons_zero,List.set_cons_succ]
      ·intro l a wr hI hl hd K' hK
       obtain ⟨u50,u51,u52,u53,u54,u55,u56,u57,u58,u59,u11,ha,s0,s1,s2,s3,s4,s5,s6,s7,M8,M9,M10,V0_9,V0_10,W10,hO⟩ := hI
       simp only [Act.put,List.setIfInBounds_toArray,List.set_cons_zero,List.set_cons_succ] at ha
       have qw := (W10 (V0_10 hl)).symm
       subst ha qw
       go_simp
       refine hK.out _ _ ⟨_,_,_,_,_,_,_,_,_,_,_,?_,Slot.new _ _ _,s1.keep rfl,s2.keep rfl,s3.keep rfl,s4.keep rfl,s5.keep rfl,s6.keep rfl,s7.keep rfl,M8.keep (Off.refl _ wr) rfl rfl,M9.keep (Off.refl _ wr) rfl,M10.keep (Off.refl _ wr) rfl rfl,V0_9.keep rfl,V0_10.keep rfl,W10.keep rfl,hO⟩
       simp only [Act.put,List.setIfInBounds_toArray,List.set_cons_zero,List.set_cons_succ]
      ·intro l a wr hI hl hd K' hK
       obtain ⟨u50,u51,u52,u53,u54,u55,u56,u57,u58,u59,u11,ha,s0,s1,s2,s3,s4,s5,s6,s7,M8,M9,M10,V0_9,V0_10,W10,hO⟩ := hI
       simp only [Act.put,List.setIfInBounds_toArray,List.set_cons_zero,List.set_cons_succ] at ha
       subst ha
       have hc := HK.out wr hO
       have p0 := hc.1.1
       have p1 := hc.1.2.1
       have p2 := hc.1.2.2.1
       have p3 := hc.1.2.2.2
       clear hc
       go_simp
       refine hK.out _ _ ⟨_,_,_,_,_,_,_,_,_,_,_,?_,s0.keep rfl,Slot.new _ _ _,s2.keep rfl,s3.keep rfl,s4.keep rfl,s5.keep rfl,s6.keep rfl,s7.keep rfl,M8.keep (Off.refl _ wr) rfl rfl,M9.keep (Off.refl _ wr) rfl,M10.keep (Off.refl _ wr) rfl rfl,V0_9.keep rfl,V0_10.keep rfl,W10.keep rfl,hO⟩
       simp only [Act.put,List.setIfInBounds_toArray,List.set_cons_zero,List.set_cons_succ]
      ·intro l a wr hI hl hd K' hK
       obtain ⟨u50,u51,u52,u53,u54,u55,u56,u57,u58,u59,u11,ha,s0,s1,s2,s3,s4,s5,s6,s7,M8,M9,M10,V0_9,V0_10,W10,hO⟩ := hI
       simp only [Act.put,List.setIfInBounds_toArray,List.set_cons_zero,List.set_cons_succ] at ha
       subst ha
       have hc := HK.out wr hO
       have p0 := hc.1.1
       have p1 := hc.1.2.1
       have p2 := hc.1.2.2.1
       have p3 := hc.1.2.2.2
       clear hc
       go_simp
       refine hK.out _ _ ⟨_,_,_,_,_,_,_,_,_,_,_,?_,s0.keep rfl,s1.keep rfl,Slot.new _ _ _,s3.keep rfl,s4.keep rfl,s5.keep rfl,s6.keep rfl,s7.keep rfl,M8.keep (Off.refl _ wr) rfl rfl,M9.keep (Off.refl _ wr) rfl,M10.keep (Off.refl _ wr) rfl rfl,V0_9.keep rfl,V0_10.keep rfl,W10.keep rfl,hO⟩
       simp only [Act.put,List.setIfInBounds_toArray,List.set_cons_zero,List.set_cons_succ]
      ·intro l a wr hI hl hd K' hK
       obtain ⟨u50,u51,u52,u53,u54,u55,u56,u57,u58,u59,u11,ha,s0,s1,s2,s3,s4,s5,s6,s7,M8,M9,M10,V0_9,V0_10,W10,hO⟩ := hI
       simp only [Act.put,List.setIfInBounds_toArray,List.set_cons_zero,List.set_cons_succ] at ha
       subst ha
       go_simp
       refine hK.out _ _ ⟨_,_,_,_,_,_,_,_,_,_,_,?_,s0.keep rfl,s1.keep rfl,s2.keep rfl,Slot.new _ _ _,s4.keep rfl,s5.keep rfl,s6.keep rfl,s7.keep rfl,M8.keep (Off.refl _ wr) rfl rfl,M9.keep (Off.refl _ wr) rfl,M10.keep (Off.refl _ wr) rfl rfl,V0_9.keep rfl,V0_10.keep rfl,W10.keep rfl,hO⟩
       simp only [Act.put,List.setIfInBounds_toArray,List.set_cons_zero,List.set_cons_succ]
      ·intro l a wr hI hl hd K' hK
       obtain ⟨u50,u51,u52,u53,u54,u55,u56,u57,u58,u59,u11,ha,s0,s1,s2,s3,s4,s5,s6,s7,M8,M9,M10,V0_9,V0_10,W10,hO⟩ := hI
       simp only [Act.put,List.setIfInBounds_toArray,List.set_cons_zero,List.set_cons_succ] at ha
       subst ha
       go_simp
       refine hK.out _ _ ⟨_,_,_,_,_,_,_,_,_,_,_,?_,s0.keep rfl,s1.keep rfl,s2.keep rfl,s3.keep rfl,Slot.new _ _ _,s5.keep rfl,s6.keep rfl,s7.keep rfl,M8.keep (Off.refl _ wr) rfl rfl,M9.keep (Off.refl _ wr) rfl,M10.keep (Off.refl _ wr) rfl rfl,V0_9.keep rfl,V0_10.keep rfl,W10.keep rfl,hO⟩
       simp only [Act.put,List.setIfInBounds_toArray,List.set_cons_zero,List.set_cons_succ]
      ·intro l a wr hI hl hd K' hK
       obtain ⟨u50,u51,u52,u53,u54,u55,u56,u57,u58,u59,u11,ha,s0,s1,s2,s3,s4,s5,s6,s7,M8,M9,M10,V0_9,V0_10,W10,hO⟩ := hI
       simp only [Act.put,List.setIfInBounds_toArray,List.set_cons_zero,List.set_cons_succ] at ha
       have q4 := s4 (hd 4 (by decide))
       subst ha q4
       go_simp
       refine (held_inv (HPt.out wr) hO).mono ?_
       rintro e w1 ⟨rfl,hO1,hOW⟩
       go_wp2_with fail
       refine hK.out _ _ ⟨_,_,_,_,_,_,_,_,_,_,_,?_,s0.keep rfl,s1.keep rfl,s2.keep rfl,s3.keep rfl,s4.keep rfl,Slot.new _ _ _,s6.keep rfl,s7.keep rfl,M8.keep hOW rfl rfl,M9.keep hOW rfl,M10.keep hOW rfl rfl,V0_9.keep rfl,V0_10.keep rfl,W10.keep rfl,hO1⟩
       simp only [Act.put,List.setIfInBounds_toArray,List.set_cons_zero,List.set_cons_succ]
      ·intro l a wr hI hl hd K' hK
       obtain ⟨u50,u51,u52,u53,u54,u55,u56,u57,u58,u59,u11,ha,s0,s1,s2,s3,s4,s5,s6,s7,M8,M9,M10,V0_9,V0_10,W10,hO⟩ := hI
       simp only [Act.put,List.setIfInBounds_toArray,List.set_cons_zero,List.set_cons_succ] at ha
       have q2 := s2 (hd 2 (by decide))
       have q3 := s3 (hd 3 (by decide))
       have q5 := s5 (hd 5 (by decide))
       subst ha q2 q3 q5
       go_simp
       refine (held_inv (HEv.out wr hO) hO).mono ?_
       rintro e w1 ⟨rfl,hO1,hOW⟩
       go_wp2_with fail
       refine hK.out _ _ ⟨_,_,_,_,_,_,_,_,_,_,_,?_,s0.keep rfl,s1.keep rfl,s2.keep rfl,s3.keep rfl,s4.keep rfl,s5.keep rfl,Slot.new _ _ _,s7.keep rfl,M8.keep hOW rfl rfl,M9.keep hOW rfl,M10.keep hOW rfl rfl,V0_9.keep rfl,V0_10.keep rfl,W10.keep rfl,hO1⟩
       simp only [Act.put,List.setIfInBounds_toArray,List.set_cons_zero,List.set_cons_succ]
      ·intro l a wr hI hl hd K' hK
       obtain ⟨u50,u51,u52,u53,u54,u55,u56,u57,u58,u59,u11,ha,s0,s1,s2,s3,s4,s5,s6,s7,M8,M9,M10,V0_9,V0_10,W10,hO⟩ := hI
       simp only [Act.put,List.setIfInBounds_toArray,List.set_cons_zero,List.set_cons_succ] at ha
       have q1 := s1 (hd 1 (by decide))
       have q6 := s6 (hd 6 (by decide))
       subst ha q1 q6
       go_simp
       refine (held_inv (HFm.out wr) hO).mono ?_
       rintro e w1 ⟨rfl,hO1,hOW⟩
       go_wp2_with fail
       refine hK.out _ _ ⟨_,_,_,_,_,_,_,_,_,_,_,?_,s0.keep rfl,s1.keep rfl,s2.keep rfl,s3.keep rfl,s4.keep rfl,s5.keep rfl,s6.keep rfl,Slot.new _ _ _,M8.keep hOW rfl rfl,M9.keep hOW rfl,M10.keep hOW rfl rfl,V0_9.keep rfl,V0_10.keep rfl,W10.keep rfl,hO1⟩
       simp only [Act.put,List.setIfInBounds_toArray,List.set_cons_zero,List.set_cons_succ]
      ·intro l a wr hI hl hd K' hK
       obtain ⟨u50,u51,u52,u53,u54,u55,u56,u57,u58,u59,u11,ha,s0,s1,s2,s3,s4,s5,s6,s7,M8,M9,M10,V0_9,V0_10,W10,hO⟩ := hI
       simp only [Act.put,List.setIfInBounds_toArray,List.set_cons_zero,List.set_cons_succ] at ha
       have q7 := s7 (hd 7 (by decide))
       subst ha q7
       go_simp
       refine hK.out _ _ ⟨_,_,_,_,_,_,_,_,_,_,_,?_,s0.keep rfl,s1.keep rfl,s2.keep rfl,s3.keep rfl,s4.keep rfl,s5.keep rfl,s6.keep rfl,s7.keep rfl,(fun _ _ => built_r wr q),M9.keep ((Off.refl _ wr).alloc _) rfl,M10.keep ((Off.refl _ wr).alloc _) rfl rfl,V0_9.keep rfl,V0_10.keep rfl,W10.keep rfl,hO.alloc _⟩
       simp only [Act.put,List.setIfInBounds_toArray,List.set_cons_zero,List.set_cons_succ]
      ·intro l a wr hI hl hd K' hK
       obtain ⟨u50,u51,u52,u53,u54,u55,u56,u57,u58,u59,u11,ha,s0,s1,s2,s3,s4,s5,s6,s7,M8,M9,M10,V0_9,V0_10,W10,hO⟩ := hI
       simp only [Act.put,List.setIfInBounds_toArray,List.set_cons_zero,List.set_cons_succ] at ha
       have q0 := s0 (hd 0 (by decide))
       have m8 := M8 (hd 8 (by decide))
       subst ha q0
       obtain ⟨ba,bc,rfl,hbl⟩ := (m8 hl).open
       obtain ⟨bb,bo,rfl,_,hel⟩ := hbl.get (j := 0) (x := q) rfl
       have hown := M9.1 hl
       obtain ⟨uv,w1,hrun,hown2,hgrow,_⟩ := run_append_own (P := Tryd.prog) wr u1.heap.size 34 34 29 i0' _ 4 32 Tryd.underlying34 hi hz0 hz1 hz2' rfl (by decide) (.slice va k vc) k (flat4 (es.take k)) hown ⟨bb,bo,none⟩ [q].length bc (words4 q) rfl (words4_el (by simpa using hel)) (words4_one _) (by unfold maxLen; simp; omega) (by simp; omega) hO.size
       rw [HYt.out] at hown2
       have hO1 := grown_off hO (Nat.le_refl _) hown hgrow
       refine wp_append_run _ _ 34 rfl _ _ rfl rfl hrun ?_
       refine hK.out _ _ ⟨_,_,_,_,_,_,_,_,_,_,_,?_,s0.keep rfl,s1.keep rfl,s2.keep rfl,s3.keep rfl,s4.keep rfl,s5.keep rfl,s6.keep rfl,s7.keep rfl,LkU.gone (u := .slice (some ⟨bb,bo,none⟩) [q].length bc),OwT.new hown2,M10.past hl rfl,Dep.at (hd 0 (by decide)),V0_10.keep rfl,W10.keep rfl,hO1⟩
       simp only [Act.put,List.setIfInBounds_toArray,List.set_cons_zero,List.set_cons_succ]
      ·intro l a wr hI hl hd K' hK
       obtain ⟨u50,u51,u52,u53,u54,u55,u56,u57,u58,u59,u11,ha,s0,s1,s2,s3,s4,s5,s6,s7,M8,M9,M10,V0_9,V0_10,W10,hO⟩ := hI
       simp only [Act.put,List.setIfInBounds_toArray,List.set_cons_zero,List.set_cons_succ] at ha
       have m9 := M9.2 (hd 9 (by decide))
       subst ha
       go_simp
       refine hK.out _ _ ⟨_,_,_,_,_,_,_,_,_,_,_,?_,s0.keep rfl,s1.keep rfl,s2.keep rfl,s3.keep rfl,s4.keep rfl,s5.keep rfl,s6.keep rfl,s7.keep rfl,M8.keep (Off.refl _ wr) rfl rfl,M9.keep (Off.refl _ wr) rfl,(fun _ => ⟨by rw [upd_k l (by rfl)]; exact hd 9 (by decide),m9⟩),V0_9.keep rfl,Dep.at (V0_9.via (hd 9 (by decide))),Was.gone _ _ _ _,hO⟩
       simp only [Act.put,List.setIfInBounds_toArray,List.set_cons_zero,List.set_cons_succ]
      ·intro l a wc hI hd
       obtain ⟨u50,u51,u52,u53,u54,u55,u56,u57,u58,u59,u11,ha,s0,s1,s2,s3,s4,s5,s6,s7,M8,M9,M10,V0_9,V0_10,W10,hO⟩ := hI
       simp only [Act.put,List.setIfInBounds_toArray,List.set_cons_zero,List.set_cons_succ] at ha
       have q0 := s0 (hd 0 (by decide))
       have q1 := s1 (hd 1 (by decide))
       have q2 := s2 (hd 2 (by decide))
       have q3 := s3 (hd 3 (by decide))
       have q4 := s4 (hd 4 (by decide))
       have q5 := s5 (hd 5 (by decide))
       have q6 := s6 (hd 6 (by decide))
       have q7 := s7 (hd 7 (by decide))
       have m58 := M8 (hd 8 (by decide))
       have m59 := M9.2 (hd 9 (by decide))
       have m11 := M10 (hd 10 (by decide))
       subst ha q0 q1 q2 q3 q4 q5 q6 q7
       clear hd s0 s1 s2 s3 s4 s5 s6 s7 M8 M9 M10 V0_9 V0_10 W10
       obtain ⟨_,hown⟩ := m11
       obtain ⟨g',cap',rfl⟩ := ownsRow_succ hown
       have HW1 := Lib.hid hown
       have HO5 := Lib.hid hO
       clear m58 m59 hown hO
       go_wp2
       go_roundw
       case rel => exact ⟨k + 1,by omega,by simp,⟨_,_,rfl,HW1.out⟩,HO5.out⟩
       case measure => simp [intOf] <;> omega
     ·obtain rfl : n1 = k := by omega
      have hest : es.take n1 = es := List.take_of_length_le (by rw [HEl.out]; exact Nat.le_refl _)
      rw [hest] at hown
      have h_ye := Ls.of (ls_of_own hown HEl.out.symm (by omega))
      obtain ⟨yv,hyv⟩ : ∃ v : Value,v = .slice va n1 vc := ⟨_,rfl⟩
      rw [<- hyv] at h_ye ⊢
      have HY := Lib.hid h_ye
      have HO2 := Lib.hid (HO.out.trans hO (fun _ _ c => c))
      have H_z3 := Lib.hid (H_z2.out.off hO)
      clear hown h_ye hyv hest hO
      obtain ⟨g_F,g_P,hOw⟩ := HW.out _ HO2.out
      obtain ⟨f0,f1,f2,f3,f4,f5,f6,f7,f8,f9,f10,f11,f12,f13⟩ := fv_cells g_F
      have hlf := heap_lt g_F
      clear g_F g_P hOw
      go_wp2_with fail
      clear f0 f1 f2 f3 f4 f5 f6 f7 f8 f9 f10 f11 f12 f13 hlf
      refine (FF1.out _ _ (HL1.out.off (HW.out _ HO2.out).2.2) HY.out).mono ?_
      rintro e u3 ⟨rfl,hO⟩
      have HO3 := Lib.hid (HO2.out.trans hO (fun _ _ c => c))
      have H_z4 := Lib.hid (H_z3.out.off hO)
      clear hO HO2 HY H_z3
      have HK3 : Hid (∀ W',Off (fun _ => False) u3 W' -> (W'.cell? ⟨fb,0,none⟩ = some (.int .i64 id) /\ W'.cell? ⟨fb,1,none⟩ = some (.int .u64 (wd p 0 : Int)) /\ W'.cell? ⟨fb,2,none⟩ = some (.int .u64 (wd p 1 : Int)) /\ W'.cell? ⟨fb,3,none⟩ = some (.int .u64 (wd p 2 : Int)) /\ W'.cell? ⟨fb,4,none⟩ = some (.int .u64 (wd p 3 : Int)) /\ W'.cell? ⟨fb,5,none⟩ = some (.int .u64 (i : Int)) /\ W'.cell? ⟨fb,6,none⟩ = some (.int .u64 (wd r 0 : Int)) /\ W'.cell? ⟨fb,7,none⟩ = some (.int .u64 (wd r 1 : Int)) /\ W'.cell? ⟨fb,8,none⟩ = some (.int .u64 (wd r 2 : Int)) /\ W'.cell? ⟨fb,9,none⟩ = some (.int .u64 (wd r 3 : Int)) /\ W'.cell? ⟨fb,10,none⟩ = some (.int .u64 (wd s 0 : Int)) /\ W'.cell? ⟨fb,11,none⟩ = some (.int .u64 (wd s 1 : Int)) /\ W'.cell? ⟨fb,12,none⟩ = some (.int .u64 (wd s 2 : Int)) /\ W'.cell? ⟨fb,13,none⟩ = some (.int .u64 (wd s 3 : Int))) /\ Off (fun _ => False) u3 W') := Lib.hid (fun W' h => ⟨fv_cells (h.heap (HW.out _ HO3.out).1 (fun c => c)),h⟩)
      have HY3 := Lib.hid (show ∀ W,Off (fun _ => False) u3 W -> Iv W (.slice a1 n1 cap1) is1 /\ Ls W (.slice ca n2 cc) (vs.map (fm p)) from fun W h => ⟨(HL1.out.off (HW.out _ HO3.out).2.2).off h,H_z4.out.off h⟩)
      go_upto_region 13 with fail
      refine wp_region_inv (fun a0 l a' w' => ∃ (u78 : Value) (u79 : Value) (u80 : Value) (u81 : Value) (u82 : Value) (u83 : Value) (u84 : Value) (u85 : Value) (u86 : Value) (u77 : Value) (u87 : Value) (u88 : Value) (u17 : Value) (u18 : Value),a' = (Act.put (Act.put (Act.put (Act.put (Act.put (Act.put (Act.put (Act.put (Act.put (Act.put (Act.put (Act.put (Act.put (Act.put a0 (some 78) u78) (some 79) u79) (some 80) u80) (some 81) u81) (some 82) u82) (some 83) u83) (some 84) u84) (some 85) u85) (some 86) u86) (some 77) u77) (some 87) u87) (some 88) u88) (some 17) u17) (some 18) u18) /\ Slot l 0 u78 (FV id p i r s) /\ Slot l 1 u79 (.slice a1 n1 cap1) /\ Slot l 2 u80 (.slice ca m1 cc) /\ Slot l 3 u81 (.int .i64 (m1 : Int)) /\ Slot l 4 u82 (.slice a1 m1 cap1) /\ Slot l 5 u83 (.slice ca m1 cc) /\ Slot l 6 u84 (.slice ca n2 cc) /\ Slot l 7 u85 (.int .i64 (n2 : Int)) /\ Slot l 8 u86 (.tuple #[.int .u64 18446744073709551615,.int .i64 0]) /\ Slot l 9 u77 (.tuple #[.int .u64 18446744073709551615,.int .i64 0]) /\ Slot l 10 u87 (.int .u64 18446744073709551615) /\ Slot l 11 u88 (.int .i64 0) /\ Slot l 12 u17 (.int .u64 18446744073709551615) /\ Slot l 13 u18 (.int .i64 0) /\ Off (fun _ => False) u3 w') (by kernel_rfl) (by kernel_rfl) ?_ ⟨?_,?_,?_,?_,?_,?_,?_,?_,?_,?_,?_,?_,?_,?_,trivial⟩ ?_
      ·refine ⟨?z78,?z79,?z80,?z81,?z82,?z83,?z84,?z85,?z86,?z77,?z87,?z88,?z17,?z18,?fr,Slot.start _ _ _,Slot.start _ _ _,Slot.start _ _ _,Slot.start _ _ _,Slot.start _ _ _,Slot.start _ _ _,Slot.start _ _ _,Slot.start _ _ _,Slot.start _ _ _,Slot.start _ _ _,Slot.start _ _ _,Slot.start _ _ _,Slot.start _ _ _,Slot.start _ _ _,(Off.refl _ u3).drew⟩
       case fr => first | (simp only [Act.put,List.setIfInBounds_toArray,List.set_cons_zero,List.set_cons_succ]; rfl) | simp only [Act.put,List.setIfInBounds_toArray,List.set_cons_zero,List.set_cons_succ]
      ·intro l a wr hI hl hd K' hK
       obtain ⟨u78,u79,u80,u81,u82,u83,u84,u85,u86,u77,u87,u88,u17,u18,ha,s0,s1,s2,s3,s4,s5,s6,s7,s8,s9,s10,s11,s12,s13,hO⟩ := hI
       simp only [Act.put,List.setIfInBounds_toArray,List.set_cons_zero,List.set_cons_succ] at ha
       subst ha
       have hc := HK3.out wr hO
       have p0 := hc.1.1
       have p1 := hc.1.2.1
       have p2 := hc.1.2.2.1
       have p3 := hc.1.2.2.2.1
       have p4 := hc.1.2.2.2.2.1
       have p5 := hc.1.2.2.2.2.2.1
       have p6 := hc.1.2.2.2.2.2.2.1
       have p7 := hc.1.2.2.2.2.2.2.2.1
       have p8 := hc.1.2.2.2.2.2.2.2.2.1
       have p9 := hc.1.2.2.2.2.2.2.2.2.2.1
       have p10 := hc.1.2.2.2.2.2.2.2.2.2.2.1
       have p11 := hc.1.2.2.2.2.2.2.2.2.2.2.2.1
       have p12 := hc.1.2.2.2.2.2.2.2.2.2.2.2.2.1
       have p13 := hc.1.2.2.2.2.2.2.2.2.2.2.2.2.2
       clear hc
       go_simp
       refine hK.out _ _ ⟨_,_,_,_,_,_,_,_,_,_,_,_,_,_,?_,Slot.new _ _ _,s1.keep rfl,s2.keep rfl,s3.keep rfl,s4.keep rfl,s5.keep rfl,s6.keep rfl,s7.keep rfl,s8.keep rfl,s9.keep rfl,s10.keep rfl,s11.keep rfl,s12.keep rfl,s13.keep rfl,hO⟩
       simp only [Act.put,List.setIfInBounds_toArray,List.set_cons_zero,List.set_cons_succ]
      ·intro l a wr hI hl hd K' hK
       obtain ⟨u78,u79,u80,u81,u82,u83,u84,u85,u86,u77,u87,u88,u17,u18,ha,s0,s1,s2,s3,s4,s5,s6,s7,s8,s9,s10,s11,s12,s13,hO⟩ := hI
       simp only [Act.put,List.setIfInBounds_toArray,List.set_cons_zero,List.set_cons_succ] at ha
       subst ha
       go_simp
       refine hK.out _ _ ⟨_,_,_,_,_,_,_,_,_,_,_,_,_,_,?_,s0.keep rfl,Slot.new _ _ _,s2.keep rfl,s3.keep rfl,s4.keep rfl,s5.keep rfl,s6.keep rfl,s7.keep rfl,s8.keep rfl,s9.keep rfl,s10.keep rfl,s11.keep rfl,s12.keep rfl,s13.keep rfl,hO⟩
       simp only [Act.put,List.setIfInBounds_toArray,List.set_cons_zero,List.set_cons_succ]
      ·intro l a wr hI hl hd K' hK
       obtain ⟨u78,u79,u80,u81,u82,u83,u84,u85,u86,u77,u87,u88,u17,u18,ha,s0,s1,s2,s3,s4,s5,s6,s7,s8,s9,s10,s11,s12,s13,hO⟩ := hI
       simp only [Act.put,List.setIfInBounds_toArray,List.set_cons_zero,List.set_cons_succ] at ha
       subst ha
       go_simp
       refine hK.out _ _ ⟨_,_,_,_,_,_,_,_,_,_,_,_,_,_,?_,s0.keep rfl,s1.keep rfl,Slot.new _ _ _,s3.keep rfl,s4.keep rfl,s5.keep rfl,s6.keep rfl,s7.keep rfl,s8.keep rfl,s9.keep rfl,s10.keep rfl,s11.keep rfl,s12.keep rfl,s13.keep rfl,hO⟩
       simp only [Act.put,List.setIfInBounds_toArray,List.set_cons_zero,List.set_cons_succ]
      ·intro l a wr hI hl hd K' hK
       obtain ⟨u78,u79,u80,u81,u82,u83,u84,u85,u86,u77,u87,u88,u17,u18,ha,s0,s1,s2,s3,s4,s5,s6,s7,s8,s9,s10,s11,s12,s13,hO⟩ := hI
       simp only [Act.put,List.setIfInBounds_toArray,List.set_cons_zero,List.set_cons_succ] at ha
       have q2 := s2 (hd 2 (by decide))
       subst ha q2
       go_simp
       refine hK.out _ _ ⟨_,_,_,_,_,_,_,_,_,_,_,_,_,_,?_,s0.keep rfl,s1.keep rfl,s2.keep rfl,Slot.new _ _ _,s4.keep rfl,s5.keep rfl,s6.keep rfl,s7.keep rfl,s8.keep rfl,s9.keep rfl,s10.keep rfl,s11.keep rfl,s12.keep rfl,s13.keep rfl,hO⟩
       simp only [Act.put,List.setIfInBounds_toArray,List.set_cons_zero,List.set_cons_succ]
      ·intro l a wr hI hl hd K' hK
       obtain ⟨u78,u79,u80,u81,u82,u83,u84,u85,u86,u77,u87,u88,u17,u18,ha,s0,s1,s2,s3,s4,s5,s6,s7,s8,s9,s10,s11,s12,s13,hO⟩ := hI
       simp only [Act.put,List.setIfInBounds_toArray,List.set_cons_zero,List.set_cons_succ] at ha
       have q1 := s1 (hd 1 (by decide))
       have q3 := s3 (hd 3 (by decide))
       subst ha q1 q3
       go_simp
       refine hK.out _ _ ⟨_,_,_,_,_,_,_,_,_,_,_,_,_,_,?_,s0.keep rfl,s1.keep rfl,s2.keep rfl,s3.keep rfl,Slot.new _ _ _,s5.keep rfl,s6.keep rfl,s7.keep rfl,s8.keep rfl,s9.keep rfl,s10.keep rfl,s11.keep rfl,s12.keep rfl,s13.keep rfl,hO⟩
       simp only [Act.put,List.setIfInBounds_toArray,List.set_cons_zero,List.set_cons_succ]
      ·intro l a wr hI hl hd K' hK
       obtain ⟨u78,u79,u80,u81,u82,u83,u84,u85,u86,u77,u87,u88,u17,u18,ha,s0,s1,s2,s3,s4,s5,s6,s7,s8,s9,s10,s11,s12,s13,hO⟩ := hI
       simp only [Act.put,List.setIfInBounds_toArray,List.set_cons_zero,List.set_cons_succ] at ha
       subst ha
       go_simp
       refine hK.out _ _ ⟨_,_,_,_,_,_,_,_,_,_,_,_,_,_,?_,s0.keep rfl,s1.keep rfl,s2.keep rfl,s3.keep rfl,s4.keep rfl,Slot.new _ _ _,s6.keep rfl,s7.keep rfl,s8.keep rfl,s9.keep rfl,s10.keep rfl,s11.keep rfl,s12.keep rfl,s13.keep rfl,hO⟩
       simp only [Act.put,List.setIfInBounds_toArray,List.set_cons_zero,List.set_cons_succ]
      ·intro l a wr hI hl hd K' hK
       obtain ⟨u78,u79,u80,u81,u82,u83,u84,u85,u86,u77,u87,u88,u17,u18,ha,s0,s1,s2,s3,s4,s5,s6,s7,s8,s9,s10,s11,s12,s13,hO⟩ := hI
       simp only [Act.put,List.setIfInBounds_toArray,List.set_cons_zero,List.set_cons_succ] at ha
       subst ha
       go_simp
       refine hK.out _ _ ⟨_,_,_,_,_,_,_,_,_,_,_,_,_,_,?_,s0.keep rfl,s1.keep rfl,s2.keep rfl,s3.keep rfl,s4.keep rfl,s5.keep rfl,Slot.new _ _ _,s7.keep rfl,s8.keep rfl,s9.keep rfl,s10.keep rfl,s11.keep rfl,s12.keep rfl,s13.keep rfl,hO⟩
       simp only [Act.put,List.setIfInBounds_toArray,List.set_cons_zero,List.set_cons_succ]
      ·intro l a wr hI hl hd K' hK
       obtain ⟨u78,u79,u80,u81,u82,u83,u84,u85,u86,u77,u87,u88,u17,u18,ha,s0,s1,s2,s3,s4,s5,s6,s7,s8,s9,s10,s11,s12,s13,hO⟩ := hI
       simp only [Act.put,List.setIfInBounds_toArray,List.set_cons_zero,List.set_cons_succ] at ha
       have q6 := s6 (hd 6 (by decide))
       subst ha q6
       go_simp
       refine hK.out _ _ ⟨_,_,_,_,_,_,_,_,_,_,_,_,_,_,?_,s0.keep rfl,s1.keep rfl,s2.keep rfl,s3.keep rfl,s4.keep rfl,s5.keep rfl,s6.keep rfl,Slot.new _ _ _,s8.keep rfl,s9.keep rfl,s10.keep rfl,s11.keep rfl,s12.keep rfl,s13.keep rfl,hO⟩
       simp only [Act.put,List.setIfInBounds_toArray,List.set_cons_zero,List.set_cons_succ]
      ·intro l a wr hI hl hd K' hK
       obtain ⟨u78,u79,u80,u81,u82,u83,u84,u85,u86,u77,u87,u88,u17,u18,ha,s0,s1,s2,s3,s4,s5,s6,s7,s8,s9,s10,s11,s12,s13,hO⟩ := hI
       simp only [Act.put,List.setIfInBounds_toArray,List.set_cons_zero,List.set_cons_succ] at ha
       have q0 := s0 (hd 0 (by decide))
       have q4 := s4 (hd 4 (by decide))
       have q5 := s5 (hd 5 (by decide))
       have q7 := s7 (hd 7 (by decide))
       subst ha q0 q4 q5 q7
       go_simp
       refine (held_inv (FF2.out wr ca cc (HY3.out wr hO)) hO).mono ?_
       rintro e w1 ⟨rfl,hO1,hOW⟩
       go_wp2_with fail
       refine hK.out _ _ ⟨_,_,_,_,_,_,_,_,_,_,_,_,_,_,?_,s0.keep rfl,s1.keep rfl,s2.keep rfl,s3.keep rfl,s4.keep rfl,s5.keep rfl,s6.keep rfl,s7.keep rfl,Slot.new _ _ _,s9.keep rfl,s10.keep rfl,s11.keep rfl,s12.keep rfl,s13.keep rfl,hO1⟩
       simp only [Act.put,List.setIfInBounds_toArray,List.set_cons_zero,List.set_cons_succ]
      ·intro l a wr hI hl hd K' hK
       obtain ⟨u78,u79,u80,u81,u82,u83,u84,u85,u86,u77,u87,u88,u17,u18,ha,s0,s1,s2,s3,s4,s5,s6,s7,s8,s9,s10,s11,s12,s13,hO⟩ := hI
       simp only [Act.put,List.setIfInBounds_toArray,List.set_cons_zero,List.set_cons_succ] at ha
       have q8 := s8 (hd 8 (by decide))
       subst ha q8
       go_simp
       refine hK.out _ _ ⟨_,_,_,_,_,_,_,_,_,_,_,_,_,_,?_,s0.keep rfl,s1.keep rfl,s2.keep rfl,s3.keep rfl,s4.keep rfl,s5.keep rfl,s6.keep rfl,s7.keep rfl,s8.keep rfl,Slot.new _ _ _,s10.keep rfl,s11.keep rfl,s12.keep rfl,s13.keep rfl,hO⟩
       simp only [Act.put,List.setIfInBounds_toArray,List.set_cons_zero,List.set_cons_succ]
      ·intro l a wr hI hl hd K' hK
       obtain ⟨u78,u79,u80,u81,u82,u83,u84,u85,u86,u77,u87,u88,u17,u18,ha,s0,s1,s2,s3,s4,s5,s6,s7,s8,s9,s10,s11,s12,s13,hO⟩ := hI
       simp only [Act.put,List.setIfInBounds_toArray,List.set_cons_zero,List.set_cons_succ] at ha
       have q9 := s9 (hd 9 (by decide))
       subst ha q9
       go_simp
       refine hK.out _ _ ⟨_,_,_,_,_,_,_,_,_,_,_,_,_,_,?_,s0.keep rfl,s1.keep rfl,s2.keep rfl,s3.keep rfl,s4.keep rfl,s5.keep rfl,s6.keep rfl,s7.keep rfl,s8.keep rfl,s9.keep rfl,Slot.new _ _ _,s11.keep rfl,s12.keep rfl,s13.keep rfl,hO⟩
       simp only [Act.put,List.setIfInBounds_toArray,List.set_cons_zero,List.set_cons_succ]
      ·intro l a wr hI hl hd K' hK
       obtain ⟨u78,u79,u80,u81,u82,u83,u84,u85,u86,u77,u87,u88,u17,u18,ha,s0,s1,s2,s3,s4,s5,s6,s7,s8,s9,s10,s11,s12,s13,hO⟩ := hI
       simp only [Act.put,List.setIfInBounds_toArray,List.set_cons_zero,List.set_cons_succ] at ha
       have q9 := s9 (hd 9 (by decide))
       subst ha q9
       go_simp
       refine hK.out _ _ ⟨_,_,_,_,_,_,_,_,_,_,_,_,_,_,?_,s0.keep rfl,s1.keep rfl,s2.keep rfl,s3.keep rfl,s4.keep rfl,s5.keep rfl,s6.keep rfl,s7.keep rfl,s8.keep rfl,s9.keep rfl,s10.keep rfl,Slot.new _ _ _,s12.keep rfl,s13.keep rfl,hO⟩
       simp only [Act.put,List.setIfInBounds_toArray,List.set_cons_zero,List.set_cons_succ]
      ·intro l a wr hI hl hd K' hK
       obtain ⟨u78,u79,u80,u81,u82,u83,u84,u85,u86,u77,u87,u88,u17,u18,ha,s0,s1,s2,s3,s4,s5,s6,s7,s8,s9,s10,s11,s12,s13,hO⟩ := hI
       simp only [Act.put,List.setIfInBounds_toArray,List.set_cons_zero,List.set_cons_succ] at ha
       have q10 := s10 (hd 10 (by decide))
       subst ha q10
       go_simp
       refine hK.out _ _ ⟨_,_,_,_,_,_,_,_,_,_,_,_,_,_,?_,s0.keep rfl,s1.keep rfl,s2.keep rfl,s3.keep rfl,s4.keep rfl,s5.keep rfl,s6.keep rfl,s7.keep rfl,s8.keep rfl,s9.keep rfl,s10.keep rfl,s11.keep rfl,Slot.new _ _ _,s13.keep rfl,hO⟩
       simp only [Act.put,List.setIfInBounds_toArray,List.set_cons_zero,List.set_cons_succ]
      ·intro l a wr hI hl hd K' hK
       obtain ⟨u78,u79,u80,u81,u82,u83,u84,u85,u86,u77,u87,u88,u17,u18,ha,s0,s1,s2,s3,s4,s5,s6,s7,s8,s9,s10,s11,s12,s13,hO⟩ := hI
       simp only [Act.put,List.setIfInBounds_toArray,List.set_cons_zero,List.set_cons_succ] at ha
       have q11 := s11 (hd 11 (by decide))
       subst ha q11
       go_simp
       refine hK.out _ _ ⟨_,_,_,_,_,_,_,_,_,_,_,_,_,_,?_,s0.keep rfl,s1.keep rfl,s2.keep rfl,s3.keep rfl,s4.keep rfl,s5.keep rfl,s6.keep rfl,s7.keep rfl,s8.keep rfl,s9.keep rfl,s10.keep rfl,s11.keep rfl,s12.keep rfl,Slot.new _ _ _,hO⟩
       simp only [Act.put,List.setIfInBounds_toArray,List.set_cons_zero,List.set_cons_succ]
      ·intro l a wc hI hd
       obtain ⟨u78,u79,u80,u81,u82,u83,u84,u85,u86,u77,u87,u88,u17,u18,ha,s0,s1,s2,s3,s4,s5,s6,s7,s8,s9,s10,s11,s12,s13,hO⟩ := hI
       simp only [Act.put,List.setIfInBounds_toArray,List.set_cons_zero,List.set_cons_succ] at ha
       have q0 := s0 (hd 0 (by decide))
       have q1 := s1 (hd 1 (by decide))
       have q2 := s2 (hd 2 (by decide))
       have q3 := s3 (hd 3 (by decide))
       have q4 := s4 (hd 4 (by decide))
       have q5 := s5 (hd 5 (by decide))
       have q6 := s6 (hd 6 (by decide))
       have q7 := s7 (hd 7 (by decide))
       have q8 := s8 (hd 8 (by decide))
       have q9 := s9 (hd 9 (by decide))
       have q10 := s10 (hd 10 (by decide))
       have q11 := s11 (hd 11 (by decide))
       have q12 := s12 (hd 12 (by decide))
       have q13 := s13 (hd 13 (by decide))
       subst ha q0 q1 q2 q3 q4 q5 q6 q7 q8 q9 q10 q11 q12 q13
       clear hd s0 s1 s2 s3 s4 s5 s6 s7 s8 s9 s10 s11 s12 s13
       have HO4 := Lib.hid (HO3.out.trans hO (fun _ _ c => c))
       clear hO
       go_wp2_with fail
       refine (FAL.out _ (HTw.out.off (HW.out _ HO4.out).2.2)).mono ?_
       rintro e u5 ⟨rfl,hO⟩
       have HO5 := Lib.hid (HO4.out.trans hO (fun _ _ c => c))
       clear hO
       go_wp2
       go_ret
       exact ⟨rfl,(HW.out _ HO5.out).2.2⟩
   ·obtain ⟨c,hcv⟩ : ∃ c,c = chkV is1 := ⟨_,rfl⟩
    have hcp : ¬ c = 0 := by rw [hcv]; exact hc
    have hci : decide (c ≠ 0) = true := by simp [hcp]
    have hce : (c == 0) = false := by simp [hcp]
    have FC := Lib.hid (show ∀ W,Iv W (.slice a1 n1 cap1) is1 -> Calls Tryd.prog 12 #[.slice a1 n1 cap1] W fun e w' => e = .returned (.int .i64 c) /\ Off (fun _ => False) W w' from fun W h => by rw [hcv]; exact refcheck_any is1 (by omega) _ W h)
    clear hc hcv hmx hmn hF hid hp h1 hp0 hfer hbig FG hnl hnm hws hn1 hc1 w1 w2 hnl2 hnm2 hxs2 hn2 hT
    go_enter Tryd.func6,Tryd.ntmps6
    go_wp2_with fail
    refine (FC.out _ HL1.out).mono ?_
    rintro e u0 ⟨rfl,hO⟩
    have HO := Lib.hid hO
    clear hO
    go_wp2_with fail
    refine (FAL.out _ (HTw.out.off HO.out)).mono ?_
    rintro e u1 ⟨rfl,hO⟩
    have HO1 := Lib.hid (HO.out.trans hO (fun _ _ c => c))
    clear hO
    go_wp2
    go_ret
    exact ⟨rfl,HO1.out⟩

theorem door_met (os : Os) (args : Array Value) : laidMetH Tryd.prog [("sharecore/field.fields",Rows.laid_sharecore_field_fields)] ((World.doorLaid Tryd.prog 400 os).forCall (fun _ _ => 0) ⟨#[],args,[]⟩).memory :=
 laidMetH_of_parts3 (fuel := 8) (laidMet_of_run' 8 (by kernel_rfl) (by kernel_rfl)) (by kernel_rfl) (by kernel_rfl)

set_option maxRecDepth 100000 in
theorem lifted (os : Os) (started : os.Started) (H : Type) (enc : TypeId × Value -> H) :
  ReturnsInHanded {} Tryd.checked os 6 .any (fun w args => (Rows.degreeAcceptsSpec.pre enc Tryd.prog Tryd.f6 [] false w args /\ laidMetH Tryd.prog [("sharecore/field.fields",Rows.laid_sharecore_field_fields)] w) /\ sizedMet enc Tryd.prog Tryd.f6 (OpenSpec.ofChange Rows.degreeAcceptsSpec) false w args)
   (Rows.degreeAcceptsSpec.post enc Tryd.prog Tryd.f6 false true false false) := by
 refine returnsInHanded_of_change_and (C := Tryd.checked) (X := fun w _ => laidMetH Tryd.prog [("sharecore/field.fields",Rows.laid_sharecore_field_fields)] w) (fun _ _ _ hh h => h.of_heap hh) own started (by kernel_rfl) Tryd.func6
  (ChangeSpec.witness_shaped (enc := enc) (C := Tryd.checked) (os := os) (X := fun w _ => laidMetH Tryd.prog [("sharecore/field.fields",Rows.laid_sharecore_field_fields)] w) false (World.doorLaid Tryd.prog 400 os) #[.bool false,.slice none 0 0,.slice none 0 0] 8 rfl (World.shaped_of_RefB (by kernel_rfl) (by kernel_rfl)) (by kernel_rfl) (by kernel_rfl) (by kernel_rfl) (door_met os _)) ?_
 intro W base args ds gs before hval0 hW _ _ hL _
 have hval : ∀ (j : Nat) t v,Tryd.f6.params[j]? = some t -> args[j]? = some v -> Value.okWide Tryd.prog W .any base t v := hval0
 have hW' := hW
 obtain ⟨p,q,hA0,hV,rfl,hfz,hnd⟩ := hW
 have hA : DataW.TrodAll enc Tryd.prog W 0 (fun _ => true) true Tryd.f6.params.toList args.toList ds p := hA0
 rw [Tryd.params6] at hA hval
 obtain ⟨v0,vs0,d0,ds0,p0,q0,hargs,rfl,rfl,h0,r0⟩ := trodAll_cons hA
 obtain ⟨v1,vs1,d1,ds1,p1,q1,rfl,rfl,rfl,h1,r1⟩ := trodAll_cons r0
 obtain ⟨v2,vs2,d2,ds2,p2,q2,rfl,rfl,rfl,h2,r2⟩ := trodAll_cons r1
 obtain ⟨rfl,rfl,rfl⟩ := trodAll_nil r2
 obtain rfl : args = #[v0,v1,v2] := by cases args; simp_all
 obtain ⟨rfl,rfl⟩ := trodVars_none hV
 obtain ⟨i0,rfl,rfl,rfl⟩ := open_bool Tryd.underlying4 (hval 0 4 v0 rfl rfl) h0
 have w0 := trivial
 obtain ⟨a1,n1,cap1,rfl⟩ := okWide_slice Tryd.underlying22 (hval 1 22 v1 rfl rfl)
 have k1 := h1
 have lt1 : ∀ x ∈ p1,x.block < W.heap.size := by obtain ⟨m,hm⟩ := k1; exact DataW.trod_lt m _ _ _ hm
 obtain ⟨is1,hn1,hc1,w1⟩ : ∃ xs,n1 = xs.length /\ n1 <= cap1 /\ IvAt W (.slice a1 n1 cap1) xs (fun k => k < W.heap.size) := by
  obtain ⟨fuel,hf⟩ := h1
  obtain ⟨xs,e1,e2⟩ := ints_of_trod hf
  exact ⟨xs,e1,cap_of_trod Tryd.underlying22 hf,e2⟩
 obtain ⟨a2,n2,cap2,rfl⟩ := okWide_slice Tryd.underlying23 (hval 2 23 v2 rfl rfl)
 have k2 := h2
 have lt2 : ∀ x ∈ p2,x.block < W.heap.size := by obtain ⟨m,hm⟩ := k2; exact DataW.trod_lt m _ _ _ hm
 obtain ⟨xs2,hn2,w2⟩ : ∃ xs,n2 = xs.length /\ VsAt W (.slice a2 n2 cap2) xs (fun k => k < W.heap.size) := by
  obtain ⟨fuel,hf⟩ := h2
  exact vecs_of_trod hf
 have hT := tab_of_laid hL
 clear hA0 hval0
 refine (walk i0 a1 n1 cap1 is1 a2 n2 cap2 xs2 W w0 hn1 hc1 w1 hn2 w2 hT).mono fun e W' ⟨he,hoff⟩ => ?_
 have bel : Below W.heap.size W W' := hoff.below (Nat.le_refl _) (fun _ _ c => c)
 subst he
 exact ⟨_,rfl,_,_,_,[],_,[],hW',trodAll_mk1 (shut_bool Tryd.underlying4 _),(trodAll_cons_mk (shut_bool Tryd.underlying4 _) (trodAll_cons_mk (Below.trod laidOut (by kernel_rfl) (of_decide_eq_true (by kernel_rfl)) k1 bel lt1) (trodAll_cons_mk (Below.trod laidOut (by kernel_rfl) (of_decide_eq_true (by kernel_rfl)) k2 bel lt2) trodAll_mk0))),rfl,bel.frame _,fun h => by cases h⟩

theorem over : Rows.degreeAcceptsRow.holds Tryd.pinned (OpenSpec.ofChange Rows.degreeAcceptsSpec) :=
 OpenClaim.holds_of_wide 6 Tryd.f6 rfl rfl rfl rfl rfl rfl rfl ⟨rfl,rfl,rfl,rfl,rfl⟩ rfl rfl rfl rfl rfl (by kernel_rfl) Tryd.func6 (by kernel_rfl)
  (of_decide_eq_true (by kernel_rfl)) (by unfold Func.isWrapper; first | (rw [if_pos (by decide +kernel)]; kernel_rfl) | (rw [if_neg (by decide +kernel)]; exact ⟨rfl,rfl⟩))
  (fun os started H enc _ => lifted os started H enc)

theorem proved : Rows.DegreeAcceptsCardSaid :=
 Claim7.holds_tied_plain_at .later [] [.data] true (true,"427388ff9568da068c566f01fbebe31ca7ddb5823de2019176b8fd8e2e10c0e0") false
  over (fun _ h => by cases h) (by kernel_rfl) (fun _ h => by cases h) degreeAccepts_row_tie rfl ⟨rfl,rfl⟩ (by kernel_rfl) rfl
  (fun f fn hf hfn => by
   obtain rfl : f = 6 := Option.some.inj ((show Tryd.prog.funcNamed "sharecore/sharecorelaw10.DegreeAccepts" = some 6 by kernel_rfl).symm.trans hf) |>.symm
   obtain rfl : fn = Tryd.f6 := (Option.some.inj (Tryd.func6.symm.trans hfn)).symm
   exact ⟨by kernel_rfl,fun j t ht => by
    rw [Tryd.params6] at ht
    have hm : t ∈ [4,22,23] := by simpa using Array.mem_of_getElem? ht
    have hall : ([4,22,23].all fun u => !Tryd.prog.wantsStandIn u) = true := by kernel_rfl
    exact (show Tryd.prog.wantsStandIn t = false by simpa using List.all_eq_true.1 hall t hm)⟩)
  (by kernel_rfl)
#print axioms proved
end Go.Proofs.YtggebccgiigboaaDoor.degreeAccepts
-- squeezed
