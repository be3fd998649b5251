/-
  For every field, list of numbers and number, the examples of the chapter hold, and with two to five correct points the values of the constant polynomial 1, one of them changed, fit with fewer coefficients than points exactly if the change is 0: the statement of P10.4. No condition.
-/
import Derived.Test.YtggebccgiigboaaDoorRows
import Derived.Test.YtggebccgiigboaaDoorTie
import Derived.Test.YtggebccgiigboaaDoorCards
import Derived.LaidMore
import Derived.LaidHandle
import Derived.SevenTiedAt
import Derived.Stop.Joined
import Derived.JoinedOf
import Derived.Test.YtggebccgiigboaaDoorLimbWords
import Derived.Test.YtggebccgiigboaaDoorIntAll
import Derived.Test.YtggebccgiigboaaDoorVecOpen
import Derived.Test.YtggebccgiigboaaDoorFieldTab
import Derived.Test.YtggebccgiigboaaDoorFieldHeld
import Derived.Test.YtggebccgiigboaaDoorDegAlive
import Derived.Test.YtggebccgiigboaaDoorRepeat
import Derived.Test.YtggebccgiigboaaDoorPolLists
import Derived.Test.YtggebccgiigboaaDoorInvAll
import Derived.Test.YtggebccgiigboaaDoorMaskBase
import Derived.WalkKit
import Derived.ProofKit
import Derived.OpenShut
import Derived.ShutString
import Derived.ChangeOld
import Derived.Below
namespace Go.Proofs.YtggebccgiigboaaDoor.degreeRejects
open Go.ChangeShapes Go.WideShapes Go.ChangeAt Go.RowKit
set_option linter.unusedVariables false

theorem own : ownKnob Tryd.prog.godebug = none := by kernel_rfl
theorem laidOut : laidOutB Tryd.prog = true := by kernel_rfl

theorem mods_lt {p : Nat} (h : 0 < p) (xs : List Nat) : ∀ v ∈ xs.map (· % p),v < p := by
 intro v hv
 obtain ⟨x,_,rfl⟩ := List.mem_map.1 hv
 exact Nat.mod_lt _ h
theorem two_cells {w : World} {b : Nat} {T : TypeId} {v0 v1 : Value} (h : w.heap[b]? = some (.cells #[v0,v1] T (0,0))) : w.cell? ⟨b,0,none⟩ = some v0 /\ w.cell? ⟨b,1,none⟩ = some v1 := ⟨cell_of_heap h 0,cell_of_heap h 1⟩
theorem own_cap {w : World} {B n cap size : Nat} {T : TypeId} {a : Option Addr} {xs : List Value} (h : w.ownsRow B T size (.slice a n cap) n xs) : n <= cap := by
 rcases h.2 with ⟨e,h0⟩ | ⟨g,c,cur,e,_,_,hc,_⟩
 ·omega
 ·cases e; exact hc
theorem ret_int {a b : Int} (k : IntKind) (h : a = b) : Ending.returned (.int k a) = .returned (.int k b) := by rw [h]
theorem one_ls (w : World) (x : Nat) : Ls (w.alloc (.cells #[.int .u64 (wd x 0 : Int),.int .u64 (wd x 1 : Int),.int .u64 (wd x 2 : Int),.int .u64 (wd x 3 : Int)] 29 (0,0))) (.slice (some ⟨w.heap.size,0,none⟩) 1 1) [x] := ls_build w [x] (by simp) 29
theorem eql_zero {a : Nat} (ha : a < R256) (w : World) : (binOp .eql 28 (V a) (.agg #[.int .u64 0,.int .u64 0,.int .u64 0,.int .u64 0])).run Tryd.prog w = .ok (.bool (zeroN a)) w := by
 have h := eql_num ha (show 0 < R256 by decide) w
 rw [lit_small 0 (by decide)] at h
 exact h
set_option maxRecDepth 100000 in
set_option maxHeartbeats 4000000 in
theorem walk (i0 : Bool) (a1 : Option Addr) (n1 cap1 : Nat) (is1 : List Int) (n2 : Nat) (w : World) (w0 : True) (hn1 : n1 = is1.length) (w1 : IvAt w (.slice a1 n1 cap1) is1 (fun k => k < w.heap.size)) (w2 : n2 < R256) (hT : TabAt w) :
  Calls Tryd.prog 7 #[.bool i0,.slice a1 n1 cap1,V n2] w fun e w' => e = .returned (.bool true) /\ Off (fun _ => False) w w' := by
 obtain ⟨id,p,i,r,s,hF,hid⟩ := fld_of i0
 have hp := hF.mp.lt
 have h1 := hF.mp.one
 have hp0 : 0 < p := by omega
 obtain ⟨_,hfer,_,hbig⟩ := fld_full hF
 have FG := Lib.hid (fun W hT => get10_any i0 hF hid W hT)
 have FAL : Hid (∀ W,TabAt W -> Calls Tryd.prog 8 #[] W fun e w' => e = .returned (.bool true) /\ Off (fun _ => False) W w') := Lib.hid (fun W hT => alive10_any W hT)
 obtain ⟨hnl,hnm,hws⟩ := w1.len
 have HL1 := Lib.hid (Iv.of w1)
 have HTw := Lib.hid hT
 by_cases hmx : 5 < n1
 ·have hbi : decide ((5 : Int) < (n1 : Int)) = true := by simp; omega
  have hbp : (5 : Int) < (n1 : Int) := by omega
  clear hF hid hp h1 hp0 hfer hbig FG hnl hnm hws hn1 w1 w2 hmx
  go_enter Tryd.func7,Tryd.ntmps7
  go_wp2_with fail
  refine (FAL.out _ (hT.off (((Off.refl _ w).alloc _)))).mono ?_
  rintro e u0 ⟨rfl,hO⟩
  have HO := Lib.hid ((((Off.refl _ w).alloc _) : Off (fun _ => False) w _).trans hO (fun _ _ c => c))
  clear hO
  go_wp2
  go_ret
  exact ⟨rfl,HO.out⟩
 ·have hbi : decide ((5 : Int) < (n1 : Int)) = false := by simp; omega
  have hbp : ¬ (5 : Int) < (n1 : Int) := by omega
  by_cases hmn : n1 < 2
  ·have hbi2 : decide ((n1 : Int) < 2) = true := by simp; omega
   have hbp2 : (n1 : Int) < 2 := by omega
   clear hF hid hp h1 hp0 hfer hbig FG hnl hnm hws hn1 w1 w2 hmx hmn
   go_enter Tryd.func7,Tryd.ntmps7
   go_wp2_with fail
   refine (FAL.out _ (hT.off (((Off.refl _ w).alloc _)))).mono ?_
   rintro e u0 ⟨rfl,hO⟩
   have HO := Lib.hid ((((Off.refl _ w).alloc _) : Off (fun _ => False) w _).trans hO (fun _ _ c => c))
   clear hO
   go_wp2
   go_ret
   exact ⟨rfl,HO.out⟩
  ·have hbi2 : decide ((n1 : Int) < 2) = false := by simp; omega
   have hbp2 : ¬ (n1 : Int) < 2 := by omega
   by_cases hc : chkV is1 = 0
   ·obtain ⟨hr,hnd⟩ := chkV_zero hc
    obtain ⟨d,hd⟩ : ∃ d,d = n2 % p := ⟨_,rfl⟩
    have hdp : d < p := by rw [hd]; exact Nat.mod_lt _ hp0
    obtain ⟨k,hk⟩ : ∃ k,k = wd n2 0 % n1 := ⟨_,rfl⟩
    have hkn : k < n1 := by rw [hk]; exact Nat.mod_lt _ (by omega)
    obtain ⟨g,hg⟩ : ∃ g,g = (1 + d) % p := ⟨_,rfl⟩
    obtain ⟨z,hz⟩ : ∃ z,z = fm p g := ⟨_,rfl⟩
    obtain ⟨M,hM⟩ : ∃ M,M = Go.Proofs.YtggebccgiigboaaDoor.mk (zeroN d) := ⟨_,rfl⟩
    obtain ⟨ys,hys⟩ : ∃ l,l = (List.replicate n1 1).set k g := ⟨_,rfl⟩
    have hr1 : r = fm p 1 := by rw [fm_one]; exact hF.rr
    have hset : (List.replicate n1 r).set k z = ys.map (fm p) := by rw [hys,List.map_set,List.map_replicate,hz,hr1]
    have hyl : ys.length = is1.length := by rw [hys,List.length_set,List.length_replicate]; exact hnl
    have hMf : fitM p is1 ys ((n1 - 1 : Nat) : Int) = M := by
     unfold fitM
     have h := low_changed h1 hfer (ptV is1) (ptV_lt hbig hr) (ints_apart hbig hc) (by rw [ptV_length]; omega) (i := k) (by rw [ptV_length]; omega) hdp ys (fun j hj => by
      rw [ptV_length] at hj
      rw [hys,getD_set _ _ _ _ (by rw [List.length_replicate]; exact hkn)]
      by_cases e : j = k
      ·rw [if_pos e,if_pos e,hg,Nat.mod_mod]
      ·rw [if_neg e,if_neg e,List.getD_eq_getElem?_getD,List.getElem?_replicate,if_pos (by omega)]; rfl)
     rw [ptV_length,<- hnl] at h
     rw [show (((n1 - 1 : Nat) : Int)).toNat = n1 - 1 by omega,h,hM]; rfl
    have FC := Lib.hid (show ∀ W,Iv W (.slice a1 n1 cap1) is1 -> Calls Tryd.prog 12 #[.slice a1 n1 cap1] W fun e w' => e = .returned (.int .i64 0) /\ Off (fun _ => False) W w' from fun W h => by have g := refcheck_any is1 (by omega) _ W h; rw [hc] at g; exact g)
    have FMo := Lib.hid (show ∀ W,Calls Tryd.prog 27 #[V p,V n2] W fun e w' => e = .returned (V d) /\ Off (fun _ => False) W w' from fun W => by rw [hd]; exact mod_mod p n2 hp (by omega) w2 W)
    have FRp := Lib.hid (show ∀ W v,Ls W v [r] -> Calls Tryd.prog 17 #[v,.int .i64 (n1 : Int)] W fun e w' => ∃ b,e = .returned (.slice (some ⟨b,0,none⟩) n1 n1) /\ W.heap.size <= b /\ NumsAt w' b 29 (List.replicate n1 r) /\ Off (fun _ => False) W w' from fun W v h => repeat_any r n1 (by omega) v W h)
    have FAd := Lib.hid (show ∀ W,Calls Tryd.prog 28 #[V p,.agg #[.int .u64 1,.int .u64 0,.int .u64 0,.int .u64 0],V d] W fun e w' => e = .returned (V g) /\ Off (fun _ => False) W w' from fun W => by
     have q := mod_add p 1 d hp h1 hdp W
     rw [lit_small 1 (by decide),<- hg] at q; exact q)
    have FFo := Lib.hid (show ∀ W,Calls Tryd.prog 24 #[V p,V g] W fun e w' => e = .returned (V z) /\ Off (fun _ => False) W w' from fun W => by rw [hz]; exact form_any p g hp h1 (by rw [hg]; exact Nat.lt_trans (Nat.mod_lt _ hp0) hp) W)
    have FF := Lib.hid (show ∀ W b,Iv W (.slice a1 n1 cap1) is1 -> NumsAt W b 29 ((List.replicate n1 r).set k z) -> Calls Tryd.prog 11 #[.pointer none,FV id p i r s,.slice a1 n1 cap1,.slice (some ⟨b,0,none⟩) n1 n1,.int .i64 ((n1 - 1 : Nat) : Int)] W fun e w' => e = .returned (.tuple #[.int .u64 M,.int .i64 0]) /\ Off (fun _ => False) W w' from fun W b h k => by
     rw [hset] at k
     have hl := Ls.of_all (cap := n1) k (by rw [List.length_map]; omega)
     rw [List.length_map,hyl,<- hnl] at hl
     rw [<- hMf]; exact fits_ls hF is1 hc (by omega) ys hyl _ _ _ W h hl)
    have FMk := Lib.hid (show ∀ W,Calls Tryd.prog 13 #[.bool (zeroN d)] W fun e w' => e = .returned (.int .u64 M) /\ W = w' from fun W => by rw [hM]; exact refmask_any _ W)
    have e2 : ∀ W,(binOp .eql 28 (.agg #[.int .u64 (wd d 0 : Int),.int .u64 (wd d 1 : Int),.int .u64 (wd d 2 : Int),.int .u64 (wd d 3 : Int)]) (.agg #[.int .u64 0,.int .u64 0,.int .u64 0,.int .u64 0])).run Tryd.prog W = .ok (.bool (zeroN d)) W := fun W => eql_zero (Nat.lt_trans hdp hp) W
    have HKk := Lib.hid hk
    have HKn := Lib.hid hkn
    have hn2 : 2 <= n1 := by omega
    clear hc hr hnd hd hdp hk hkn hg hz hM hys hr1 hset hyl hMf hmx hmn hF hid hp h1 hp0 hfer hbig hnl hnm hws hn1 w1 w2 hT
    go_enter Tryd.func7,Tryd.ntmps7
    go_wp2_with fail
    refine (FC.out _ (HL1.out.off ((Off.refl _ w).alloc _))).mono ?_
    rintro e u0 ⟨rfl,hO⟩
    have k_X : u0.heap[w.heap.size]? = some (.cells #[.int .u64 (wd n2 0 : Int),.int .u64 (wd n2 1 : Int),.int .u64 (wd n2 2 : Int),.int .u64 (wd n2 3 : Int)] 28 (0,0)) := hO.heap (heap_new' rfl _) (fun c => c)
    have hOu := ((Off.refl _ w).alloc _ : Off (fun _ => False) w _).trans hO (fun _ _ c => c)
    obtain ⟨xb,hxb⟩ : ∃ xb,xb = w.heap.size := ⟨_,rfl⟩
    rw [<- hxb] at k_X ⊢
    clear hO hxb
    go_wp2_with fail
    refine (FG.out _ (HTw.out.off hOu)).mono ?_
    rintro e u1 ⟨rfl,hO1⟩
    obtain ⟨W1,hW1⟩ : ∃ W1,W1 = (u1.alloc (.cells #[.int .i64 id,.int .u64 (wd p 0 : Int),.int .u64 (wd p 1 : Int),.int .u64 (wd p 2 : Int),.int .u64 (wd p 3 : Int),.int .u64 (i : Int),.int .u64 (wd r 0 : Int),.int .u64 (wd r 1 : Int),.int .u64 (wd r 2 : Int),.int .u64 (wd r 3 : Int),.int .u64 (wd s 0 : Int),.int .u64 (wd s 1 : Int),.int .u64 (wd s 2 : Int),.int .u64 (wd s 3 : Int)] 31)).alloc (.cells #[.int .u64 (wd p 0 : Int),.int .u64 (wd p 1 : Int),.int .u64 (wd p 2 : Int),.int .u64 (wd p 3 : Int)] 28) := ⟨_,rfl⟩
    have o1 : Off (fun _ => False) u1 W1 := by rw [hW1]; exact ((Off.refl _ u1).alloc _).alloc _
    have g_F : W1.heap[u1.heap.size]? = some (.cells #[.int .i64 id,.int .u64 (wd p 0 : Int),.int .u64 (wd p 1 : Int),.int .u64 (wd p 2 : Int),.int .u64 (wd p 3 : Int),.int .u64 (i : Int),.int .u64 (wd r 0 : Int),.int .u64 (wd r 1 : Int),.int .u64 (wd r 2 : Int),.int .u64 (wd r 3 : Int),.int .u64 (wd s 0 : Int),.int .u64 (wd s 1 : Int),.int .u64 (wd s 2 : Int),.int .u64 (wd s 3 : Int)] 31 (0,0)) := by rw [hW1]; exact heap_old' (heap_new' rfl _) _
    have g_P : W1.heap[u1.heap.size + 1]? = some (.cells #[.int .u64 (wd p 0 : Int),.int .u64 (wd p 1 : Int),.int .u64 (wd p 2 : Int),.int .u64 (wd p 3 : Int)] 28 (0,0)) := by rw [hW1]; exact heap_new' (by simp) _
    have g_X := o1.heap (hO1.heap k_X (fun c => c)) (fun c => c)
    have hOw := hOu.trans (hO1.trans o1 (fun _ _ c => c)) (fun _ _ c => c)
    obtain ⟨fb,hfb⟩ : ∃ fb,fb = u1.heap.size := ⟨_,rfl⟩
    obtain ⟨pb,hpb⟩ : ∃ pb,pb = u1.heap.size + 1 := ⟨_,rfl⟩
    rw [<- hfb] at g_F
    rw [<- hpb] at g_P
    have HW := Lib.hid (show ∀ W,Off (fun _ => False) W1 W -> W.heap[fb]? = some (.cells #[.int .i64 id,.int .u64 (wd p 0 : Int),.int .u64 (wd p 1 : Int),.int .u64 (wd p 2 : Int),.int .u64 (wd p 3 : Int),.int .u64 (i : Int),.int .u64 (wd r 0 : Int),.int .u64 (wd r 1 : Int),.int .u64 (wd r 2 : Int),.int .u64 (wd r 3 : Int),.int .u64 (wd s 0 : Int),.int .u64 (wd s 1 : Int),.int .u64 (wd s 2 : Int),.int .u64 (wd s 3 : Int)] 31 (0,0)) /\ W.heap[pb]? = some (.cells #[.int .u64 (wd p 0 : Int),.int .u64 (wd p 1 : Int),.int .u64 (wd p 2 : Int),.int .u64 (wd p 3 : Int)] 28 (0,0)) /\ W.heap[xb]? = some (.cells #[.int .u64 (wd n2 0 : Int),.int .u64 (wd n2 1 : Int),.int .u64 (wd n2 2 : Int),.int .u64 (wd n2 3 : Int)] 28 (0,0)) /\ Off (fun _ => False) w W from fun W h => ⟨h.heap g_F (fun c => c),h.heap g_P (fun c => c),h.heap g_X (fun c => c),hOw.trans h (fun _ _ c => c)⟩)
    have HW1 := Lib.hid hW1
    go_upto_region 4 with fail
    rw [<- HW1.out]
    rw [<- hpb,<- hfb]
    clear g_F g_P g_X hOw hW1 hfb hpb o1 hO1 HW1 hOu k_X
    obtain ⟨g_F,g_P,g_X,hOw⟩ := HW.out _ (Off.refl _ W1)
    obtain ⟨p0,p1,p2,p3⟩ := cells4 g_P
    obtain ⟨x0,x1,x2,x3⟩ := cells4 g_X
    have hlp := heap_lt g_P
    have hlx := heap_lt g_X
    clear g_F g_P g_X hOw
    go_wp2_with fail
    clear p0 p1 p2 p3 x0 x1 x2 x3 hlp hlx
    refine (FMo.out _).mono ?_
    rintro e u2 ⟨rfl,hO2⟩
    obtain ⟨W2,hW2⟩ : ∃ W2,W2 = u2.alloc (.cells #[.int .u64 (wd d 0 : Int),.int .u64 (wd d 1 : Int),.int .u64 (wd d 2 : Int),.int .u64 (wd d 3 : Int)] 28) := ⟨_,rfl⟩
    obtain ⟨db,hdb⟩ : ∃ db,db = u2.heap.size := ⟨_,rfl⟩
    have g_D : W2.heap[db]? = some (.cells #[.int .u64 (wd d 0 : Int),.int .u64 (wd d 1 : Int),.int .u64 (wd d 2 : Int),.int .u64 (wd d 3 : Int)] 28 (0,0)) := by rw [hW2,hdb]; exact heap_new' rfl _
    have HD := Lib.hid g_D
    have HO := Lib.hid (hO2.trans (show Off (fun _ => False) u2 W2 by rw [hW2]; exact (Off.refl _ u2).alloc _) (fun _ _ c => c))
    have HW2 := Lib.hid hW2
    have Hdb := Lib.hid hdb
    clear hW2 hdb g_D hO2
    go_upto_region 5 with fail
    rw [<- HW2.out,<- Hdb.out]
    clear HW2 Hdb
    obtain ⟨g_F,g_P,g_X,hOw⟩ := HW.out _ HO.out
    obtain ⟨f0,f1,f2,f3,f4,f5,f6,f7,f8,f9,f10,f11,f12,f13⟩ := fv_cells g_F
    have hlf := heap_lt g_F
    clear g_F g_P g_X hOw
    go_wp2_with fail
    clear f0 f1 f2 f3 f4 f5 f6 f7 f8 f9 f10 f11 f12 f13 hlf
    refine (FRp.out _ _ (one_ls W2 r)).mono ?_
    rintro e u3 ⟨b,rfl,hb,hN,hO3⟩
    have hO23 : Off (fun _ => False) W2 u3 := ((Off.refl _ W2).alloc _).trans hO3 (fun _ _ c => c)
    have hO13 := HO.out.trans hO23 (fun _ _ c => c)
    obtain ⟨g_F,g_P,g_X,hOw⟩ := HW.out _ hO13
    have hbw : w.heap.size <= b /\ fb < b /\ pb < b /\ xb < b /\ db < b /\ W1.heap.size <= b := by
     have h3 := HO.out.size
     have h1 : (W2.alloc (.cells #[.int .u64 (wd r 0 : Int),.int .u64 (wd r 1 : Int),.int .u64 (wd r 2 : Int),.int .u64 (wd r 3 : Int)] 29)).heap.size = W2.heap.size + 1 := by simp
     have h2 := heap_lt HD.out
     obtain ⟨q1,q2,q3,q4⟩ := HW.out _ HO.out
     have := heap_lt q1; have := heap_lt q2; have := heap_lt q3; have := q4.size
     omega
    obtain ⟨x0,x1,x2,x3⟩ := cells4 g_X
    have hlx := heap_lt g_X
    have HN := Lib.hid hN
    have HBw := Lib.hid hbw
    have HO13 := Lib.hid hO13
    have HD3 := Lib.hid (hO23.heap HD.out (fun c => c))
    have hcv : IntKind.u64.wrap (n1 : Int) = (n1 : Int) := by rw [IntKind.wrap_u64]; omega
    clear hb hN hO3 hO23 hO13 hbw g_F g_P g_X hOw HD HO
    go_upto_region 7 with fail
    rw [show RowKit.wrap64 ((wd n2 0 : Int) % (n1 : Int)) = (k : Int) from by
     rw [show ((wd n2 0 : Int) % (n1 : Int)) = (k : Int) by rw [HKk.out]; simp]
     exact IntWalk.wrap64_in _ (by have := HKn.out; omega)]
    have hki : (k : Int) < (n1 : Int) := by have := HKn.out; omega
    clear x0 x1 x2 x3 hlx hcv
    have HK : Hid (∀ B,Off (fun j => j = b) u3 B -> (B.cell? ⟨pb,0,none⟩ = some (.int .u64 (wd p 0 : Int)) /\ B.cell? ⟨pb,1,none⟩ = some (.int .u64 (wd p 1 : Int)) /\ B.cell? ⟨pb,2,none⟩ = some (.int .u64 (wd p 2 : Int)) /\ B.cell? ⟨pb,3,none⟩ = some (.int .u64 (wd p 3 : Int))) /\ (B.cell? ⟨db,0,none⟩ = some (.int .u64 (wd d 0 : Int)) /\ B.cell? ⟨db,1,none⟩ = some (.int .u64 (wd d 1 : Int)) /\ B.cell? ⟨db,2,none⟩ = some (.int .u64 (wd d 2 : Int)) /\ B.cell? ⟨db,3,none⟩ = some (.int .u64 (wd d 3 : Int))) /\ Off (fun j => j = b) u3 B) := Lib.hid (fun B h => by
     have hq := HBw.out
     obtain ⟨g_F,g_P,g_X,hOw⟩ := HW.out _ HO13.out
     exact ⟨cells4 (h.heap g_P (by omega)),cells4 (h.heap HD3.out (by omega)),h⟩)
    have HOk := Lib.hid (show (List.replicate n1 r)[k]? = some r by rw [List.getElem?_replicate,if_pos HKn.out])
    have HAr := Lib.hid (show u3.heap[b]? = some (.cells (flat4 (List.replicate n1 r)).toArray 29) from HN.out)
    have HPt := Lib.hid (show ∀ W : World,W.heap[b]? = some (.cells (flat4 (List.replicate n1 r)).toArray 29) -> (W.setCells b (k * 4) (words4 z)).heap[b]? = some (.cells (flat4 ((List.replicate n1 r).set k z)).toArray 29) from fun W h => NumsAt.store (T := 29) h (by rw [List.length_replicate]; exact HKn.out) z)
    refine wp_region_inv (fun a0 l a' w' => ∃ (u49 : Value) (u50 : Value) (u51 : Value) (u52 : Value) (u53 : Value) (u54 : Value) (u55 : Value) (u56 : Value) (u57 : Value),a' = (Act.put (Act.put (Act.put (Act.put (Act.put (Act.put (Act.put (Act.put (Act.put a0 (some 49) u49) (some 50) u50) (some 51) u51) (some 52) u52) (some 53) u53) (some 54) u54) (some 55) u55) (some 56) u56) (some 57) u57) /\ Slot l 0 u49 (.slice (some ⟨b,0,none⟩) n1 n1) /\ Slot l 1 u50 (.int .i64 (k : Int)) /\ Slot l 2 u51 (V p) /\ Slot l 3 u52 (V p) /\ Slot l 4 u53 (.agg #[.int .u64 1,.int .u64 0,.int .u64 0,.int .u64 0]) /\ Slot l 5 u54 (V d) /\ Slot l 6 u55 (V g) /\ Slot l 7 u56 (V z) /\ Slot l 8 u57 (.pointer (some ⟨b,k * 4,none⟩)) /\ Old l 9 b u3 w' (.cells (flat4 (List.replicate n1 r)).toArray 29) (.cells (flat4 ((List.replicate n1 r).set k z)).toArray 29) /\ Off (fun k => k = b) u3 w') (by kernel_rfl) (by kernel_rfl) ?_ ⟨?_,?_,?_,?_,?_,?_,?_,?_,?_,?_,trivial⟩ ?_
    ·refine ⟨?z49,?z50,?z51,?z52,?z53,?z54,?z55,?z56,?z57,?fr,Slot.start _ _ _,Slot.start _ _ _,Slot.start _ _ _,Slot.start _ _ _,Slot.start _ _ _,Slot.start _ _ _,Slot.start _ _ _,Slot.start _ _ _,Slot.start _ _ _,Old.start HAr.out _ _,(Off.refl _ u3).drew⟩
     case fr => first | (simp only [Act.put,List.setIfInBounds_toArray,List.set_cons_zero,List.set_cons_succ]; rfl) | simp only [Act.put,List.setIfInBounds_toArray,List.set_cons_zero,List.set_cons_succ]
    ·intro l a wr hI hl hd K' hK
     obtain ⟨u49,u50,u51,u52,u53,u54,u55,u56,u57,ha,s0,s1,s2,s3,s4,s5,s6,s7,s8,O0,hO⟩ := hI
     simp only [Act.put,List.setIfInBounds_toArray,List.set_cons_zero,List.set_cons_succ] at ha
     subst ha
     go_simp
     refine hK.out _ _ ⟨_,_,_,_,_,_,_,_,_,?_,Slot.new _ _ _,s1.keep rfl,s2.keep rfl,s3.keep rfl,s4.keep rfl,s5.keep rfl,s6.keep rfl,s7.keep rfl,s8.keep rfl,O0.keep (Off.refl _ wr) rfl,hO⟩
     simp only [Act.put,List.setIfInBounds_toArray,List.set_cons_zero,List.set_cons_succ]
    ·intro l a wr hI hl hd K' hK
     obtain ⟨u49,u50,u51,u52,u53,u54,u55,u56,u57,ha,s0,s1,s2,s3,s4,s5,s6,s7,s8,O0,hO⟩ := hI
     simp only [Act.put,List.setIfInBounds_toArray,List.set_cons_zero,List.set_cons_succ] at ha
     subst ha
     go_simp
     refine hK.out _ _ ⟨_,_,_,_,_,_,_,_,_,?_,s0.keep rfl,Slot.new _ _ _,s2.keep rfl,s3.keep rfl,s4.keep rfl,s5.keep rfl,s6.keep rfl,s7.keep rfl,s8.keep rfl,O0.keep (Off.refl _ wr) rfl,hO⟩
     simp only [Act.put,List.setIfInBounds_toArray,List.set_cons_zero,List.set_cons_succ]
    ·intro l a wr hI hl hd K' hK
     obtain ⟨u49,u50,u51,u52,u53,u54,u55,u56,u57,ha,s0,s1,s2,s3,s4,s5,s6,s7,s8,O0,hO⟩ := hI
     simp only [Act.put,List.setIfInBounds_toArray,List.set_cons_zero,List.set_cons_succ] at ha
     subst ha
     have hc := HK.out wr hO
     have p0 := hc.1.1
     have p1 := hc.1.2.1
     have p2 := hc.1.2.2.1
     have p3 := hc.1.2.2.2
     clear hc
     go_simp
     refine hK.out _ _ ⟨_,_,_,_,_,_,_,_,_,?_,s0.keep rfl,s1.keep rfl,Slot.new _ _ _,s3.keep rfl,s4.keep rfl,s5.keep rfl,s6.keep rfl,s7.keep rfl,s8.keep rfl,O0.keep (Off.refl _ wr) rfl,hO⟩
     simp only [Act.put,List.setIfInBounds_toArray,List.set_cons_zero,List.set_cons_succ]
    ·intro l a wr hI hl hd K' hK
     obtain ⟨u49,u50,u51,u52,u53,u54,u55,u56,u57,ha,s0,s1,s2,s3,s4,s5,s6,s7,s8,O0,hO⟩ := hI
     simp only [Act.put,List.setIfInBounds_toArray,List.set_cons_zero,List.set_cons_succ] at ha
     subst ha
     have hc := HK.out wr hO
     have p0 := hc.1.1
     have p1 := hc.1.2.1
     have p2 := hc.1.2.2.1
     have p3 := hc.1.2.2.2
     clear hc
     go_simp
     refine hK.out _ _ ⟨_,_,_,_,_,_,_,_,_,?_,s0.keep rfl,s1.keep rfl,s2.keep rfl,Slot.new _ _ _,s4.keep rfl,s5.keep rfl,s6.keep rfl,s7.keep rfl,s8.keep rfl,O0.keep (Off.refl _ wr) rfl,hO⟩
     simp only [Act.put,List.setIfInBounds_toArray,List.set_cons_zero,List.set_cons_succ]
    ·intro l a wr hI hl hd K' hK
     obtain ⟨u49,u50,u51,u52,u53,u54,u55,u56,u57,ha,s0,s1,s2,s3,s4,s5,s6,s7,s8,O0,hO⟩ := hI
     simp only [Act.put,List.setIfInBounds_toArray,List.set_cons_zero,List.set_cons_succ] at ha
     subst ha
     go_simp
     refine hK.out _ _ ⟨_,_,_,_,_,_,_,_,_,?_,s0.keep rfl,s1.keep rfl,s2.keep rfl,s3.keep rfl,Slot.new _ _ _,s5.keep rfl,s6.keep rfl,s7.keep rfl,s8.keep rfl,O0.keep (Off.refl _ wr) rfl,hO⟩
     simp only [Act.put,List.setIfInBounds_toArray,List.set_cons_zero,List.set_cons_succ]
    ·intro l a wr hI hl hd K' hK
     obtain ⟨u49,u50,u51,u52,u53,u54,u55,u56,u57,ha,s0,s1,s2,s3,s4,s5,s6,s7,s8,O0,hO⟩ := hI
     simp only [Act.put,List.setIfInBounds_toArray,List.set_cons_zero,List.set_cons_succ] at ha
     subst ha
     have hc := HK.out wr hO
     have p0 := hc.2.1.1
     have p1 := hc.2.1.2.1
     have p2 := hc.2.1.2.2.1
     have p3 := hc.2.1.2.2.2
     clear hc
     go_simp
     refine hK.out _ _ ⟨_,_,_,_,_,_,_,_,_,?_,s0.keep rfl,s1.keep rfl,s2.keep rfl,s3.keep rfl,s4.keep rfl,Slot.new _ _ _,s6.keep rfl,s7.keep rfl,s8.keep rfl,O0.keep (Off.refl _ wr) rfl,hO⟩
     simp only [Act.put,List.setIfInBounds_toArray,List.set_cons_zero,List.set_cons_succ]
    ·intro l a wr hI hl hd K' hK
     obtain ⟨u49,u50,u51,u52,u53,u54,u55,u56,u57,ha,s0,s1,s2,s3,s4,s5,s6,s7,s8,O0,hO⟩ := hI
     simp only [Act.put,List.setIfInBounds_toArray,List.set_cons_zero,List.set_cons_succ] at ha
     have q3 := s3 (hd 3 (by decide))
     have q4 := s4 (hd 4 (by decide))
     have q5 := s5 (hd 5 (by decide))
     subst ha q3 q4 q5
     go_simp
     refine (held_inv (FAd.out wr) hO).mono ?_
     rintro e w1 ⟨rfl,hO1,hOW⟩
     go_wp2_with fail
     refine hK.out _ _ ⟨_,_,_,_,_,_,_,_,_,?_,s0.keep rfl,s1.keep rfl,s2.keep rfl,s3.keep rfl,s4.keep rfl,s5.keep rfl,Slot.new _ _ _,s7.keep rfl,s8.keep rfl,O0.keep hOW rfl,hO1⟩
     simp only [Act.put,List.setIfInBounds_toArray,List.set_cons_zero,List.set_cons_succ]
    ·intro l a wr hI hl hd K' hK
     obtain ⟨u49,u50,u51,u52,u53,u54,u55,u56,u57,ha,s0,s1,s2,s3,s4,s5,s6,s7,s8,O0,hO⟩ := hI
     simp only [Act.put,List.setIfInBounds_toArray,List.set_cons_zero,List.set_cons_succ] at ha
     have q2 := s2 (hd 2 (by decide))
     have q6 := s6 (hd 6 (by decide))
     subst ha q2 q6
     go_simp
     refine (held_inv (FFo.out wr) hO).mono ?_
     rintro e w1 ⟨rfl,hO1,hOW⟩
     go_wp2_with fail
     refine hK.out _ _ ⟨_,_,_,_,_,_,_,_,_,?_,s0.keep rfl,s1.keep rfl,s2.keep rfl,s3.keep rfl,s4.keep rfl,s5.keep rfl,s6.keep rfl,Slot.new _ _ _,s8.keep rfl,O0.keep hOW rfl,hO1⟩
     simp only [Act.put,List.setIfInBounds_toArray,List.set_cons_zero,List.set_cons_succ]
    ·intro l a wr hI hl hd K' hK
     obtain ⟨u49,u50,u51,u52,u53,u54,u55,u56,u57,ha,s0,s1,s2,s3,s4,s5,s6,s7,s8,O0,hO⟩ := hI
     simp only [Act.put,List.setIfInBounds_toArray,List.set_cons_zero,List.set_cons_succ] at ha
     have q0 := s0 (hd 0 (by decide))
     have q1 := s1 (hd 1 (by decide))
     subst ha q0 q1
     go_simp
     refine hK.out _ _ ⟨_,_,_,_,_,_,_,_,_,?_,s0.keep rfl,s1.keep rfl,s2.keep rfl,s3.keep rfl,s4.keep rfl,s5.keep rfl,s6.keep rfl,s7.keep rfl,Slot.new _ _ _,O0.keep (Off.refl _ wr) rfl,hO⟩
     simp only [Act.put,List.setIfInBounds_toArray,List.set_cons_zero,List.set_cons_succ]
    ·intro l a wr hI hl hd K' hK
     obtain ⟨u49,u50,u51,u52,u53,u54,u55,u56,u57,ha,s0,s1,s2,s3,s4,s5,s6,s7,s8,O0,hO⟩ := hI
     simp only [Act.put,List.setIfInBounds_toArray,List.set_cons_zero,List.set_cons_succ] at ha
     have q7 := s7 (hd 7 (by decide))
     have q8 := s8 (hd 8 (by decide))
     subst ha q7 q8
     have hZ := (O0.was hl)
     obtain ⟨m0,m1,m2,m3⟩ := NumsAt.cell hZ HOk.out
     have fz := fun j => NumsAt.frozen hZ j
     have lt := heap_lt hZ
     clear hZ
     go_simp
     refine hK.out _ _ ⟨_,_,_,_,_,_,_,_,_,?_,s0.keep rfl,s1.keep rfl,s2.keep rfl,s3.keep rfl,s4.keep rfl,s5.keep rfl,s6.keep rfl,s7.keep rfl,s8.keep rfl,O0.putAt (HPt.out wr) hl,setCells_in_at hO (fun _ => rfl) (words4 z)⟩
     simp only [Act.put,List.setIfInBounds_toArray,List.set_cons_zero,List.set_cons_succ]
    ·intro l a wc hI hd
     obtain ⟨u49,u50,u51,u52,u53,u54,u55,u56,u57,ha,s0,s1,s2,s3,s4,s5,s6,s7,s8,O0,hO⟩ := hI
     simp only [Act.put,List.setIfInBounds_toArray,List.set_cons_zero,List.set_cons_succ] at ha
     have q0 := s0 (hd 0 (by decide))
     have q1 := s1 (hd 1 (by decide))
     have q2 := s2 (hd 2 (by decide))
     have q3 := s3 (hd 3 (by decide))
     have q4 := s4 (hd 4 (by decide))
     have q5 := s5 (hd 5 (by decide))
     have q6 := s6 (hd 6 (by decide))
     have q7 := s7 (hd 7 (by decide))
     have q8 := s8 (hd 8 (by decide))
     have r0 : wc.heap[b]? = some (.cells (flat4 ((List.replicate n1 r).set k z)).toArray 29) := O0.now (hd 9 (by decide))
     subst ha q0 q1 q2 q3 q4 q5 q6 q7 q8
     clear hd s0 s1 s2 s3 s4 s5 s6 s7 s8 O0
     have hO14 : Off (fun _ => False) W1 wc := HO13.out.trans hO (fun j hj e => by have hq := HBw.out; omega)
     have HD4 := Lib.hid (hO.heap HD3.out (by have hq := HBw.out; omega))
     have HN4 := Lib.hid r0
     have HO14 := Lib.hid hO14
     clear hO14 hO r0
     obtain ⟨g_F,g_P,g_X,hOw⟩ := HW.out _ HO14.out
     obtain ⟨f0,f1,f2,f3,f4,f5,f6,f7,f8,f9,f10,f11,f12,f13⟩ := fv_cells g_F
     have hlf := heap_lt g_F
     clear g_F g_P g_X hOw
     go_wp2_with fail
     clear f0 f1 f2 f3 f4 f5 f6 f7 f8 f9 f10 f11 f12 f13 hlf
     rw [show ((n1 : Int) - 1) = ((n1 - 1 : Nat) : Int) by omega]
     refine (FF.out _ b (HL1.out.off (HW.out _ HO14.out).2.2.2) HN4.out).mono ?_
     rintro e u4 ⟨rfl,hO⟩
     have HO15 := Lib.hid (HO14.out.trans hO (fun _ _ c => c))
     have HD5 := Lib.hid (hO.heap HD4.out (fun c => c))
     clear hO HO14 HD4 HN4
     go_wp2_with fail
     refine (FAL.out _ (HTw.out.off (HW.out _ HO15.out).2.2.2)).mono ?_
     rintro e u5 ⟨rfl,hO⟩
     have HO16 := Lib.hid (HO15.out.trans hO (fun _ _ c => c))
     have HD6 := hO.heap HD5.out (fun c => c)
     clear hO HO15 HD5
     obtain ⟨d0,d1,d2,d3⟩ := cells4 HD6
     have hld := heap_lt HD6
     clear HD6
     go_wp2_with fail
     clear d0 d1 d2 d3 hld
     refine (FMk.out _).mono ?_
     rintro e u6 ⟨rfl,rfl⟩
     go_wp2
     go_ret
     exact ⟨rfl,(HW.out _ HO16.out).2.2.2⟩
   ·obtain ⟨c,hcv⟩ : ∃ c,c = chkV is1 := ⟨_,rfl⟩
    have hcp : ¬ c = 0 := by rw [hcv]; exact hc
    have hci : decide (c ≠ 0) = true := by simp [hcp]
    have hce : (c == 0) = false := by simp [hcp]
    have FC := Lib.hid (show ∀ W,Iv W (.slice a1 n1 cap1) is1 -> Calls Tryd.prog 12 #[.slice a1 n1 cap1] W fun e w' => e = .returned (.int .i64 c) /\ Off (fun _ => False) W w' from fun W h => by rw [hcv]; exact refcheck_any is1 (by omega) _ W h)
    clear hc hcv hmx hmn hF hid hp h1 hp0 hfer hbig FG hnl hnm hws hn1 w1 w2 hT
    go_enter Tryd.func7,Tryd.ntmps7
    go_wp2_with fail
    refine (FC.out _ (HL1.out.off ((Off.refl _ w).alloc _))).mono ?_
    rintro e u0 ⟨rfl,hO⟩
    have HO := Lib.hid (((Off.refl _ w).alloc _ : Off (fun _ => False) w _).trans hO (fun _ _ c => c))
    clear hO
    go_wp2_with fail
    refine (FAL.out _ (HTw.out.off HO.out)).mono ?_
    rintro e u1 ⟨rfl,hO⟩
    have HO1 := Lib.hid (HO.out.trans hO (fun _ _ c => c))
    clear hO
    go_wp2
    go_ret
    exact ⟨rfl,HO1.out⟩

theorem door_met (os : Os) (args : Array Value) : laidMetH Tryd.prog [("sharecore/field.fields",Rows.laid_sharecore_field_fields)] ((World.doorLaid Tryd.prog 400 os).forCall (fun _ _ => 0) ⟨#[],args,[]⟩).memory :=
 laidMetH_of_parts3 (fuel := 8) (laidMet_of_run' 8 (by kernel_rfl) (by kernel_rfl)) (by kernel_rfl) (by kernel_rfl)

set_option maxRecDepth 100000 in
theorem lifted (os : Os) (started : os.Started) (H : Type) (enc : TypeId × Value -> H) :
  ReturnsInHanded {} Tryd.checked os 7 .any (fun w args => (Rows.degreeRejectsSpec.pre enc Tryd.prog Tryd.f7 [] false w args /\ laidMetH Tryd.prog [("sharecore/field.fields",Rows.laid_sharecore_field_fields)] w) /\ sizedMet enc Tryd.prog Tryd.f7 (OpenSpec.ofChange Rows.degreeRejectsSpec) false w args)
   (Rows.degreeRejectsSpec.post enc Tryd.prog Tryd.f7 false true false false) := by
 refine returnsInHanded_of_change_and (C := Tryd.checked) (X := fun w _ => laidMetH Tryd.prog [("sharecore/field.fields",Rows.laid_sharecore_field_fields)] w) (fun _ _ _ hh h => h.of_heap hh) own started (by kernel_rfl) Tryd.func7
  (ChangeSpec.witness_shaped (enc := enc) (C := Tryd.checked) (os := os) (X := fun w _ => laidMetH Tryd.prog [("sharecore/field.fields",Rows.laid_sharecore_field_fields)] w) false (World.doorLaid Tryd.prog 400 os) #[.bool false,.slice none 0 0,.agg #[.int .u64 0,.int .u64 0,.int .u64 0,.int .u64 0]] 8 rfl (World.shaped_of_RefB (by kernel_rfl) (by kernel_rfl)) (by kernel_rfl) (by kernel_rfl) (by kernel_rfl) (door_met os _)) ?_
 intro W base args ds gs before hval0 hW _ _ hL _
 have hval : ∀ (j : Nat) t v,Tryd.f7.params[j]? = some t -> args[j]? = some v -> Value.okWide Tryd.prog W .any base t v := hval0
 have hW' := hW
 obtain ⟨p,q,hA0,hV,rfl,hfz,hnd⟩ := hW
 have hA : DataW.TrodAll enc Tryd.prog W 0 (fun _ => true) true Tryd.f7.params.toList args.toList ds p := hA0
 rw [Tryd.params7] at hA hval
 obtain ⟨v0,vs0,d0,ds0,p0,q0,hargs,rfl,rfl,h0,r0⟩ := trodAll_cons hA
 obtain ⟨v1,vs1,d1,ds1,p1,q1,rfl,rfl,rfl,h1,r1⟩ := trodAll_cons r0
 obtain ⟨v2,vs2,d2,ds2,p2,q2,rfl,rfl,rfl,h2,r2⟩ := trodAll_cons r1
 obtain ⟨rfl,rfl,rfl⟩ := trodAll_nil r2
 obtain rfl : args = #[v0,v1,v2] := by cases args; simp_all
 obtain ⟨rfl,rfl⟩ := trodVars_none hV
 obtain ⟨i0,rfl,rfl,rfl⟩ := open_bool Tryd.underlying4 (hval 0 4 v0 rfl rfl) h0
 have w0 := trivial
 obtain ⟨a1,n1,cap1,rfl⟩ := okWide_slice Tryd.underlying22 (hval 1 22 v1 rfl rfl)
 have k1 := h1
 have lt1 : ∀ x ∈ p1,x.block < W.heap.size := by obtain ⟨m,hm⟩ := k1; exact DataW.trod_lt m _ _ _ hm
 obtain ⟨is1,hn1,w1⟩ : ∃ xs,n1 = xs.length /\ IvAt W (.slice a1 n1 cap1) xs (fun k => k < W.heap.size) := by
  obtain ⟨fuel,hf⟩ := h1
  exact ints_of_trod hf
 have k2 := h2
 have lt2 : ∀ x ∈ p2,x.block < W.heap.size := by obtain ⟨m,hm⟩ := k2; exact DataW.trod_lt m _ _ _ hm
 obtain ⟨n2,w2,rfl⟩ := open_vec (hval 2 28 v2 rfl rfl) h2
 have hT := tab_of_laid hL
 clear hA0 hval0
 refine (walk i0 a1 n1 cap1 is1 n2 W w0 hn1 w1 w2 hT).mono fun e W' ⟨he,hoff⟩ => ?_
 have bel : Below W.heap.size W W' := hoff.below (Nat.le_refl _) (fun _ _ c => c)
 subst he
 exact ⟨_,rfl,_,_,_,[],_,[],hW',trodAll_mk1 (shut_bool Tryd.underlying4 _),(trodAll_cons_mk (shut_bool Tryd.underlying4 _) (trodAll_cons_mk (Below.trod laidOut (by kernel_rfl) (of_decide_eq_true (by kernel_rfl)) k1 bel lt1) (trodAll_cons_mk (Below.trod laidOut (by kernel_rfl) (of_decide_eq_true (by kernel_rfl)) k2 bel lt2) trodAll_mk0))),rfl,bel.frame _,fun h => by cases h⟩

theorem over : Rows.degreeRejectsRow.holds Tryd.pinned (OpenSpec.ofChange Rows.degreeRejectsSpec) :=
 OpenClaim.holds_of_wide 7 Tryd.f7 rfl rfl rfl rfl rfl rfl rfl ⟨rfl,rfl,rfl,rfl,rfl⟩ rfl rfl rfl rfl rfl (by kernel_rfl) Tryd.func7 (by kernel_rfl)
  (of_decide_eq_true (by kernel_rfl)) (by unfold Func.isWrapper; first | (rw [if_pos (by decide +kernel)]; kernel_rfl) | (rw [if_neg (by decide +kernel)]; exact ⟨rfl,rfl⟩))
  (fun os started H enc _ => lifted os started H enc)

theorem proved : Rows.DegreeRejectsCardSaid :=
 Claim7.holds_tied_plain_at .later [] [.data] true (true,"427388ff9568da068c566f01fbebe31ca7ddb5823de2019176b8fd8e2e10c0e0") false
  over (fun _ h => by cases h) (by kernel_rfl) (fun _ h => by cases h) degreeRejects_row_tie rfl ⟨rfl,rfl⟩ (by kernel_rfl) rfl
  (fun f fn hf hfn => by
   obtain rfl : f = 7 := Option.some.inj ((show Tryd.prog.funcNamed "sharecore/sharecorelaw10.DegreeRejects" = some 7 by kernel_rfl).symm.trans hf) |>.symm
   obtain rfl : fn = Tryd.f7 := (Option.some.inj (Tryd.func7.symm.trans hfn)).symm
   exact ⟨by kernel_rfl,fun j t ht => by
    rw [Tryd.params7] at ht
    have hm : t ∈ [4,22,28] := by simpa using Array.mem_of_getElem? ht
    have hall : ([4,22,28].all fun u => !Tryd.prog.wantsStandIn u) = true := by kernel_rfl
    exact (show Tryd.prog.wantsStandIn t = false by simpa using List.all_eq_true.1 hall t hm)⟩)
  (by kernel_rfl)
#print axioms proved
end Go.Proofs.YtggebccgiigboaaDoor.degreeRejects
-- squeezed
