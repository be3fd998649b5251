/-
  The contract of degree's Below, with any tape. Conditions: the list is short, its numbers have four words, and it lies outside the tape; the tape has room for the events.
  The contract of degree's Fits, with any tape. Conditions: the field's constants are those of its modulus, there are at most 90 points, the lists lie outside the tape, which has room for the events.
  The contract of degree's check: the number of Check for the points, or 8 if a list has another number of elements. Conditions: the lists are short.
  The contracts of degree's All and of its closure, with any tape. Conditions: the field's constants are those of its modulus, there are at most 90 points, the lists lie outside the tape, which has room for the events.
  The contracts of package degree with the nil tape, for lists that lie anywhere.
  A list of the call's own that holds lists of numbers; what Values answers, as one value; slices from the midst of a list. Conditions as written.
-/
import Derived.Test.YtggebccgiigboaaDoorDegBase
import Derived.Test.YtggebccgiigboaaDoorDegEvs
import Derived.Test.YtggebccgiigboaaDoorMaskBase
import Derived.Test.YtggebccgiigboaaDoorLimbWords
import Derived.Test.YtggebccgiigboaaDoorElems
import Derived.Test.YtggebccgiigboaaDoorInvTape
import Derived.Test.YtggebccgiigboaaDoorLagProg
import Derived.Test.YtggebccgiigboaaDoorLagBase
import Derived.Test.YtggebccgiigboaaDoorPolRefer
import Derived.Test.YtggebccgiigboaaDoorIntAll
import Derived.Test.YtggebccgiigboaaDoorInvAll
import Derived.Test.YtggebccgiigboaaDoorPolLists
import Derived.Maps.AppendAt
namespace Go.Proofs.YtggebccgiigboaaDoor
section
open Go.RowKit
/-- The words of numbers,one behind the other. -/
def wds (l : List Nat) : List Int := l.flatMap (fun x => [(wd x 0 : Int),(wd x 1 : Int),(wd x 2 : Int),(wd x 3 : Int)])
theorem wds_word (l : List Nat) : ∀ x ∈ wds l,Word x := by
 intro x hx
 obtain ⟨y,_,h⟩ := List.mem_flatMap.1 hx
 simp only [List.mem_cons,List.not_mem_nil,or_false] at h
 rcases h with rfl | rfl | rfl | rfl <;> exact wd_word _ _
theorem wds_zero (l : List Nat) (h : ∀ z ∈ l,z < R256) : zeroB (wds l) = l.all (· == 0) := by
 induction l with
 | nil => rfl
 | cons x r ih =>
  have h1 := wd_zero_all (h x (List.mem_cons_self ..))
  have h2 := ih (fun z hz => h z (List.mem_cons_of_mem _ hz))
  have e : zeroB (wds (x :: r)) = (zeroB [(wd x 0 : Int),(wd x 1 : Int),(wd x 2 : Int),(wd x 3 : Int)] && zeroB (wds r)) := by
   show zeroB ([(wd x 0 : Int),(wd x 1 : Int),(wd x 2 : Int),(wd x 3 : Int)] ++ wds r) = _
   unfold zeroB; rw [List.all_append]
  rw [e,h1,h2,List.all_cons]
  congr 1
theorem blE_none (n : Nat) (k : Int) (h : n <= k.toNat) : blE n k = [] := by
 unfold blE
 rw [List.map_eq_nil_iff,List.filter_eq_nil_iff]
 intro i hi
 have := List.mem_range.1 hi
 simp; omega
theorem wds_step (zs : List Nat) (K j : Nat) (z : Nat) (hz : zs[j]? = some z) (hk : K <= j) : wds ((zs.take (j + 1)).drop K) = wds ((zs.take j).drop K) ++ [(wd z 0 : Int),(wd z 1 : Int),(wd z 2 : Int),(wd z 3 : Int)] := by
 obtain ⟨hj,he⟩ := List.getElem?_eq_some_iff.1 hz
 rw [List.take_succ_eq_append_getElem hj,he,List.drop_append_of_le_length (by rw [List.length_take]; omega)]
 unfold wds
 rw [List.flatMap_append]; simp
set_option maxRecDepth 100000 in
set_option maxHeartbeats 4000000 in
theorem below_any (zs : List Nat) (hz : ∀ z ∈ zs,z < R256) (n cap : Nat) (a : Option Addr) (hn : n = zs.length) (hn2 : n <= 1000) (k : Int) (q : Option Addr) (es : List Ev) (S Sl : Nat -> Prop) (w : World)
  (hL : LsAt w (.slice a n cap) zs Sl) (hSl : ∀ b,Sl b -> b < w.heap.size /\ ¬ S b) (hS : Tp w q es S) (hl : es.length <= 70000) :
  Calls Tryd.prog 18 #[.pointer q,.slice a n cap,.int .i64 k] w fun e w' => e = .returned (.int .u64 (mk (lowV zs k.toNat))) /\ Noted w.heap.size q es (blE n k) S w' /\ Off S w w' := by
 obtain ⟨K,hK⟩ : ∃ K : Nat,K = k.toNat := ⟨_,rfl⟩
 have HM : Hid (max k 0 = (K : Int)) := Lib.hid (by omega)
 have HK := Lib.hid hK
 have HN := Lib.hid hn
 have HSl := Lib.hid hSl
 have HZ := Lib.hid hz
 have hN0 : Noted w.heap.size q es (blE K k) S w := by rw [blE_none K k (by omega)]; exact hS.noted _
 have HN0 := Lib.hid hN0
 have HL0 := Lib.hid hL
 have HSw := Lib.hid hS.2
 rw [<- hK]
 clear hK hn hSl hz hN0 hL hS
 go_enter Tryd.func18,Tryd.ntmps18
 go_wp2
 go_loopw [7,8] (fun t i wr => ∃ j : Nat,K <= j /\ (j <= n ∨ j = K) /\ i = .int .i64 (j : Int) /\ t = .int .u64 (orAll (wds ((zs.take j).drop K))) /\ Noted w.heap.size q es (blE j k) S wr /\ LsAt wr (.slice a n cap) zs Sl /\ Off S w wr) (fun _ i _ => n - (intOf i).toNat)
 case atStart => exact ⟨K,Nat.le_refl _,.inr rfl,by have := HM.out; simp [*],by rw [List.drop_eq_nil_of_le (by rw [List.length_take]; omega)]; rfl,HN0.out,HL0.out,Off.refl _ w⟩
 case round =>
  obtain ⟨j,hKj,hj,rfl,rfl,hN,hL,hO⟩ := hrel
  obtain ⟨l0,hl0⟩ : ∃ l,l = wds ((zs.take j).drop K) := ⟨_,rfl⟩
  have hw0 : ∀ x ∈ l0,Word x := by rw [hl0]; exact wds_word _
  rw [<- hl0]
  by_cases hlt : j < n
  ·obtain ⟨z,hzj⟩ : ∃ z,zs[j]? = some z := ⟨_,List.getElem?_eq_getElem (by have := HN.out; omega)⟩
   obtain ⟨S',t1,t2⟩ := hN
   have hnote := note_ext q (ext q es (blE j k)) S' wr t1 (by have h1 := ext_le q es (blE j k); have h2 := blE_le j k; omega) ((2 : Int),(j : Int),(0 : Int))
   have hjn : (j : Int) < (n : Int) := by omega
   obtain ⟨b,off,rfl,hSb,_⟩ := hL.get hzj
   have hlw := hO.size
   have HL := Lib.hid hL
   have HO := Lib.hid hO
   have HT2 := Lib.hid t2
   have HW0 := Lib.hid hw0
   have HW := Lib.hid (show wds ((zs.take (j + 1)).drop K) = l0 ++ [(wd z 0 : Int),(wd z 1 : Int),(wd z 2 : Int),(wd z 3 : Int)] by rw [hl0]; exact wds_step zs K j z hzj hKj)
   have HZj := Lib.hid hzj
   have HKj := Lib.hid hKj
   clear hL hO t1 t2 hw0 hl0 hzj hSb hKj hj
   go_wp2_with fail
   refine hnote.mono ?_
   rintro r1 A0 ⟨rfl,hN2,hO2⟩
   clear hnote
   have hL2 := HL.out.off hO2 (fun c hc hs d => (HT2.out c d).elim (HSl.out c hs).2 (fun e => by have := (HSl.out c hs).1; omega))
   obtain ⟨b',off',hbe,_,c0,c1,c2,c3⟩ := hL2.get HZj.out
   cases hbe
   have HN3 := Lib.hid (show Noted w.heap.size q es (blE (j + 1) k) S A0 by
    obtain ⟨S2,u1,u2⟩ := hN2
    rw [ext_ext] at u1
    rw [blE_next,if_pos (by have := HKj.out; have := HK.out; omega)]
    exact ⟨S2,u1,fun c d => (u2 c d).elim (HT2.out c) (fun e => .inr (by omega))⟩)
   have HO3 := Lib.hid (show Off S w A0 from HO.out.trans hO2 (fun c hc d => (HT2.out c d).elim id (fun e => by omega)))
   have HL2 := Lib.hid hL2
   clear hN2 hO2 hL2 HL HO HT2 hlw
   go_wp2
   clear c0 c1 c2 c3
   go_loop [7,26] (fun t i => ∃ m : Nat,m <= 4 /\ i = .int .i64 (m : Int) /\ t = .int .u64 (orAll (l0 ++ [(wd z 0 : Int),(wd z 1 : Int),(wd z 2 : Int),(wd z 3 : Int)].take m))) (fun _ i => 4 - (intOf i).toNat)
   case atStart => exact ⟨0,by omega,rfl,by simp⟩
   case round =>
    obtain ⟨m,hm,rfl,rfl⟩ := hrel
    have hws : ∀ m,∀ x ∈ l0 ++ [(wd z 0 : Int),(wd z 1 : Int),(wd z 2 : Int),(wd z 3 : Int)].take m,Word x := fun m x hx => (List.mem_append.1 hx).elim (HW0.out x) (fun h => by
     have h := List.mem_of_mem_take h
     simp only [List.mem_cons,List.not_mem_nil,or_false] at h
     rcases h with rfl | rfl | rfl | rfl <;> exact wd_word _ _)
    have h4 : m = 0 ∨ m = 1 ∨ m = 2 ∨ m = 3 ∨ m = 4 := by omega
    rcases h4 with rfl | rfl | rfl | rfl | rfl
    ·have hs := orAll_snoc _ (wd z 0 : Int) (hws 0) (wd_word _ _)
     have ix : ∀ W,(Instr.index 29 (.agg #[.int .u64 (wd z 0 : Int),.int .u64 (wd z 1 : Int),.int .u64 (wd z 2 : Int),.int .u64 (wd z 3 : Int)]) (.int .i64 0)).run Tryd.prog W = .ok (.int .u64 (wd z 0 : Int)) W := fun _ => by kernel_rfl
     obtain ⟨x,hx⟩ : ∃ x,x = orAll (l0 ++ [(wd z 0 : Int),(wd z 1 : Int),(wd z 2 : Int),(wd z 3 : Int)].take 0) := ⟨_,rfl⟩
     rw [<- hx] at hs ⊢
     have Hs := Lib.hid hs
     clear hs hws hx
     go_wp2
     go_round
     case rel => exact ⟨1,by omega,rfl,by rw [Hs.out,List.append_assoc]; rfl⟩
     case measure => simp [intOf]
    ·have hs := orAll_snoc _ (wd z 1 : Int) (hws 1) (wd_word _ _)
     have ix : ∀ W,(Instr.index 29 (.agg #[.int .u64 (wd z 0 : Int),.int .u64 (wd z 1 : Int),.int .u64 (wd z 2 : Int),.int .u64 (wd z 3 : Int)]) (.int .i64 1)).run Tryd.prog W = .ok (.int .u64 (wd z 1 : Int)) W := fun _ => by kernel_rfl
     obtain ⟨x,hx⟩ : ∃ x,x = orAll (l0 ++ [(wd z 0 : Int),(wd z 1 : Int),(wd z 2 : Int),(wd z 3 : Int)].take 1) := ⟨_,rfl⟩
     rw [<- hx] at hs ⊢
     have Hs := Lib.hid hs
     clear hs hws hx
     go_wp2
     go_round
     case rel => exact ⟨2,by omega,rfl,by rw [Hs.out,List.append_assoc]; rfl⟩
     case measure => simp [intOf]
    ·have hs := orAll_snoc _ (wd z 2 : Int) (hws 2) (wd_word _ _)
     have ix : ∀ W,(Instr.index 29 (.agg #[.int .u64 (wd z 0 : Int),.int .u64 (wd z 1 : Int),.int .u64 (wd z 2 : Int),.int .u64 (wd z 3 : Int)]) (.int .i64 2)).run Tryd.prog W = .ok (.int .u64 (wd z 2 : Int)) W := fun _ => by kernel_rfl
     obtain ⟨x,hx⟩ : ∃ x,x = orAll (l0 ++ [(wd z 0 : Int),(wd z 1 : Int),(wd z 2 : Int),(wd z 3 : Int)].take 2) := ⟨_,rfl⟩
     rw [<- hx] at hs ⊢
     have Hs := Lib.hid hs
     clear hs hws hx
     go_wp2
     go_round
     case rel => exact ⟨3,by omega,rfl,by rw [Hs.out,List.append_assoc]; rfl⟩
     case measure => simp [intOf]
    ·have hs := orAll_snoc _ (wd z 3 : Int) (hws 3) (wd_word _ _)
     have ix : ∀ W,(Instr.index 29 (.agg #[.int .u64 (wd z 0 : Int),.int .u64 (wd z 1 : Int),.int .u64 (wd z 2 : Int),.int .u64 (wd z 3 : Int)]) (.int .i64 3)).run Tryd.prog W = .ok (.int .u64 (wd z 3 : Int)) W := fun _ => by kernel_rfl
     obtain ⟨x,hx⟩ : ∃ x,x = orAll (l0 ++ [(wd z 0 : Int),(wd z 1 : Int),(wd z 2 : Int),(wd z 3 : Int)].take 3) := ⟨_,rfl⟩
     rw [<- hx] at hs ⊢
     have Hs := Lib.hid hs
     clear hs hws hx
     go_wp2
     go_round
     case rel => exact ⟨4,by omega,rfl,by rw [Hs.out,List.append_assoc]; rfl⟩
     case measure => simp [intOf]
    ·clear hws
     rw [show ([(wd z 0 : Int),(wd z 1 : Int),(wd z 2 : Int),(wd z 3 : Int)].take 4) = [(wd z 0 : Int),(wd z 1 : Int),(wd z 2 : Int),(wd z 3 : Int)] from rfl,<- HW.out]
     obtain ⟨x,hx⟩ : ∃ x,x = orAll (wds ((zs.take (j + 1)).drop K)) := ⟨_,rfl⟩
     rw [<- hx]
     have HX := Lib.hid hx
     have hwj : IntKind.i64.wrap ((j : Int) + 1) = (j : Int) + 1 := by rw [IntKind.wrap_i64]; omega
     clear hx
     go_wp2
     go_roundw
     case rel => exact ⟨j + 1,by have := HKj.out; omega,.inl (by omega),by simp,by rw [HX.out],HN3.out,HL2.out,HO3.out⟩
     case measure => simp [intOf] <;> omega
  ·have hjn : ¬ (j : Int) < (n : Int) := by omega
   have hTw : Word (orAll l0) := orAll_word _ hw0
   have hfull : zs.take j = zs := List.take_of_length_le (by have := HN.out; omega)
   have hz0 : zeroB [orAll l0] = lowV zs K := by
    have h1 := orAll_zero l0 hw0
    have h2 : zeroB l0 = lowV zs K := by
     rw [hl0,hfull,wds_zero _ (fun z hz => HZ.out z (List.mem_of_mem_drop hz))]; rfl
    rw [<- h2,<- h1]; simp [zeroB]
   have hbl : blE j k = blE n k := by
    rcases hj with hj | hj
    ·rw [show j = n by omega]
    ·rw [hj,blE_none K k (by have := HK.out; omega),blE_none n k (by have := HK.out; omega)]
   rw [hbl] at hN
   obtain ⟨x,hx⟩ : ∃ x,x = orAll l0 := ⟨_,rfl⟩
   rw [<- hx] at hTw hz0 ⊢
   have hWd : Words (wr.alloc (.cells #[.int .u64 x] 27)) (.slice (some ⟨wr.heap.size,0,none⟩) 1 1) [x] :=
    ⟨_,_,rfl,by simp,fun y hy => by rw [List.mem_singleton.1 hy]; exact hTw,fun _ => ⟨_,_,rfl,fun i hi => by
     obtain rfl : i = 0 := by simpa using hi
     rw [cell_of_heap (heap_new' rfl _)]; rfl⟩⟩
   have HWd := Lib.hid (iszero_any [x] _ _ hWd)
   have HZ0 := Lib.hid hz0
   have HN4 := Lib.hid (show Noted w.heap.size q es (blE n k) S (wr.alloc (.cells #[.int .u64 x] 27)) by
    obtain ⟨S',t1,t2⟩ := hN
    exact ⟨S',t1.off0 ((Off.refl _ wr).alloc _),t2⟩)
   have HO4 := Lib.hid (hO.alloc (.cells #[.int .u64 x] 27))
   clear hN hO hL hx hl0 hw0 hTw hfull hz0 hbl hj hWd hKj
   go_wp2_with fail
   refine HWd.out.mono ?_
   rintro e W9 ⟨rfl,rfl⟩
   go_wp2
   go_ret
   exact ⟨ret_u64 (by rw [HZ0.out]),HN4.out,HO4.out⟩
end
section
open Go.RowKit
def fitM (p : Nat) (xs : List Int) (ys : List Nat) (k : Int) : Int := mk (lowV (itpL p (ptV xs) ys) k.toNat)
theorem low_fm {p : Nat} (h : Mp p) (h0 : 0 < p) (cs : List Nat) (hc : ∀ c ∈ cs,c < p) (K : Nat) : lowV (cs.map (fm p)) K = lowV cs K := by
 unfold lowV
 rw [<- List.map_drop,List.all_map]
 have key : ∀ c ∈ cs.drop K,fm p c = 0 ↔ c = 0 := fun c hm => ⟨fun e => fm_inj h (hc c (List.mem_of_mem_drop hm)) h0 (by rw [e,fm_zero]),fun e => by rw [e,fm_zero]⟩
 rw [Bool.eq_iff_iff,List.all_eq_true,List.all_eq_true]
 constructor
 ·intro g c hm
  have := g c hm
  simp only [Function.comp,beq_iff_eq] at this
  rw [beq_iff_eq]; exact (key c hm).1 this
 ·intro g c hm
  have := g c hm
  rw [beq_iff_eq] at this
  simp only [Function.comp,beq_iff_eq]; exact (key c hm).2 this
theorem OwnL.lsT {B : Nat} {w : World} {v : Value} {ys : List Nat} (h : OwnL B w v ys) (hl : ys.length <= 100000) : LsAt w v ys (fun b => b < w.heap.size /\ ¬ Typed w b) := by
 rcases h with ⟨rfl,rfl⟩ | ⟨b,rfl,_,hN⟩
 ·exact ⟨none,0,rfl,Nat.zero_le _,fun h => by simp at h⟩
 ·exact ⟨some ⟨b,0,none⟩,_,rfl,hl,fun _ => ⟨b,0,rfl,⟨NumsAt.lt hN,not_typed hN⟩,fun j x hx => by have := NumsAt.cell hN hx; rw [Nat.zero_add]; exact this⟩⟩
set_option maxRecDepth 100000 in
set_option maxHeartbeats 4000000 in
/-- An error of Interpolate is one of Fits. -/
theorem fits_no {id : Int} {p i0 r s : Nat} {c : Int} (hc : c ≠ 0) (q : Option Addr) (v u : Value) (k : Int) (w : World)
  (H : ∀ W,Off (fun _ => False) w W -> Calls Tryd.prog 33 #[.pointer q,FV id p i0 r s,v,u] W fun e w' => e = .returned (.tuple #[.slice none 0 0,.int .i64 c]) /\ Off (fun _ => False) W w') :
  Calls Tryd.prog 11 #[.pointer q,FV id p i0 r s,v,u,.int .i64 k] w fun e w' => e = .returned (.tuple #[.int .u64 0,.int .i64 c]) /\ Off (fun _ => False) w w' := by
 have hne : (c != 0) = true := by simp [hc]
 have HH := Lib.hid H
 clear H
 go_enter Tryd.func11,Tryd.ntmps11
 go_wp2_with fail
 refine (HH.out _ ((Off.refl _ w).alloc _)).mono ?_
 rintro e w1 ⟨rfl,hO⟩
 go_wp2
 refine bodyPost_ret (results_tmp2 rfl _ _ _) rfl ?_
 exact ⟨rfl,((Off.refl (fun _ => False) w).alloc _).trans hO (fun _ _ c => c)⟩
set_option maxRecDepth 100000 in
set_option maxHeartbeats 4000000 in
theorem fits_any {id : Int} {p i0 r s : Nat} (hF : Fld id p i0 r s) (xs : List Int) (hc : chkV xs = 0) (n : Nat) (hn : n = xs.length) (hl : n <= 90) (ys : List Nat) (hy : n = ys.length) (k : Int) (q : Option Addr) (es : List Ev) (S Sl : Nat -> Prop) (a2 a : Option Addr) (cap2 cap : Nat) (w : World) (hV : Iv w (.slice a2 n cap2) xs)
  (hL : LsAt w (.slice a n cap) (ys.map (fm p)) Sl) (hSl : ∀ b,Sl b -> b < w.heap.size /\ ¬ S b) (hS : Tp w q es S) (hl2 : es.length <= 1900) :
  Calls Tryd.prog 11 #[.pointer q,FV id p i0 r s,.slice a2 n cap2,.slice a n cap,.int .i64 k] w fun e w' => e = .returned (.tuple #[.int .u64 (fitM p xs ys k),.int .i64 0]) /\ Noted w.heap.size q es (ftE n k) S w' /\ Off S w w' := by
 have hp := hF.mp.lt
 have h1 := hF.mp.one
 obtain ⟨M,hM⟩ : ∃ M,M = fitM p xs ys k := ⟨_,rfl⟩
 obtain ⟨cs,hcs⟩ : ∃ cs,cs = itpL p (ptV xs) ys := ⟨_,rfl⟩
 have hcl : cs.length = n := by rw [hcs,itpL,itpF_length p _ _ _ (Nat.le_refl _),ptV_length,hn]
 have hcp : ∀ c ∈ cs,c < p := by rw [hcs]; exact itpF_lt (by omega) _ _ _
 have hMc : mk (lowV (cs.map (fm p)) k.toNat) = M := by rw [low_fm hF.mp (by omega) cs hcp,hM,hcs]; rfl
 have HI := Lib.hid (show ∀ W,Off (fun _ => False) w W -> Calls Tryd.prog 33 #[.pointer q,FV id p i0 r s,.slice a2 n cap2,.slice a n cap] W fun e w' => ∃ u,e = .returned (.tuple #[u,.int .i64 0]) /\ OwnL W.heap.size w' u (cs.map (fm p)) /\ Noted W.heap.size q es (iE n) S w' /\ Off S W w' from fun W h => by
  have g := itp_ok hF xs hc n hn hl ys hy q es S Sl a2 a cap2 cap W (hV.off h) (hL.off h (fun _ _ _ c => c)) (fun b hb => ⟨Nat.lt_of_lt_of_le (hSl b hb).1 h.size,(hSl b hb).2⟩) (hS.off0 h) hl2
  rw [<- hcs] at g; exact g)
 have hzR : ∀ z ∈ cs.map (fm p),z < R256 := by
  intro z hz
  obtain ⟨c,_,rfl⟩ := List.mem_map.1 hz
  exact Nat.lt_trans (fm_lt (by omega) c) hp
 obtain ⟨zs,hzs⟩ : ∃ zs,zs = cs.map (fm p) := ⟨_,rfl⟩
 have hzl : n = zs.length := by rw [hzs,List.length_map,hcl]
 rw [<- hzs] at HI hMc hzR
 rw [<- hM]
 have HZR := Lib.hid hzR
 have HZl := Lib.hid hzl
 have HM := Lib.hid hMc
 have HS := Lib.hid hS.2
 clear hF hV hL hSl hS hM hcs hcl hcp hMc hzR hzs hzl hc hn hy hp h1
 go_enter Tryd.func11,Tryd.ntmps11
 go_wp2_with fail
 obtain ⟨W1,hW1⟩ : ∃ W1,W1 = (w.alloc (.cells #[.int .i64 id,.int .u64 (wd p 0 : Int),.int .u64 (wd p 1 : Int),.int .u64 (wd p 2 : Int),.int .u64 (wd p 3 : Int),.int .u64 (i0 : Int),.int .u64 (wd r 0 : Int),.int .u64 (wd r 1 : Int),.int .u64 (wd r 2 : Int),.int .u64 (wd r 3 : Int),.int .u64 (wd s 0 : Int),.int .u64 (wd s 1 : Int),.int .u64 (wd s 2 : Int),.int .u64 (wd s 3 : Int)] 31)) := ⟨_,rfl⟩
 have hO1 : Off (fun _ => False) w W1 := by rw [hW1]; exact (Off.refl _ w).alloc _
 rw [<- hW1]
 refine (HI.out W1 hO1).mono ?_
 rintro e w2 ⟨u,rfl,hu,hN,hO2⟩
 have hs1 := hO1.size
 clear hW1
 obtain ⟨S',t1,t2⟩ := hN
 have hLu := hu.lsT (by have := HZl.out; omega)
 have hus : ∃ ua uc,u = .slice ua n uc := by
  rcases hu with ⟨h0,rfl⟩ | ⟨b,rfl,_⟩
  ·exact ⟨none,0,by have := HZl.out; rw [h0] at this; rw [this]; rfl⟩
  ·exact ⟨some ⟨b,0,none⟩,zs.length,by rw [HZl.out]⟩
 obtain ⟨ua,uc,rfl⟩ := hus
 have HB := Lib.hid (below_any zs HZR.out n uc ua HZl.out (by omega) k q (ext q es (iE n)) (fun b => S' b /\ Typed w2 b) (fun b => b < w2.heap.size /\ ¬ Typed w2 b) w2 hLu (fun b hb => ⟨hb.1,fun c => hb.2 c.2⟩) t1.typed (by have h1 := ext_le q es (iE n); have h2 := iE_le hl; omega))
 have HT2 := Lib.hid t2
 have HO2 := Lib.hid ((hO1.mono (fun _ _ c => c.elim) : Off S w W1).trans hO2 (fun _ _ c => c))
 have hs2 := hO2.size
 clear hu hO2 t1 t2 hLu hO1
 go_wp2_with fail
 refine HB.out.mono ?_
 rintro e w3 ⟨rfl,hN3,hO3⟩
 have HN := Lib.hid (show Noted w.heap.size q es (ftE n k) S w3 by
  obtain ⟨S2,u1,u2⟩ := hN3
  rw [ext_ext] at u1
  exact ⟨S2,u1,fun b c => (u2 b c).elim (fun c => (HT2.out b c.1).elim .inl (fun d => .inr (by omega))) (fun d => .inr (by omega))⟩)
 have HO := Lib.hid (show Off S w w3 from HO2.out.trans hO3 (fun b hb c => (HT2.out b c.1).elim (fun c => c) (fun d => by omega)))
 clear hN3 hO3
 go_wp2
 rw [HM.out]
 refine bodyPost_ret (results_tmp2 rfl _ _ _) rfl ?_
 exact ⟨rfl,HN.out,HO.out⟩
end
section
open Go.RowKit
/-- The slice value v holds lists of numbers; what is read lies within S. -/
def LLsAt (w : World) (v : Value) (yss : List (List Nat)) (S : Nat -> Prop) : Prop :=
 ∃ a cap,v = .slice a yss.length cap /\ yss.length <= 1000 /\ (0 < yss.length -> ∃ b off,a = some ⟨b,off,none⟩ /\ S b /\ ∀ j ys,yss[j]? = some ys -> ∃ u,w.cell? ⟨b,off + j,none⟩ = some u /\ LsAt w u ys S)
theorem LLsAt.off {w w' : World} {v : Value} {yss : List (List Nat)} {S S' : Nat -> Prop} (h : LLsAt w v yss S) (ho : Off S' w w') (hd : ∀ k,k < w.heap.size -> S k -> ¬ S' k) : LLsAt w' v yss S := by
 obtain ⟨a,cap,hv,h1,h4⟩ := h
 refine ⟨a,cap,hv,h1,fun hp => ?_⟩
 obtain ⟨b,off,ha,hS,hc⟩ := h4 hp
 refine ⟨b,off,ha,hS,fun j ys hj => ?_⟩
 obtain ⟨u,h2,h3⟩ := hc j ys hj
 exact ⟨u,ho.cell h2 (hd b (World.block_lt_of_cell? w _ h2) hS),h3.off ho hd⟩
theorem LLsAt.mono {w : World} {v : Value} {yss : List (List Nat)} {S S' : Nat -> Prop} (h : LLsAt w v yss S) (hs : ∀ k,k < w.heap.size -> S k -> S' k) : LLsAt w v yss S' := by
 obtain ⟨a,cap,hv,h1,h4⟩ := h
 refine ⟨a,cap,hv,h1,fun hp => ?_⟩
 obtain ⟨b,off,ha,hS,hc⟩ := h4 hp
 have hb : b < w.heap.size := by
  obtain ⟨u,h2,_⟩ := hc 0 yss[0] (List.getElem?_eq_getElem hp)
  exact World.block_lt_of_cell? w _ h2
 refine ⟨b,off,ha,hs b hb hS,fun j ys hj => ?_⟩
 obtain ⟨u,h2,h3⟩ := hc j ys hj
 exact ⟨u,h2,h3.mono hs⟩
theorem LLsAt.get {w : World} {a : Option Addr} {m cap : Nat} {yss : List (List Nat)} {S : Nat -> Prop} (h : LLsAt w (.slice a m cap) yss S) {j : Nat} {ys : List Nat} (hj : yss[j]? = some ys) :
  ∃ b off a1 c1,a = some ⟨b,off,none⟩ /\ S b /\ w.cell? ⟨b,off + j,none⟩ = some (.slice a1 ys.length c1) /\ LsAt w (.slice a1 ys.length c1) ys S := by
 obtain ⟨a',cap',e,_,h4⟩ := h
 simp at e
 obtain ⟨rfl,rfl,rfl⟩ := e
 obtain ⟨b,off,ha,hS,hc⟩ := h4 (by have := (List.getElem?_eq_some_iff.1 hj).1; omega)
 obtain ⟨u,h2,h3⟩ := hc j ys hj
 obtain ⟨a1,c1,rfl,_⟩ := id h3
 exact ⟨b,off,a1,c1,ha,hS,h2,h3⟩
theorem LLsAt.len {w : World} {a : Option Addr} {m cap : Nat} {yss : List (List Nat)} {S : Nat -> Prop} (h : LLsAt w (.slice a m cap) yss S) : m = yss.length /\ m <= 1000 := by
 obtain ⟨a',cap',e,h1,_⟩ := h
 simp at e
 omega
/-- The slice value v holds lists of numbers,somewhere. -/
def LLs (w : World) (v : Value) (yss : List (List Nat)) : Prop := LLsAt w v yss (fun _ => True)
theorem LLs.off {w w' : World} {v : Value} {yss : List (List Nat)} (h : LLs w v yss) (ho : Off (fun _ => False) w w') : LLs w' v yss := LLsAt.off h ho (fun _ _ _ c => c)
theorem LLs.nil (w : World) : LLs w (.slice none 0 0) [] := ⟨none,0,rfl,Nat.zero_le _,fun h => by simp at h⟩
theorem LLs.of {w : World} {v : Value} {yss : List (List Nat)} {S : Nat -> Prop} (h : LLsAt w v yss S) : LLs w v yss := h.mono (fun _ _ _ => trivial)
theorem LLs.lt {w : World} {v : Value} {yss : List (List Nat)} (h : LLs w v yss) : LLsAt w v yss (fun k => k < w.heap.size) := LLsAt.mono h (fun _ hk _ => hk)
set_option maxRecDepth 100000 in
set_option maxHeartbeats 4000000 in
theorem dcheck_no (xs : List Int) (hc : chkV xs ≠ 0) (hl : xs.length <= 100000) (v u : Value) (w : World) (hV : Iv w v xs) :
  Calls Tryd.prog 35 #[v,u] w fun e w' => e = .returned (.int .i64 (chkV xs)) /\ Off (fun _ => False) w w' := by
 have HC := Lib.hid (fun W h => check_any xs hl v W (hV.off h) : ∀ W,Off (fun _ => False) w W -> _)
 obtain ⟨c,hcv⟩ : ∃ c,c = chkV xs := ⟨_,rfl⟩
 rw [<- hcv] at HC hc ⊢
 have hne : (c != 0) = true := by simp [hc]
 clear hV hcv
 go_enter Tryd.func35,Tryd.ntmps35
 go_wp2_with fail
 refine (HC.out _ (Off.refl _ w)).mono ?_
 rintro e w1 ⟨rfl,hO⟩
 go_wp2
 go_ret
 exact ⟨rfl,hO⟩
set_option maxRecDepth 100000 in
set_option maxHeartbeats 4000000 in
theorem dcheck_any (xs : List Int) (hc : chkV xs = 0) (n cap2 : Nat) (hn : n = xs.length) (hl : n <= 100000) (a2 a : Option Addr) (m cap : Nat) (zss : List (List Nat)) (w : World) (hV : Iv w (.slice a2 n cap2) xs) (hU : LLs w (.slice a m cap) zss) :
  Calls Tryd.prog 35 #[.slice a2 n cap2,.slice a m cap] w fun e w' => e = .returned (.int .i64 (if ∀ zs ∈ zss,zs.length = n then 0 else 8)) /\ Off (fun _ => False) w w' := by
 have HC := Lib.hid (fun W h => by have g := check_any xs (by omega) (.slice a2 n cap2) W (hV.off h); rw [hc] at g; exact g : ∀ W,Off (fun _ => False) w W -> Calls Tryd.prog 48 #[.slice a2 n cap2] W fun e w' => e = .returned (.int .i64 0) /\ Off (fun _ => False) W w')
 obtain ⟨hm,hm2⟩ := LLsAt.len hU
 obtain ⟨R,hR⟩ : ∃ R : Int,R = if ∀ zs ∈ zss,zs.length = n then 0 else 8 := ⟨_,rfl⟩
 rw [<- hR]
 have HR := Lib.hid hR
 clear hR
 have HM := Lib.hid hm
 have HU := Lib.hid hU
 clear hV hU hc hn hm
 go_enter Tryd.func35,Tryd.ntmps35
 go_wp2_with fail
 refine (HC.out _ (Off.refl _ w)).mono ?_
 rintro e w1 ⟨rfl,hO⟩
 have HU1 := Lib.hid (HU.out.off hO)
 have HO := Lib.hid hO
 clear hO HU HC
 go_wp2
 go_loop [14] (fun i => ∃ j : Nat,j <= m /\ i = .int .i64 (j : Int) /\ Hid (∀ t zs,t < j -> zss[t]? = some zs -> zs.length = n)) (fun i => m - (intOf i).toNat)
 case atStart => exact ⟨0,Nat.zero_le _,rfl,Lib.hid (fun t zs h => by omega)⟩
 case round =>
  obtain ⟨j,hj,rfl,HG⟩ := hrel
  by_cases hlt : j < m
  ·obtain ⟨zs,hzj⟩ : ∃ zs,zss[j]? = some zs := ⟨_,List.getElem?_eq_getElem (by have := HM.out; omega)⟩
   obtain ⟨b,off,a1,c1,rfl,_,c0,_⟩ := HU1.out.get hzj
   have hjm : (j : Int) < (m : Int) := by omega
   have hwj : IntKind.i64.wrap ((j : Int) + 1) = (j : Int) + 1 := by rw [IntKind.wrap_i64]; omega
   obtain ⟨L,hL⟩ : ∃ L,L = zs.length := ⟨_,rfl⟩
   rw [<- hL] at c0
   by_cases hz : L = n
   ·have hne : ((L : Int) != (n : Int)) = false := by simp [hz]
    have HG2 := Lib.hid (show ∀ t zs,t < j + 1 -> zss[t]? = some zs -> zs.length = n from fun t z h ht => by
     by_cases h2 : t < j
     ·exact HG.out t z h2 ht
     ·obtain rfl : t = j := by omega
      rw [hzj] at ht; cases ht; omega)
    clear hz hzj HG hL
    go_wp2
    go_round
    case rel => exact ⟨j + 1,by omega,by simp,HG2⟩
    case measure => simp [intOf] <;> omega
   ·have hne : ((L : Int) != (n : Int)) = true := by simp; omega
    have HI := Lib.hid (show R = 8 from HR.out.trans (if_neg (fun h => hz (by rw [hL]; exact h zs (List.mem_of_getElem? hzj)))))
    clear hz hzj HG hL
    go_wp2
    rw [HI.out]
    go_ret
    exact ⟨rfl,HO.out⟩
  ·have hjm : ¬ (j : Int) < (m : Int) := by omega
   have HI := Lib.hid (show R = 0 from HR.out.trans (if_pos (fun zs h => by
    obtain ⟨t,ht⟩ := List.getElem?_of_mem h
    have := (List.getElem?_eq_some_iff.1 ht).1
    exact HG.out t zs (by have := HM.out; omega) ht)))
   clear HG
   go_wp2
   rw [HI.out]
   go_ret
   exact ⟨rfl,HO.out⟩
end
section
open Go.RowKit
theorem mk_and (c d : Bool) : bits .and .u64 (mk c) (mk d) = mk (c && d) := by cases c <;> cases d <;> rfl
/-- What All's loop keeps: blocks,the word in block ba,the points,the lists,the tape. -/
structure AE (w W : World) (fx : List (Nat × Obj)) (ba : Nat) (x : Int) (vx : Value) (xs : List Int) (vy : Value) (zss : List (List Nat)) (Sl : Nat -> Prop) (q : Option Addr) (es : List Ev) (S : Nat -> Prop) : Prop where
 blk : ∀ p ∈ fx,W.heap[p.1]? = some p.2
 st : ∀ p ∈ fx,Steady p.2 /\ w.heap.size <= p.1 /\ p.1 ≠ ba
 acc : W.heap[ba]? = some (.cells #[.int .u64 x] 27 (0,0))
 new : w.heap.size <= ba
 ints : IvAt W vx xs Sl
 src : LLsAt W vy zss Sl
 lst : ∀ b,Sl b -> b < w.heap.size /\ ¬ S b
 tp : ∃ S',Tp W q es S' /\ ∀ b,S' b -> S b ∨ w.heap.size <= b
 old : ∀ b,S b -> b < w.heap.size
 off : Off S w W
section
variable {w W W' : World} {fx : List (Nat × Obj)} {ba : Nat} {x y : Int} {vx vy : Value} {xs : List Int} {zss : List (List Nat)} {Sl : Nat -> Prop} {q : Option Addr} {es ls : List Ev} {S S' : Nat -> Prop}
theorem AE.get (h : AE w W fx ba x vx xs vy zss Sl q es S) {b : Nat} {o : Obj} (hm : (b,o) ∈ fx) : W.heap[b]? = some o := h.blk _ hm
theorem AE.keep (h : AE w W fx ba x vx xs vy zss Sl q es S) (ho : Off (fun _ => False) W W') : AE w W' fx ba x vx xs vy zss Sl q es S := by
 obtain ⟨S',t1,t2⟩ := h.tp
 exact ⟨fun p hp => ho.heap (h.blk p hp) (fun c => c),h.st,ho.heap h.acc (fun c => c),h.new,h.ints.off ho (fun _ _ _ c => c),h.src.off ho (fun _ _ _ c => c),h.lst,⟨S',t1.off0 ho,t2⟩,h.old,h.off.trans ho (fun _ _ c => c.elim)⟩
theorem AE.tape (h : AE w W fx ba x vx xs vy zss Sl q es S) : ∃ S',Tp W q es S' /\ (∀ b,S' b -> S b ∨ w.heap.size <= b) /\ ∀ b,S' b -> Typed W b := by
 obtain ⟨S',t1,t2⟩ := h.tp
 exact ⟨_,t1.typed,fun b c => t2 b c.1,fun b c => c.2⟩
theorem AE.noted (h : AE w W fx ba x vx xs vy zss Sl q es S) (hn : ∀ b,S' b -> S b ∨ w.heap.size <= b) (ht : ∀ b,S' b -> Typed W b) (ho : Off S' W W') {B : Nat} (hB : w.heap.size <= B) (hN : Noted B q es ls S' W') : AE w W' fx ba x vx xs vy zss Sl q (ext q es ls) S := by
 obtain ⟨S2,t1,t2⟩ := hN
 have hd : ∀ k,k < W.heap.size -> Sl k -> ¬ S' k := fun k _ hk c => (hn k c).elim (h.lst k hk).2 (fun d => by have := (h.lst k hk).1; omega)
 exact ⟨fun p hp => ho.heap (h.blk p hp) (fun c => (h.st p hp).1.not (h.blk p hp) (ht _ c)),h.st,ho.heap h.acc (fun c => not_typed' h.acc (by decide) (by decide) (by decide) (ht _ c)),h.new,
  h.ints.off ho hd,h.src.off ho hd,h.lst,⟨S2,t1,fun b c => (t2 b c).elim (hn b) (fun d => .inr (by omega))⟩,h.old,
  h.off.trans ho (fun k hk c => (hn k c).elim (fun c => c) (fun d => by omega))⟩
theorem AE.put (h : AE w W fx ba x vx xs vy zss Sl q es S) (ho : Off (fun k => k = ba) W W') (hz : W'.heap[ba]? = some (.cells #[.int .u64 y] 27 (0,0))) : AE w W' fx ba y vx xs vy zss Sl q es S := by
 obtain ⟨S',t1,t2,t3⟩ := h.tape
 have hd : ∀ k,k < W.heap.size -> Sl k -> ¬ k = ba := fun k _ hk e => by have := (h.lst k hk).1; have := h.new; omega
 exact ⟨fun p hp => ho.heap (h.blk p hp) (h.st p hp).2.2,h.st,hz,h.new,h.ints.off ho hd,h.src.off ho hd,h.lst,
  ⟨S',t1.off ho (fun k e c => by subst e; exact not_typed' h.acc (by decide) (by decide) (by decide) (t3 _ c)),t2⟩,h.old,h.off.trans ho (fun k hk e => by have := h.new; omega)⟩
theorem AE.sub {fx1 : List (Nat × Obj)} (h : AE w W fx1 ba x vx xs vy zss Sl q es S) (hs : ∀ y ∈ fx,y ∈ fx1) : AE w W fx ba x vx xs vy zss Sl q es S :=
 ⟨fun p hp => h.blk p (hs p hp),fun p hp => h.st p (hs p hp),h.acc,h.new,h.ints,h.src,h.lst,h.tp,h.old,h.off⟩
theorem AE.notedAll (h : AE w W fx ba x vx xs vy zss Sl q (ext q es ls) S) : Noted w.heap.size q es ls S W := h.tp
end
theorem cell1 {w : World} {b : Nat} {T : TypeId} {v : Value} (h : w.heap[b]? = some (.cells #[v] T (0,0))) : w.cell? ⟨b,0,none⟩ = some v := cell_of_heap h 0
set_option maxRecDepth 100000 in
set_option maxHeartbeats 4000000 in
theorem all1_any {id : Int} {p i0 r s : Nat} (hF : Fld id p i0 r s) (xs : List Int) (hc : chkV xs = 0) (n : Nat) (hn : n = xs.length) (hl : n <= 90) (yss : List (List Nat)) (m : Nat) (j : Nat) (ys : List Nat) (hj : yss[j]? = some ys) (hy : ys.length = n) (k : Int) (q : Option Addr) (es : List Ev) (S Sl : Nat -> Prop) (a2 a : Option Addr) (cap2 cap : Nat)
  (fx : List (Nat × Obj)) (bt bf bx bm bk ba : Nat) (x : Bool) (w W : World)
  (Mbt : (bt,Obj.cells #[.pointer q] 46 (0,0)) ∈ fx)
  (Mbf : (bf,Obj.cells #[.int .i64 id,.int .u64 (wd p 0 : Int),.int .u64 (wd p 1 : Int),.int .u64 (wd p 2 : Int),.int .u64 (wd p 3 : Int),.int .u64 (i0 : Int),.int .u64 (wd r 0 : Int),.int .u64 (wd r 1 : Int),.int .u64 (wd r 2 : Int),.int .u64 (wd r 3 : Int),.int .u64 (wd s 0 : Int),.int .u64 (wd s 1 : Int),.int .u64 (wd s 2 : Int),.int .u64 (wd s 3 : Int)] 31 (0,0)) ∈ fx)
  (Mbx : (bx,Obj.cells #[.slice a2 n cap2] 22 (0,0)) ∈ fx)
  (Mbm : (bm,Obj.cells #[.slice a m cap] 44 (0,0)) ∈ fx)
  (Mbk : (bk,Obj.cells #[.int .i64 k] 3 (0,0)) ∈ fx)
  (hE : AE w W fx ba (mk x) (.slice a2 n cap2) xs (.slice a m cap) (yss.map (·.map (fm p))) Sl q es S) (hle : es.length <= 1800) :
  Calls Tryd.prog 37 #[.int .i64 (j : Int),.pointer (some ⟨bt,0,none⟩),.pointer (some ⟨bf,0,none⟩),.pointer (some ⟨bx,0,none⟩),.pointer (some ⟨bm,0,none⟩),.pointer (some ⟨bk,0,none⟩),.pointer (some ⟨ba,0,none⟩)] W
   fun e W' => e = .returned (.tuple #[]) /\ AE w W' fx ba (mk (x && lowV (itpL p (ptV xs) ys) k.toNat)) (.slice a2 n cap2) xs (.slice a m cap) (yss.map (·.map (fm p))) Sl q (ext q es (((4 : Int),(j : Int),(0 : Int)) :: ftE n k)) S := by
 obtain ⟨y,hyb⟩ : ∃ y,y = lowV (itpL p (ptV xs) ys) k.toNat := ⟨_,rfl⟩
 obtain ⟨M,hM⟩ : ∃ M,M = mk y := ⟨_,rfl⟩
 have hzj : (yss.map (·.map (fm p)))[j]? = some (ys.map (fm p)) := by rw [List.getElem?_map,hj]; rfl
 have hjm : (j : Int) < (m : Int) := by
  have h1 := (hE.src.len).1
  have h2 := (List.getElem?_eq_some_iff.1 hj).1
  rw [List.length_map] at h1; omega
 have HMk := Lib.hid (show bits .and .u64 (mk x) M = mk (x && y) by rw [hM]; exact mk_and x y)
 have FF := Lib.hid (show ∀ W1 A1 c1 es2 S1,es2.length <= 1900 -> Iv W1 (.slice a2 n cap2) xs -> LsAt W1 (.slice A1 n c1) (ys.map (fm p)) Sl -> (∀ b,Sl b -> b < W1.heap.size /\ ¬ S1 b) -> Tp W1 q es2 S1 -> Calls Tryd.prog 11 #[.pointer q,FV id p i0 r s,.slice a2 n cap2,.slice A1 n c1,.int .i64 k] W1 fun e W' => e = .returned (.tuple #[.int .u64 M,.int .i64 0]) /\ Noted W1.heap.size q es2 (ftE n k) S1 W' /\ Off S1 W1 W' from fun W1 A1 c1 es2 S1 h2 h h3 h4 h5 => by
  rw [hM,hyb]; exact fits_any hF xs hc n hn hl ys hy.symm k q es2 S1 Sl a2 A1 cap2 c1 W1 h h3 h4 h5 h2)
 rw [<- hyb]
 have HJ := Lib.hid hzj
 obtain ⟨zss,hzs⟩ : ∃ l,l = yss.map (·.map (fm p)) := ⟨_,rfl⟩
 obtain ⟨zs,hzz⟩ : ∃ l,l = ys.map (fm p) := ⟨_,rfl⟩
 have HZl := Lib.hid (show zs.length = n by rw [hzz,List.length_map,hy])
 rw [<- hzs] at hE HJ ⊢
 rw [<- hzz] at FF HJ
 clear hF hc hn hl hj hy hyb hM hzj hzs hzz
 obtain ⟨S',t1,t2,t3⟩ := hE.tape
 have hnote := note_ext q es S' W t1 (by omega) ((4 : Int),(j : Int),(0 : Int))
 have c_t := cell1 (hE.get Mbt)
 have HE := Lib.hid hE
 have HT2 := Lib.hid t2
 have HT3 := Lib.hid t3
 have HMt := Lib.hid Mbt
 have HMf := Lib.hid Mbf
 have HMx := Lib.hid Mbx
 have HMm := Lib.hid Mbm
 have HMb := Lib.hid Mbk
 clear hE t1 t2 t3 Mbt Mbf Mbx Mbm Mbk
 go_enter Tryd.func37,Tryd.ntmps37
 go_wp2_with fail
 clear c_t
 refine hnote.mono ?_
 rintro e A0 ⟨rfl,hN,hO⟩
 clear hnote
 have hE1 := HE.out.noted HT2.out HT3.out hO HE.out.off.size hN
 obtain ⟨es1,hes1⟩ : ∃ l,l = ext q es [((4 : Int),(j : Int),(0 : Int))] := ⟨_,rfl⟩
 rw [<- hes1] at hE1
 have hel : es1.length <= 1900 := by rw [hes1]; have := ext_le q es [((4 : Int),(j : Int),(0 : Int))]; simp at this; omega
 obtain ⟨S1,u1,u2,u3⟩ := hE1.tape
 obtain ⟨b,off,A1,c1,rfl,hSb,d0,d1⟩ := hE1.src.get HJ.out
 rw [HZl.out] at d0 d1
 have hSS : ∀ k,k < A0.heap.size -> Sl k -> ¬ S1 k := fun k _ hk c => (u2 k c).elim (hE1.lst k hk).2 (fun d => by have := (hE1.lst k hk).1; omega)
 have hst : ∀ {b : Nat} {o : Obj},(b,o) ∈ fx -> ¬ S1 b := fun hm c => (hE1.st _ hm).1.not (hE1.get hm) (u3 _ c)
 have HK : Hid (∀ B,Off (fun k => S1 k) A0 B -> (B.cell? ⟨bt,0,none⟩ = some (.pointer q)) /\ (B.cell? ⟨bf,0,none⟩ = some (.int .i64 id) /\ B.cell? ⟨bf,1,none⟩ = some (.int .u64 (wd p 0 : Int)) /\ B.cell? ⟨bf,2,none⟩ = some (.int .u64 (wd p 1 : Int)) /\ B.cell? ⟨bf,3,none⟩ = some (.int .u64 (wd p 2 : Int)) /\ B.cell? ⟨bf,4,none⟩ = some (.int .u64 (wd p 3 : Int)) /\ B.cell? ⟨bf,5,none⟩ = some (.int .u64 (i0 : Int)) /\ B.cell? ⟨bf,6,none⟩ = some (.int .u64 (wd r 0 : Int)) /\ B.cell? ⟨bf,7,none⟩ = some (.int .u64 (wd r 1 : Int)) /\ B.cell? ⟨bf,8,none⟩ = some (.int .u64 (wd r 2 : Int)) /\ B.cell? ⟨bf,9,none⟩ = some (.int .u64 (wd r 3 : Int)) /\ B.cell? ⟨bf,10,none⟩ = some (.int .u64 (wd s 0 : Int)) /\ B.cell? ⟨bf,11,none⟩ = some (.int .u64 (wd s 1 : Int)) /\ B.cell? ⟨bf,12,none⟩ = some (.int .u64 (wd s 2 : Int)) /\ B.cell? ⟨bf,13,none⟩ = some (.int .u64 (wd s 3 : Int))) /\ (B.cell? ⟨bx,0,none⟩ = some (.slice a2 n cap2)) /\ (B.cell? ⟨bm,0,none⟩ = some (.slice (some ⟨b,off,none⟩) m cap)) /\ (B.cell? ⟨b,off + j,none⟩ = some (.slice A1 n c1)) /\ (B.cell? ⟨bk,0,none⟩ = some (.int .i64 k)) /\ Off (fun k => S1 k) A0 B) := Lib.hid (fun B h =>
  ⟨cell1 (h.heap (hE1.get HMt.out) (hst HMt.out)),fv_cells (h.heap (hE1.get HMf.out) (hst HMf.out)),cell1 (h.heap (hE1.get HMx.out) (hst HMx.out)),cell1 (h.heap (hE1.get HMm.out) (hst HMm.out)),h.cell d0 (hSS b (World.block_lt_of_cell? A0 _ d0) hSb),cell1 (h.heap (hE1.get HMb.out) (hst HMb.out)),h⟩)
 have HFit := Lib.hid (show ∀ W1,Off (fun k => S1 k) A0 W1 -> Tp W1 q es1 S1 -> Calls Tryd.prog 11 #[.pointer q,FV id p i0 r s,.slice a2 n cap2,.slice A1 n c1,.int .i64 k] W1 fun e W' => e = .returned (.tuple #[.int .u64 M,.int .i64 0]) /\ Noted W1.heap.size q es1 (ftE n k) S1 W' /\ Off S1 W1 W' from fun W1 h h5 =>
  FF.out W1 A1 c1 es1 S1 hel (Iv.of (hE1.ints.off h hSS)) (d1.off h hSS) (fun b hb => ⟨Nat.lt_of_lt_of_le (hE1.lst b hb).1 (Nat.le_trans hE1.off.size h.size),fun c => hSS b (Nat.lt_of_lt_of_le (hE1.lst b hb).1 hE1.off.size) hb c⟩) h5)
 have HE1 := Lib.hid hE1
 have HU2 := Lib.hid u2
 have HU3 := Lib.hid u3
 have HT1 := Lib.hid u1
 have HS1 := Lib.hid hes1
 clear hE1 hN hO hSb d0 d1 hSS u1 u2 u3 hes1 FF HE HT2 HT3 hel hst
 go_upto_region 1 with fail
 refine wp_region_inv (fun a0 l a' w' => ∃ (u14 : Value) (u15 : Value) (u16 : Value) (u17 : Value) (u18 : Value) (u19 : Value) (u20 : Value) (u21 : Value) (u22 : Value) (u13 : Value) (u23 : Value) (u24 : Value) (u8 : Value) (u9 : Value),a' = (Act.put (Act.put (Act.put (Act.put (Act.put (Act.put (Act.put (Act.put (Act.put (Act.put (Act.put (Act.put (Act.put (Act.put a0 (some 14) u14) (some 15) u15) (some 16) u16) (some 17) u17) (some 18) u18) (some 19) u19) (some 20) u20) (some 21) u21) (some 22) u22) (some 13) u13) (some 23) u23) (some 24) u24) (some 8) u8) (some 9) u9) /\ Slot l 0 u14 (.pointer q) /\ Slot l 1 u15 (FV id p i0 r s) /\ Slot l 2 u16 (.slice a2 n cap2) /\ Slot l 3 u17 (.slice (some ⟨b,off,none⟩) m cap) /\ Slot l 4 u18 (.int .i64 (j : Int)) /\ Slot l 5 u19 (.pointer (some ⟨b,off + j,none⟩)) /\ Slot l 6 u20 (.slice A1 n c1) /\ Slot l 7 u21 (.int .i64 k) /\ Slot l 8 u22 (.tuple #[.int .u64 M,.int .i64 0]) /\ Slot l 9 u13 (.tuple #[.int .u64 M,.int .i64 0]) /\ Slot l 10 u23 (.int .u64 M) /\ Slot l 11 u24 (.int .i64 0) /\ Slot l 12 u8 (.int .u64 M) /\ Slot l 13 u9 (.int .i64 0) /\ TpI l 8 A0 w' q es1 (ftE n k) S1 /\ Off (fun k => S1 k) A0 w') (by kernel_rfl) (by kernel_rfl) ?_ ⟨?_,?_,?_,?_,?_,?_,?_,?_,?_,?_,?_,?_,?_,?_,trivial⟩ ?_
 ·refine ⟨?z14,?z15,?z16,?z17,?z18,?z19,?z20,?z21,?z22,?z13,?z23,?z24,?z8,?z9,?fr,Slot.start _ _ _,Slot.start _ _ _,Slot.start _ _ _,Slot.start _ _ _,Slot.start _ _ _,Slot.start _ _ _,Slot.start _ _ _,Slot.start _ _ _,Slot.start _ _ _,Slot.start _ _ _,Slot.start _ _ _,Slot.start _ _ _,Slot.start _ _ _,Slot.start _ _ _,TpI.start HT1.out _ _ _,(Off.refl _ A0).drew⟩
  case fr => first | (simp only [Act.put,List.setIfInBounds_toArray,List.set_cons_zero,List.set_cons_succ]; rfl) | simp only [Act.put,List.setIfInBounds_toArray,List.set_cons_zero,List.set_cons_succ]
 ·intro l a wr hI hl hd K' hK
  obtain ⟨u14,u15,u16,u17,u18,u19,u20,u21,u22,u13,u23,u24,u8,u9,ha,s0,s1,s2,s3,s4,s5,s6,s7,s8,s9,s10,s11,s12,s13,TP,hO⟩ := hI
  simp only [Act.put,List.setIfInBounds_toArray,List.set_cons_zero,List.set_cons_succ] at ha
  subst ha
  have hc := HK.out wr hO
  have p0 := hc.1
  clear hc
  go_simp
  refine hK.out _ _ ⟨_,_,_,_,_,_,_,_,_,_,_,_,_,_,?_,Slot.new _ _ _,s1.keep rfl,s2.keep rfl,s3.keep rfl,s4.keep rfl,s5.keep rfl,s6.keep rfl,s7.keep rfl,s8.keep rfl,s9.keep rfl,s10.keep rfl,s11.keep rfl,s12.keep rfl,s13.keep rfl,TP.same rfl,hO⟩
  simp only [Act.put,List.setIfInBounds_toArray,List.set_cons_zero,List.set_cons_succ]
 ·intro l a wr hI hl hd K' hK
  obtain ⟨u14,u15,u16,u17,u18,u19,u20,u21,u22,u13,u23,u24,u8,u9,ha,s0,s1,s2,s3,s4,s5,s6,s7,s8,s9,s10,s11,s12,s13,TP,hO⟩ := hI
  simp only [Act.put,List.setIfInBounds_toArray,List.set_cons_zero,List.set_cons_succ] at ha
  subst ha
  have hc := HK.out wr hO
  have p0 := hc.2.1.1
  have p1 := hc.2.1.2.1
  have p2 := hc.2.1.2.2.1
  have p3 := hc.2.1.2.2.2.1
  have p4 := hc.2.1.2.2.2.2.1
  have p5 := hc.2.1.2.2.2.2.2.1
  have p6 := hc.2.1.2.2.2.2.2.2.1
  have p7 := hc.2.1.2.2.2.2.2.2.2.1
  have p8 := hc.2.1.2.2.2.2.2.2.2.2.1
  have p9 := hc.2.1.2.2.2.2.2.2.2.2.2.1
  have p10 := hc.2.1.2.2.2.2.2.2.2.2.2.2.1
  have p11 := hc.2.1.2.2.2.2.2.2.2.2.2.2.2.1
  have p12 := hc.2.1.2.2.2.2.2.2.2.2.2.2.2.2.1
  have p13 := hc.2.1.2.2.2.2.2.2.2.2.2.2.2.2.2
  clear hc
  go_simp
  refine hK.out _ _ ⟨_,_,_,_,_,_,_,_,_,_,_,_,_,_,?_,s0.keep rfl,Slot.new _ _ _,s2.keep rfl,s3.keep rfl,s4.keep rfl,s5.keep rfl,s6.keep rfl,s7.keep rfl,s8.keep rfl,s9.keep rfl,s10.keep rfl,s11.keep rfl,s12.keep rfl,s13.keep rfl,TP.same rfl,hO⟩
  simp only [Act.put,List.setIfInBounds_toArray,List.set_cons_zero,List.set_cons_succ]
 ·intro l a wr hI hl hd K' hK
  obtain ⟨u14,u15,u16,u17,u18,u19,u20,u21,u22,u13,u23,u24,u8,u9,ha,s0,s1,s2,s3,s4,s5,s6,s7,s8,s9,s10,s11,s12,s13,TP,hO⟩ := hI
  simp only [Act.put,List.setIfInBounds_toArray,List.set_cons_zero,List.set_cons_succ] at ha
  subst ha
  have hc := HK.out wr hO
  have p0 := hc.2.2.1
  clear hc
  go_simp
  refine hK.out _ _ ⟨_,_,_,_,_,_,_,_,_,_,_,_,_,_,?_,s0.keep rfl,s1.keep rfl,Slot.new _ _ _,s3.keep rfl,s4.keep rfl,s5.keep rfl,s6.keep rfl,s7.keep rfl,s8.keep rfl,s9.keep rfl,s10.keep rfl,s11.keep rfl,s12.keep rfl,s13.keep rfl,TP.same rfl,hO⟩
  simp only [Act.put,List.setIfInBounds_toArray,List.set_cons_zero,List.set_cons_succ]
 ·intro l a wr hI hl hd K' hK
  obtain ⟨u14,u15,u16,u17,u18,u19,u20,u21,u22,u13,u23,u24,u8,u9,ha,s0,s1,s2,s3,s4,s5,s6,s7,s8,s9,s10,s11,s12,s13,TP,hO⟩ := hI
  simp only [Act.put,List.setIfInBounds_toArray,List.set_cons_zero,List.set_cons_succ] at ha
  subst ha
  have hc := HK.out wr hO
  have p0 := hc.2.2.2.1
  clear hc
  go_simp
  refine hK.out _ _ ⟨_,_,_,_,_,_,_,_,_,_,_,_,_,_,?_,s0.keep rfl,s1.keep rfl,s2.keep rfl,Slot.new _ _ _,s4.keep rfl,s5.keep rfl,s6.keep rfl,s7.keep rfl,s8.keep rfl,s9.keep rfl,s10.keep rfl,s11.keep rfl,s12.keep rfl,s13.keep rfl,TP.same rfl,hO⟩
  simp only [Act.put,List.setIfInBounds_toArray,List.set_cons_zero,List.set_cons_succ]
 ·intro l a wr hI hl hd K' hK
  obtain ⟨u14,u15,u16,u17,u18,u19,u20,u21,u22,u13,u23,u24,u8,u9,ha,s0,s1,s2,s3,s4,s5,s6,s7,s8,s9,s10,s11,s12,s13,TP,hO⟩ := hI
  simp only [Act.put,List.setIfInBounds_toArray,List.set_cons_zero,List.set_cons_succ] at ha
  subst ha
  go_simp
  refine hK.out _ _ ⟨_,_,_,_,_,_,_,_,_,_,_,_,_,_,?_,s0.keep rfl,s1.keep rfl,s2.keep rfl,s3.keep rfl,Slot.new _ _ _,s5.keep rfl,s6.keep rfl,s7.keep rfl,s8.keep rfl,s9.keep rfl,s10.keep rfl,s11.keep rfl,s12.keep rfl,s13.keep rfl,TP.same rfl,hO⟩
  simp only [Act.put,List.setIfInBounds_toArray,List.set_cons_zero,List.set_cons_succ]
 ·intro l a wr hI hl hd K' hK
  obtain ⟨u14,u15,u16,u17,u18,u19,u20,u21,u22,u13,u23,u24,u8,u9,ha,s0,s1,s2,s3,s4,s5,s6,s7,s8,s9,s10,s11,s12,s13,TP,hO⟩ := hI
  simp only [Act.put,List.setIfInBounds_toArray,List.set_cons_zero,List.set_cons_succ] at ha
  have q3 := s3 (hd 3 (by decide))
  have q4 := s4 (hd 4 (by decide))
  subst ha q3 q4
  go_simp
  refine hK.out _ _ ⟨_,_,_,_,_,_,_,_,_,_,_,_,_,_,?_,s0.keep rfl,s1.keep rfl,s2.keep rfl,s3.keep rfl,s4.keep rfl,Slot.new _ _ _,s6.keep rfl,s7.keep rfl,s8.keep rfl,s9.keep rfl,s10.keep rfl,s11.keep rfl,s12.keep rfl,s13.keep rfl,TP.same rfl,hO⟩
  simp only [Act.put,List.setIfInBounds_toArray,List.set_cons_zero,List.set_cons_succ]
 ·intro l a wr hI hl hd K' hK
  obtain ⟨u14,u15,u16,u17,u18,u19,u20,u21,u22,u13,u23,u24,u8,u9,ha,s0,s1,s2,s3,s4,s5,s6,s7,s8,s9,s10,s11,s12,s13,TP,hO⟩ := hI
  simp only [Act.put,List.setIfInBounds_toArray,List.set_cons_zero,List.set_cons_succ] at ha
  have q5 := s5 (hd 5 (by decide))
  subst ha q5
  have hc := HK.out wr hO
  have p0 := hc.2.2.2.2.1
  clear hc
  go_simp
  refine hK.out _ _ ⟨_,_,_,_,_,_,_,_,_,_,_,_,_,_,?_,s0.keep rfl,s1.keep rfl,s2.keep rfl,s3.keep rfl,s4.keep rfl,s5.keep rfl,Slot.new _ _ _,s7.keep rfl,s8.keep rfl,s9.keep rfl,s10.keep rfl,s11.keep rfl,s12.keep rfl,s13.keep rfl,TP.same rfl,hO⟩
  simp only [Act.put,List.setIfInBounds_toArray,List.set_cons_zero,List.set_cons_succ]
 ·intro l a wr hI hl hd K' hK
  obtain ⟨u14,u15,u16,u17,u18,u19,u20,u21,u22,u13,u23,u24,u8,u9,ha,s0,s1,s2,s3,s4,s5,s6,s7,s8,s9,s10,s11,s12,s13,TP,hO⟩ := hI
  simp only [Act.put,List.setIfInBounds_toArray,List.set_cons_zero,List.set_cons_succ] at ha
  subst ha
  have hc := HK.out wr hO
  have p0 := hc.2.2.2.2.2.1
  clear hc
  go_simp
  refine hK.out _ _ ⟨_,_,_,_,_,_,_,_,_,_,_,_,_,_,?_,s0.keep rfl,s1.keep rfl,s2.keep rfl,s3.keep rfl,s4.keep rfl,s5.keep rfl,s6.keep rfl,Slot.new _ _ _,s8.keep rfl,s9.keep rfl,s10.keep rfl,s11.keep rfl,s12.keep rfl,s13.keep rfl,TP.same rfl,hO⟩
  simp only [Act.put,List.setIfInBounds_toArray,List.set_cons_zero,List.set_cons_succ]
 ·intro l a wr hI hl hd K' hK
  obtain ⟨u14,u15,u16,u17,u18,u19,u20,u21,u22,u13,u23,u24,u8,u9,ha,s0,s1,s2,s3,s4,s5,s6,s7,s8,s9,s10,s11,s12,s13,TP,hO⟩ := hI
  simp only [Act.put,List.setIfInBounds_toArray,List.set_cons_zero,List.set_cons_succ] at ha
  have q0 := s0 (hd 0 (by decide))
  have q1 := s1 (hd 1 (by decide))
  have q2 := s2 (hd 2 (by decide))
  have q6 := s6 (hd 6 (by decide))
  have q7 := s7 (hd 7 (by decide))
  subst ha q0 q1 q2 q6 q7
  go_simp
  refine (HFit.out wr hO (TP.was hl)).mono ?_
  rintro e w1 ⟨rfl,hT1,hOW⟩
  have hO1 := hO.trans hOW (fun _ _ c => c)
  go_wp2_with fail
  refine hK.out _ _ ⟨_,_,_,_,_,_,_,_,_,_,_,_,_,_,?_,s0.keep rfl,s1.keep rfl,s2.keep rfl,s3.keep rfl,s4.keep rfl,s5.keep rfl,s6.keep rfl,s7.keep rfl,Slot.new _ _ _,s9.keep rfl,s10.keep rfl,s11.keep rfl,s12.keep rfl,s13.keep rfl,TpI.note hT1 hO.size,hO1⟩
  simp only [Act.put,List.setIfInBounds_toArray,List.set_cons_zero,List.set_cons_succ]
 ·intro l a wr hI hl hd K' hK
  obtain ⟨u14,u15,u16,u17,u18,u19,u20,u21,u22,u13,u23,u24,u8,u9,ha,s0,s1,s2,s3,s4,s5,s6,s7,s8,s9,s10,s11,s12,s13,TP,hO⟩ := hI
  simp only [Act.put,List.setIfInBounds_toArray,List.set_cons_zero,List.set_cons_succ] at ha
  have q8 := s8 (hd 8 (by decide))
  subst ha q8
  go_simp
  refine hK.out _ _ ⟨_,_,_,_,_,_,_,_,_,_,_,_,_,_,?_,s0.keep rfl,s1.keep rfl,s2.keep rfl,s3.keep rfl,s4.keep rfl,s5.keep rfl,s6.keep rfl,s7.keep rfl,s8.keep rfl,Slot.new _ _ _,s10.keep rfl,s11.keep rfl,s12.keep rfl,s13.keep rfl,TP.same rfl,hO⟩
  simp only [Act.put,List.setIfInBounds_toArray,List.set_cons_zero,List.set_cons_succ]
 ·intro l a wr hI hl hd K' hK
  obtain ⟨u14,u15,u16,u17,u18,u19,u20,u21,u22,u13,u23,u24,u8,u9,ha,s0,s1,s2,s3,s4,s5,s6,s7,s8,s9,s10,s11,s12,s13,TP,hO⟩ := hI
  simp only [Act.put,List.setIfInBounds_toArray,List.set_cons_zero,List.set_cons_succ] at ha
  have q9 := s9 (hd 9 (by decide))
  subst ha q9
  go_simp
  refine hK.out _ _ ⟨_,_,_,_,_,_,_,_,_,_,_,_,_,_,?_,s0.keep rfl,s1.keep rfl,s2.keep rfl,s3.keep rfl,s4.keep rfl,s5.keep rfl,s6.keep rfl,s7.keep rfl,s8.keep rfl,s9.keep rfl,Slot.new _ _ _,s11.keep rfl,s12.keep rfl,s13.keep rfl,TP.same rfl,hO⟩
  simp only [Act.put,List.setIfInBounds_toArray,List.set_cons_zero,List.set_cons_succ]
 ·intro l a wr hI hl hd K' hK
  obtain ⟨u14,u15,u16,u17,u18,u19,u20,u21,u22,u13,u23,u24,u8,u9,ha,s0,s1,s2,s3,s4,s5,s6,s7,s8,s9,s10,s11,s12,s13,TP,hO⟩ := hI
  simp only [Act.put,List.setIfInBounds_toArray,List.set_cons_zero,List.set_cons_succ] at ha
  have q9 := s9 (hd 9 (by decide))
  subst ha q9
  go_simp
  refine hK.out _ _ ⟨_,_,_,_,_,_,_,_,_,_,_,_,_,_,?_,s0.keep rfl,s1.keep rfl,s2.keep rfl,s3.keep rfl,s4.keep rfl,s5.keep rfl,s6.keep rfl,s7.keep rfl,s8.keep rfl,s9.keep rfl,s10.keep rfl,Slot.new _ _ _,s12.keep rfl,s13.keep rfl,TP.same rfl,hO⟩
  simp only [Act.put,List.setIfInBounds_toArray,List.set_cons_zero,List.set_cons_succ]
 ·intro l a wr hI hl hd K' hK
  obtain ⟨u14,u15,u16,u17,u18,u19,u20,u21,u22,u13,u23,u24,u8,u9,ha,s0,s1,s2,s3,s4,s5,s6,s7,s8,s9,s10,s11,s12,s13,TP,hO⟩ := hI
  simp only [Act.put,List.setIfInBounds_toArray,List.set_cons_zero,List.set_cons_succ] at ha
  have q10 := s10 (hd 10 (by decide))
  subst ha q10
  go_simp
  refine hK.out _ _ ⟨_,_,_,_,_,_,_,_,_,_,_,_,_,_,?_,s0.keep rfl,s1.keep rfl,s2.keep rfl,s3.keep rfl,s4.keep rfl,s5.keep rfl,s6.keep rfl,s7.keep rfl,s8.keep rfl,s9.keep rfl,s10.keep rfl,s11.keep rfl,Slot.new _ _ _,s13.keep rfl,TP.same rfl,hO⟩
  simp only [Act.put,List.setIfInBounds_toArray,List.set_cons_zero,List.set_cons_succ]
 ·intro l a wr hI hl hd K' hK
  obtain ⟨u14,u15,u16,u17,u18,u19,u20,u21,u22,u13,u23,u24,u8,u9,ha,s0,s1,s2,s3,s4,s5,s6,s7,s8,s9,s10,s11,s12,s13,TP,hO⟩ := hI
  simp only [Act.put,List.setIfInBounds_toArray,List.set_cons_zero,List.set_cons_succ] at ha
  have q11 := s11 (hd 11 (by decide))
  subst ha q11
  go_simp
  refine hK.out _ _ ⟨_,_,_,_,_,_,_,_,_,_,_,_,_,_,?_,s0.keep rfl,s1.keep rfl,s2.keep rfl,s3.keep rfl,s4.keep rfl,s5.keep rfl,s6.keep rfl,s7.keep rfl,s8.keep rfl,s9.keep rfl,s10.keep rfl,s11.keep rfl,s12.keep rfl,Slot.new _ _ _,TP.same rfl,hO⟩
  simp only [Act.put,List.setIfInBounds_toArray,List.set_cons_zero,List.set_cons_succ]
 ·intro l a wc hI hd
  obtain ⟨u14,u15,u16,u17,u18,u19,u20,u21,u22,u13,u23,u24,u8,u9,ha,s0,s1,s2,s3,s4,s5,s6,s7,s8,s9,s10,s11,s12,s13,TP,hO⟩ := hI
  simp only [Act.put,List.setIfInBounds_toArray,List.set_cons_zero,List.set_cons_succ] at ha
  have q0 := s0 (hd 0 (by decide))
  have q1 := s1 (hd 1 (by decide))
  have q2 := s2 (hd 2 (by decide))
  have q3 := s3 (hd 3 (by decide))
  have q4 := s4 (hd 4 (by decide))
  have q5 := s5 (hd 5 (by decide))
  have q6 := s6 (hd 6 (by decide))
  have q7 := s7 (hd 7 (by decide))
  have q8 := s8 (hd 8 (by decide))
  have q9 := s9 (hd 9 (by decide))
  have q10 := s10 (hd 10 (by decide))
  have q11 := s11 (hd 11 (by decide))
  have q12 := s12 (hd 12 (by decide))
  have q13 := s13 (hd 13 (by decide))
  have tp := TP.now (hd 8 (by decide))
  subst ha q0 q1 q2 q3 q4 q5 q6 q7 q8 q9 q10 q11 q12 q13
  clear hd s0 s1 s2 s3 s4 s5 s6 s7 s8 s9 s10 s11 s12 s13 TP
  have hE2 := HE1.out.noted HU2.out HU3.out hO HE1.out.off.size tp
  rw [HS1.out,ext_ext] at hE2
  have k0 := cell1 hE2.acc
  have fz := fun j => frozen_of_heap hE2.acc j
  have lt := heap_lt hE2.acc
  have HE2 := Lib.hid hE2
  clear hE2 hO tp
  go_wp2
  rw [HMk.out]
  go_end0
  refine ⟨rfl,HE2.out.put (setCells_off ba [.int .u64 (mk (x && y))] 0 wc) ?_⟩
  exact (setCells_at (vs := [.int .u64 (mk (x && y))]) HE2.out.acc rfl)
set_option maxRecDepth 100000 in
set_option maxHeartbeats 4000000 in
/-- An error of the check is one of All. -/
theorem all_no {id : Int} {p i0 r s : Nat} {c : Int} (hc : c ≠ 0) (q : Option Addr) (a2 a : Option Addr) (n cap2 m cap : Nat) (k : Int) (w : World)
  (H : ∀ W,Off (fun _ => False) w W -> Calls Tryd.prog 35 #[.slice a2 n cap2,.slice a m cap] W fun e w' => e = .returned (.int .i64 c) /\ Off (fun _ => False) W w') :
  Calls Tryd.prog 15 #[.pointer q,FV id p i0 r s,.slice a2 n cap2,.slice a m cap,.int .i64 k] w fun e w' => e = .returned (.tuple #[.int .u64 0,.int .i64 c]) /\ Off (fun _ => False) w w' := by
 have hne : (c != 0) = true := by simp [hc]
 have HH := Lib.hid H
 clear H
 go_enter Tryd.func15,Tryd.ntmps15
 go_wp2_with fail
 refine (HH.out _ ((((((Off.refl _ w).alloc _).alloc _).alloc _).alloc _).alloc _)).mono ?_
 rintro e w1 ⟨rfl,hO⟩
 go_wp2
 refine bodyPost_ret (results_tmp2 rfl _ _ _) rfl ?_
 exact ⟨rfl,((((((Off.refl (fun _ => False) w).alloc _).alloc _).alloc _).alloc _).alloc _).trans hO (fun _ _ c => c)⟩
set_option maxRecDepth 100000 in
set_option maxHeartbeats 4000000 in
theorem all_any {id : Int} {p i0 r s : Nat} (hF : Fld id p i0 r s) (xs : List Int) (hc : chkV xs = 0) (n : Nat) (hn : n = xs.length) (hl : n <= 90) (yss : List (List Nat)) (m : Nat) (hm : m = yss.length) (hm2 : m <= 1000) (hy : ∀ ys ∈ yss,ys.length = n) (k : Int) (q : Option Addr) (es : List Ev) (S Sl : Nat -> Prop) (a2 a : Option Addr) (cap2 cap : Nat) (w : World)
  (hV : IvAt w (.slice a2 n cap2) xs Sl) (hU : LLsAt w (.slice a m cap) (yss.map (·.map (fm p))) Sl) (hSl : ∀ b,Sl b -> b < w.heap.size /\ ¬ S b) (hS : Tp w q es S) (hle : ∀ j,j < m -> (ext q es (alE n k j)).length <= 1800) :
  Calls Tryd.prog 15 #[.pointer q,FV id p i0 r s,.slice a2 n cap2,.slice a m cap,.int .i64 k] w
   fun e w' => e = .returned (.tuple #[.int .u64 (mk (yss.all (fun ys => lowV (itpL p (ptV xs) ys) k.toNat))),.int .i64 0]) /\ Noted w.heap.size q es (alE n k m) S w' /\ Off S w w' := by
 obtain ⟨M,hM⟩ : ∃ M,M = mk (yss.all (fun ys => lowV (itpL p (ptV xs) ys) k.toNat)) := ⟨_,rfl⟩
 rw [<- hM]
 have HC := Lib.hid (show ∀ W,Off (fun _ => False) w W -> Calls Tryd.prog 35 #[.slice a2 n cap2,.slice a m cap] W fun e w' => e = .returned (.int .i64 0) /\ Off (fun _ => False) W w' from fun W h => by
  have g := dcheck_any xs hc n cap2 hn (by omega) a2 a m cap (yss.map (·.map (fm p))) W (Iv.off (Iv.of hV) h) (LLs.off (LLs.of hU) h)
  rw [if_pos (fun zs hz => by
   obtain ⟨ys,h1,rfl⟩ := List.mem_map.1 hz
   rw [List.length_map]; exact hy ys h1)] at g
  exact g)
 have HA := Lib.hid (show ∀ fx bt bf bx bm bk ba (x : Bool) W j ys,yss[j]? = some ys -> (bt,Obj.cells #[.pointer q] 46 (0,0)) ∈ fx -> (bf,Obj.cells #[.int .i64 id,.int .u64 (wd p 0 : Int),.int .u64 (wd p 1 : Int),.int .u64 (wd p 2 : Int),.int .u64 (wd p 3 : Int),.int .u64 (i0 : Int),.int .u64 (wd r 0 : Int),.int .u64 (wd r 1 : Int),.int .u64 (wd r 2 : Int),.int .u64 (wd r 3 : Int),.int .u64 (wd s 0 : Int),.int .u64 (wd s 1 : Int),.int .u64 (wd s 2 : Int),.int .u64 (wd s 3 : Int)] 31 (0,0)) ∈ fx -> (bx,Obj.cells #[.slice a2 n cap2] 22 (0,0)) ∈ fx -> (bm,Obj.cells #[.slice a m cap] 44 (0,0)) ∈ fx -> (bk,Obj.cells #[.int .i64 k] 3 (0,0)) ∈ fx ->
   AE w W fx ba (mk x) (.slice a2 n cap2) xs (.slice a m cap) (yss.map (·.map (fm p))) Sl q (ext q es (alE n k j)) S -> Calls Tryd.prog 37 #[.int .i64 (j : Int),.pointer (some ⟨bt,0,none⟩),.pointer (some ⟨bf,0,none⟩),.pointer (some ⟨bx,0,none⟩),.pointer (some ⟨bm,0,none⟩),.pointer (some ⟨bk,0,none⟩),.pointer (some ⟨ba,0,none⟩)] W
   fun e W' => e = .returned (.tuple #[]) /\ AE w W' fx ba (mk (x && lowV (itpL p (ptV xs) ys) k.toNat)) (.slice a2 n cap2) xs (.slice a m cap) (yss.map (·.map (fm p))) Sl q (ext q es (alE n k (j + 1))) S from fun fx bt bf bx bm bk ba x W j ys hj h1 h2 h3 h4 h5 hE => by
  have hjm : j < m := by have := (List.getElem?_eq_some_iff.1 hj).1; omega
  have g := all1_any hF xs hc n hn hl yss m j ys hj (hy ys (List.mem_of_getElem? hj)) k q (ext q es (alE n k j)) S Sl a2 a cap2 cap fx bt bf bx bm bk ba x w W h1 h2 h3 h4 h5 hE (hle j hjm)
  rw [ext_ext] at g; exact g)
 have HMn := Lib.hid hm
 have HM := Lib.hid hM
 have HV := Lib.hid hV
 have HU := Lib.hid hU
 have HSl := Lib.hid hSl
 have HS := Lib.hid hS
 clear hF hc hn hl hm hy hM hV hU hSl hS hle
 go_enter Tryd.func15,Tryd.ntmps15
 go_wp2_with fail
 obtain ⟨W3,hW3⟩ : ∃ W3,W3 = ((((w.alloc (.cells #[.pointer q] 46)).alloc (.cells #[.int .i64 id,.int .u64 (wd p 0 : Int),.int .u64 (wd p 1 : Int),.int .u64 (wd p 2 : Int),.int .u64 (wd p 3 : Int),.int .u64 (i0 : Int),.int .u64 (wd r 0 : Int),.int .u64 (wd r 1 : Int),.int .u64 (wd r 2 : Int),.int .u64 (wd r 3 : Int),.int .u64 (wd s 0 : Int),.int .u64 (wd s 1 : Int),.int .u64 (wd s 2 : Int),.int .u64 (wd s 3 : Int)] 31)).alloc (.cells #[.slice a2 n cap2] 22)).alloc (.cells #[.slice a m cap] 44)).alloc (.cells #[.int .i64 k] 3) := ⟨_,rfl⟩
 have hOW3 : Off (fun _ => False) w W3 := by rw [hW3]; exact (((((Off.refl _ w).alloc _).alloc _).alloc _).alloc _).alloc _
 have g_bt : W3.heap[w.heap.size]? = some (.cells #[.pointer q] 46 (0,0)) := by rw [hW3]; exact heap_old' (heap_old' (heap_old' (heap_old' (heap_new' rfl _) _) _) _) _
 have g_bf : W3.heap[w.heap.size + 1]? = some (.cells #[.int .i64 id,.int .u64 (wd p 0 : Int),.int .u64 (wd p 1 : Int),.int .u64 (wd p 2 : Int),.int .u64 (wd p 3 : Int),.int .u64 (i0 : Int),.int .u64 (wd r 0 : Int),.int .u64 (wd r 1 : Int),.int .u64 (wd r 2 : Int),.int .u64 (wd r 3 : Int),.int .u64 (wd s 0 : Int),.int .u64 (wd s 1 : Int),.int .u64 (wd s 2 : Int),.int .u64 (wd s 3 : Int)] 31 (0,0)) := by rw [hW3]; exact heap_old' (heap_old' (heap_old' (heap_new' (by simp) _) _) _) _
 have g_bx : W3.heap[w.heap.size + 1 + 1]? = some (.cells #[.slice a2 n cap2] 22 (0,0)) := by rw [hW3]; exact heap_old' (heap_old' (heap_new' (by simp) _) _) _
 have g_bm : W3.heap[w.heap.size + 1 + 1 + 1]? = some (.cells #[.slice a m cap] 44 (0,0)) := by rw [hW3]; exact heap_old' (heap_new' (by simp) _) _
 have g_bk : W3.heap[w.heap.size + 1 + 1 + 1 + 1]? = some (.cells #[.int .i64 k] 3 (0,0)) := by rw [hW3]; exact heap_new' (by simp) _
 have hsW3 : W3.heap.size = w.heap.size + 1 + 1 + 1 + 1 + 1 := by rw [hW3]; simp
 rw [<- hW3]
 obtain ⟨bk,e_bk⟩ : ∃ bk,bk = w.heap.size + 1 + 1 + 1 + 1 := ⟨_,rfl⟩
 rw [<- e_bk] at g_bk ⊢
 obtain ⟨bm,e_bm⟩ : ∃ bm,bm = w.heap.size + 1 + 1 + 1 := ⟨_,rfl⟩
 rw [<- e_bm] at g_bm ⊢
 obtain ⟨bx,e_bx⟩ : ∃ bx,bx = w.heap.size + 1 + 1 := ⟨_,rfl⟩
 rw [<- e_bx] at g_bx ⊢
 obtain ⟨bf,e_bf⟩ : ∃ bf,bf = w.heap.size + 1 := ⟨_,rfl⟩
 rw [<- e_bf] at g_bf ⊢
 obtain ⟨bt,e_bt⟩ : ∃ bt,bt = w.heap.size := ⟨_,rfl⟩
 rw [<- e_bt] at g_bt ⊢
 have HBk := Lib.hid (show bt = w.heap.size /\ bf = w.heap.size + 1 /\ bx = w.heap.size + 1 + 1 /\ bm = w.heap.size + 1 + 1 + 1 /\ bk = w.heap.size + 1 + 1 + 1 + 1 /\ W3.heap.size = w.heap.size + 1 + 1 + 1 + 1 + 1 from ⟨e_bt,e_bf,e_bx,e_bm,e_bk,hsW3⟩)
 clear hW3 hsW3 e_bt e_bf e_bx e_bm e_bk
 refine (HC.out W3 hOW3).mono ?_
 rintro e w1 ⟨rfl,hO1⟩
 have hO2 := hOW3.trans hO1 (fun _ _ c => c)
 have g_bt := hO1.heap g_bt (fun c => c)
 have g_bf := hO1.heap g_bf (fun c => c)
 have g_bx := hO1.heap g_bx (fun c => c)
 have g_bm := hO1.heap g_bm (fun c => c)
 have g_bk := hO1.heap g_bk (fun c => c)
 have lw1 := heap_lt g_bk
 have HO2 := Lib.hid hO2
 have Gt := Lib.hid g_bt
 have Gf := Lib.hid g_bf
 have Gx := Lib.hid g_bx
 have Gm := Lib.hid g_bm
 have Gk := Lib.hid g_bk
 have c_m := cell1 g_bm
 have lm := heap_lt g_bm
 clear hO1 hOW3 hO2 g_bt g_bf g_bx g_bm g_bk
 have hW0 : Words w1 (.slice none 0 0) [] := ⟨none,0,rfl,by simp,fun _ h => absurd h List.not_mem_nil,fun h => absurd h (by simp)⟩
 have HZ := Lib.hid (iszero_any [] _ _ hW0)
 clear hW0
 go_wp2_with fail
 refine HZ.out.mono ?_
 rintro e w2 ⟨rfl,rfl⟩
 clear HZ
 obtain ⟨W4,hW4⟩ : ∃ W4,W4 = w1.alloc (.cells #[.int .u64 (mk (zeroB []))] 27) := ⟨_,rfl⟩
 obtain ⟨ba,hba⟩ : ∃ ba,ba = w1.heap.size := ⟨_,rfl⟩
 have ho4 : Off (fun _ => False) w1 W4 := by rw [hW4]; exact (Off.refl _ w1).alloc _
 have g_ba : W4.heap[ba]? = some (.cells #[.int .u64 (mk true)] 27 (0,0)) := by rw [hW4,hba]; exact heap_new' rfl _
 have hsz : W4.heap.size = w1.heap.size + 1 := by rw [hW4]; simp
 have HB4 := Lib.hid (show bt = w.heap.size /\ bf = w.heap.size + 1 /\ bx = w.heap.size + 1 + 1 /\ bm = w.heap.size + 1 + 1 + 1 /\ bk = w.heap.size + 1 + 1 + 1 + 1 /\ bk < ba from by have h := HBk.out; omega)
 have HM0 := Lib.hid (show yss.all (fun ys => lowV (itpL p (ptV xs) ys) k.toNat) = (yss.take m).all (fun ys => lowV (itpL p (ptV xs) ys) k.toNat) by rw [List.take_of_length_le (by have := HMn.out; omega)])
 obtain ⟨fx0,hfx⟩ : ∃ f : List (Nat × Obj),f = [(bt,Obj.cells #[.pointer q] 46 (0,0)),(bf,Obj.cells #[.int .i64 id,.int .u64 (wd p 0 : Int),.int .u64 (wd p 1 : Int),.int .u64 (wd p 2 : Int),.int .u64 (wd p 3 : Int),.int .u64 (i0 : Int),.int .u64 (wd r 0 : Int),.int .u64 (wd r 1 : Int),.int .u64 (wd r 2 : Int),.int .u64 (wd r 3 : Int),.int .u64 (wd s 0 : Int),.int .u64 (wd s 1 : Int),.int .u64 (wd s 2 : Int),.int .u64 (wd s 3 : Int)] 31 (0,0)),(bx,Obj.cells #[.slice a2 n cap2] 22 (0,0)),(bm,Obj.cells #[.slice a m cap] 44 (0,0)),(bk,Obj.cells #[.int .i64 k] 3 (0,0))] := ⟨_,rfl⟩
 have HE0 := Lib.hid (show AE w W4 fx0 ba (mk ((yss.take 0).all (fun ys => lowV (itpL p (ptV xs) ys) k.toNat))) (.slice a2 n cap2) xs (.slice a m cap) (yss.map (·.map (fm p))) Sl q (ext q es (alE n k 0)) S by
  have hb := HB4.out
  have hoff := HO2.out.trans ho4 (fun _ _ c => c)
  refine ⟨?_,?_,g_ba,by omega,HV.out.off hoff (fun _ _ _ c => c),HU.out.off hoff (fun _ _ _ c => c),HSl.out,⟨S,?_,fun _ c => .inl c⟩,HS.out.2,hoff.mono (fun _ _ c => c.elim)⟩
  ·rw [hfx]; simp only [List.mem_cons,List.not_mem_nil,or_false,forall_eq_or_imp,forall_eq]
   exact ⟨ho4.heap Gt.out (fun c => c),ho4.heap Gf.out (fun c => c),ho4.heap Gx.out (fun c => c),ho4.heap Gm.out (fun c => c),ho4.heap Gk.out (fun c => c)⟩
  ·rw [hfx]; simp only [List.mem_cons,List.not_mem_nil,or_false,forall_eq_or_imp,forall_eq]
   exact ⟨⟨⟨_,_,rfl,by decide,by decide,by decide⟩,by omega,by omega⟩,⟨⟨_,_,rfl,by decide,by decide,by decide⟩,by omega,by omega⟩,⟨⟨_,_,rfl,by decide,by decide,by decide⟩,by omega,by omega⟩,⟨⟨_,_,rfl,by decide,by decide,by decide⟩,by omega,by omega⟩,⟨⟨_,_,rfl,by decide,by decide,by decide⟩,by omega,by omega⟩⟩
  ·rw [show alE n k 0 = [] from rfl,ext_nil]; exact HS.out.off0 hoff)
 have Mbt := Lib.hid (show (bt,Obj.cells #[.pointer q] 46 (0,0)) ∈ fx0 by rw [hfx]; simp)
 have Mbf := Lib.hid (show (bf,Obj.cells #[.int .i64 id,.int .u64 (wd p 0 : Int),.int .u64 (wd p 1 : Int),.int .u64 (wd p 2 : Int),.int .u64 (wd p 3 : Int),.int .u64 (i0 : Int),.int .u64 (wd r 0 : Int),.int .u64 (wd r 1 : Int),.int .u64 (wd r 2 : Int),.int .u64 (wd r 3 : Int),.int .u64 (wd s 0 : Int),.int .u64 (wd s 1 : Int),.int .u64 (wd s 2 : Int),.int .u64 (wd s 3 : Int)] 31 (0,0)) ∈ fx0 by rw [hfx]; simp)
 have Mbx := Lib.hid (show (bx,Obj.cells #[.slice a2 n cap2] 22 (0,0)) ∈ fx0 by rw [hfx]; simp)
 have Mbm := Lib.hid (show (bm,Obj.cells #[.slice a m cap] 44 (0,0)) ∈ fx0 by rw [hfx]; simp)
 have Mbk := Lib.hid (show (bk,Obj.cells #[.int .i64 k] 3 (0,0)) ∈ fx0 by rw [hfx]; simp)
 have HW4 := Lib.hid hW4
 have Hba := Lib.hid hba
 clear hW4 hba ho4 g_ba hsz hfx Gt Gf Gx Gm Gk HV HU HSl HS HBk HB4 HO2
 go_wp2
 clear c_m lm lw1
 rw [<- HW4.out,<- Hba.out]
 go_loopw [26] (fun i wr => ∃ j : Nat,j <= m /\ i = .int .i64 (j : Int) /\ AE w wr fx0 ba (mk ((yss.take j).all (fun ys => lowV (itpL p (ptV xs) ys) k.toNat))) (.slice a2 n cap2) xs (.slice a m cap) (yss.map (·.map (fm p))) Sl q (ext q es (alE n k j)) S) (fun i _ => m - (intOf i).toNat)
 case atStart => exact ⟨0,Nat.zero_le _,rfl,HE0.out⟩
 case round =>
  obtain ⟨j,hj,rfl,hE⟩ := hrel
  by_cases hlt : j < m
  ·obtain ⟨ys,hys⟩ : ∃ ys,yss[j]? = some ys := ⟨_,List.getElem?_eq_getElem (by have := HMn.out; omega)⟩
   have hcall := HA.out fx0 bt bf bx bm bk ba _ wr j ys hys Mbt.out Mbf.out Mbx.out Mbm.out Mbk.out hE
   rw [show (((yss.take j).all (fun ys => lowV (itpL p (ptV xs) ys) k.toNat)) && lowV (itpL p (ptV xs) ys) k.toNat) = (yss.take (j + 1)).all (fun ys => lowV (itpL p (ptV xs) ys) k.toNat) by
    rw [List.take_succ_eq_append_getElem (by have := HMn.out; omega),List.all_append,(List.getElem?_eq_some_iff.1 hys).2]; simp] at hcall
   have hjm : (j : Int) < (m : Int) := by omega
   have hwj : IntKind.i64.wrap ((j : Int) + 1) = (j : Int) + 1 := by rw [IntKind.wrap_i64]; omega
   have HCl := Lib.hid hcall
   clear hE hys hcall
   go_wp2_with fail
   refine HCl.out.mono ?_
   rintro e w5 ⟨rfl,hE2⟩
   have HE2 := Lib.hid hE2
   clear hE2 HCl
   go_wp2
   go_roundw
   case rel => exact ⟨j + 1,by omega,by simp,HE2.out⟩
   case measure => simp [intOf] <;> omega
  ·obtain rfl : m = j := by omega
   rw [<- HM0.out,<- HM.out] at hE
   have k0 := cell1 hE.acc
   have HE := Lib.hid hE
   clear hE
   go_wp2
   refine bodyPost_ret (results_tmp2 rfl _ _ _) rfl ?_
   exact ⟨rfl,HE.out.notedAll,HE.out.off⟩
end
section
open Go.RowKit
theorem none_ext (es : List Ev) : ext none [] es = [] := by simp [ext]
section
variable {id : Int} {p i0 r s : Nat}
theorem below_ls (zs : List Nat) (hz : ∀ z ∈ zs,z < R256) (hl : zs.length <= 1000) (k : Int) (v : Value) (w : World) (hV : Ls w v zs) :
  Calls Tryd.prog 18 #[.pointer none,v,.int .i64 k] w fun e w' => e = .returned (.int .u64 (mk (lowV zs k.toNat))) /\ Off (fun _ => False) w w' := by
 obtain ⟨a,cap,rfl,hM⟩ := hV.open
 refine (below_any zs hz zs.length cap a rfl hl k none [] (fun _ => False) _ w hM none_lst (Tp.none w) (by simp)).mono ?_
 rintro e w' ⟨rfl,_,hO⟩
 exact ⟨rfl,hO⟩
theorem fits_ls (hF : Fld id p i0 r s) (xs : List Int) (hc : chkV xs = 0) (hl : xs.length <= 90) (ys : List Nat) (hy : ys.length = xs.length) (k : Int) (v u : Value) (w : World) (hV : Iv w v xs) (hU : Ls w u (ys.map (fm p))) :
  Calls Tryd.prog 11 #[.pointer none,FV id p i0 r s,v,u,.int .i64 k] w fun e w' => e = .returned (.tuple #[.int .u64 (fitM p xs ys k),.int .i64 0]) /\ Off (fun _ => False) w w' := by
 obtain ⟨a2,cap2,rfl,hL⟩ := hV.open
 obtain ⟨a,cap,rfl,hM⟩ := hU.open
 rw [List.length_map,hy] at hM ⊢
 refine (fits_any hF xs hc xs.length rfl hl ys hy.symm k none [] (fun _ => False) _ a2 a cap2 cap w hV hM none_lst (Tp.none w) (by simp)).mono ?_
 rintro e w' ⟨rfl,_,hO⟩
 exact ⟨rfl,hO⟩
theorem fits_len (xs : List Int) (hc : chkV xs = 0) (hl : xs.length <= 1000) (zs : List Nat) (hy : zs.length ≠ xs.length) (k : Int) (v u : Value) (w : World) (hV : Iv w v xs) (hU : Ls w u zs) :
  Calls Tryd.prog 11 #[.pointer none,FV id p i0 r s,v,u,.int .i64 k] w fun e w' => e = .returned (.tuple #[.int .u64 0,.int .i64 8]) /\ Off (fun _ => False) w w' :=
 fits_no (by decide) none v u k w (fun W h => itp_ls_len xs hc (by omega) zs hy v u W (hV.off h) (hU.off h))
theorem fits_err (xs : List Int) (hc : chkV xs ≠ 0) (hl : xs.length <= 1000) (k : Int) (v u : Value) (w : World) (hV : Iv w v xs) :
  Calls Tryd.prog 11 #[.pointer none,FV id p i0 r s,v,u,.int .i64 k] w fun e w' => e = .returned (.tuple #[.int .u64 0,.int .i64 (chkV xs)]) /\ Off (fun _ => False) w w' :=
 fits_no hc none v u k w (fun W h => itp_err xs hc (by omega) none v u W (hV.off h))
theorem LLs.open {w : World} {v : Value} {zss : List (List Nat)} (h : LLs w v zss) : ∃ a cap,v = .slice a zss.length cap /\ zss.length <= 1000 := by
 obtain ⟨a,cap,hv,h1,_⟩ := h
 exact ⟨a,cap,hv,h1⟩
theorem all_ls (hF : Fld id p i0 r s) (xs : List Int) (hc : chkV xs = 0) (hl : xs.length <= 90) (yss : List (List Nat)) (hy : ∀ ys ∈ yss,ys.length = xs.length) (k : Int) (v u : Value) (w : World) (hV : Iv w v xs) (hU : LLs w u (yss.map (·.map (fm p)))) :
  Calls Tryd.prog 15 #[.pointer none,FV id p i0 r s,v,u,.int .i64 k] w fun e w' => e = .returned (.tuple #[.int .u64 (mk (yss.all (fun ys => lowV (itpL p (ptV xs) ys) k.toNat))),.int .i64 0]) /\ Off (fun _ => False) w w' := by
 obtain ⟨a2,cap2,rfl,hL⟩ := hV.open
 obtain ⟨a,cap,rfl,hm⟩ := hU.open
 rw [List.length_map] at hm hU ⊢
 refine (all_any hF xs hc xs.length rfl hl yss yss.length rfl hm hy k none [] (fun _ => False) (fun b => b < w.heap.size) a2 a cap2 cap w hL (LLs.lt hU) (fun b h => ⟨h,fun c => c⟩) (Tp.none w) (fun j _ => by rw [none_ext]; simp)).mono ?_
 rintro e w' ⟨rfl,_,hO⟩
 exact ⟨rfl,hO⟩
theorem all_len (xs : List Int) (hc : chkV xs = 0) (hl : xs.length <= 90) (zss : List (List Nat)) (hy : ∃ zs ∈ zss,zs.length ≠ xs.length) (k : Int) (v u : Value) (w : World) (hV : Iv w v xs) (hU : LLs w u zss) :
  Calls Tryd.prog 15 #[.pointer none,FV id p i0 r s,v,u,.int .i64 k] w fun e w' => e = .returned (.tuple #[.int .u64 0,.int .i64 8]) /\ Off (fun _ => False) w w' := by
 obtain ⟨a2,cap2,rfl,hL⟩ := hV.open
 obtain ⟨a,cap,rfl,hm⟩ := hU.open
 refine all_no (by decide) none a2 a _ cap2 _ cap k w (fun W h => ?_)
 have g := dcheck_any xs hc xs.length cap2 rfl (by omega) a2 a zss.length cap zss W (hV.off h) (hU.off h)
 rw [if_neg (fun c => by obtain ⟨zs,h1,h2⟩ := hy; exact h2 (c zs h1))] at g
 exact g
theorem all_err (xs : List Int) (hc : chkV xs ≠ 0) (hl : xs.length <= 1000) (k : Int) (v : Value) (a : Option Addr) (m cap : Nat) (w : World) (hV : Iv w v xs) :
  Calls Tryd.prog 15 #[.pointer none,FV id p i0 r s,v,.slice a m cap,.int .i64 k] w fun e w' => e = .returned (.tuple #[.int .u64 0,.int .i64 (chkV xs)]) /\ Off (fun _ => False) w w' := by
 obtain ⟨a2,cap2,rfl,hL⟩ := hV.open
 exact all_no hc none a2 a _ cap2 m cap k w (fun W h => dcheck_no xs hc (by omega) _ _ W (hV.off h))
end
end
section
open Go.RowKit
theorem slice_mid (b off m dap l h q : Nat) (h1 : l <= h) (h2 : h <= dap) (h3 : l < dap) (hq : q = h - l) (W : World) : (Instr.slice 23 (.slice (some ⟨b,off,none⟩) m dap) (some (.int .i64 (l : Int))) (some (.int .i64 (h : Int))) none).run Tryd.prog W = .ok (.slice (some ⟨b,off + l * 4,none⟩) q (dap - l)) W := by
 have he : Tryd.prog.elem 23 = 28 := by simp [Program.elem,Tryd.underlying23]
 rw [run_slice_lh W 23 _ _ _ (by rw [he]; exact Tryd.underlying23) .i64 .i64 _ _ (by omega) (by omega) (by omega),he,Tryd.sizeOf28]
 simp [Result.andThen,sliced,Addr.add_lit,(show dap ≠ l by omega),hq]
theorem ls_mid {w : World} {b off m dap : Nat} {xs : List Nat} (h : Ls w (.slice (some ⟨b,off,none⟩) m dap) xs) (l q c : Nat) (hq : l + q <= m) : Ls w (.slice (some ⟨b,off + l * 4,none⟩) q c) ((xs.drop l).take q) := by
 obtain ⟨hn,hl⟩ := LsAt.len h
 have hlen : ((xs.drop l).take q).length = q := by rw [List.length_take,List.length_drop]; omega
 refine ⟨some ⟨b,off + l * 4,none⟩,c,by rw [hlen],by omega,fun hp => ⟨b,off + l * 4,rfl,trivial,fun j x hj => ?_⟩⟩
 have hjq : j < q := by have := (List.getElem?_eq_some_iff.1 hj).1; omega
 rw [List.getElem?_take,if_pos hjq,List.getElem?_drop] at hj
 obtain ⟨b2,off2,e,_,he⟩ := LsAt.get h hj
 cases e
 rw [show off + l * 4 + j * 4 = off + (l + j) * 4 by omega]
 exact he
def fstV (v : Value) : Value := match v with | .tuple a => a.getD 0 v | _ => v
def sndV (v : Value) : Value := match v with | .tuple a => a.getD 1 v | _ => v
theorem fst_t (a b : Value) : fstV (.tuple #[a,b]) = a := rfl
theorem snd_t (a b : Value) : sndV (.tuple #[a,b]) = b := rfl
/-- What Values answers,as one value; the lists lie in blocks from B on. -/
def PrA (w : World) (v : Value) (q p B : Nat) (ch : List Nat) : Prop := ∃ a c a2 c2,v = .tuple #[.slice a q c,.slice a2 q c2] /\ q <= c /\ LsAt w (.slice a q c) ch (fun k => B <= k) /\ LsAt w (.slice a2 q c2) (ch.map (fm p)) (fun k => B <= k)
theorem PrA.off {w w' : World} {v : Value} {q p B : Nat} {ch : List Nat} (h : PrA w v q p B ch) (ho : Off (fun _ => False) w w') : PrA w' v q p B ch := by
 obtain ⟨a,c,a2,c2,h1,h2,h3,h4⟩ := h
 exact ⟨a,c,a2,c2,h1,h2,h3.off ho (fun _ _ _ c => c),h4.off ho (fun _ _ _ c => c)⟩
def PrT (l : Nat -> Bool) (i : Nat) (v : Value) (w : World) (q p B : Nat) (ch : List Nat) : Prop := l i = true -> PrA w v q p B ch
theorem PrT.new {l : Nat -> Bool} {i : Nat} {v : Value} {w : World} {q p B : Nat} {ch : List Nat} (h : PrA w v q p B ch) : PrT (upd l i) i v w q p B ch := fun _ => h
theorem PrT.keep {l : Nat -> Bool} {i : Nat} {v : Value} {w w' : World} {q p B : Nat} {ch : List Nat} (h : PrT l i v w q p B ch) (ho : Off (fun _ => False) w w') {k : Nat} (hk : (k == i) = false) : PrT (upd l k) i v w' q p B ch := fun hl => by
 rw [upd_k l hk] at hl; exact (h hl).off ho
/-- A slice of the call's own that holds lists of numbers,which lie outside of its block. -/
def SV (w : World) (B : Nat) (v : Value) (j : Nat) (zss : List (List Nat)) : Prop := ∃ xv,w.ownsRow B 34 1 v j xv /\ zss.length = j /\ ∀ (t : Nat) (u : Value),xv[t]? = some u -> ∃ zs,zss[t]? = some zs /\ LsAt w u zs (fun b => v.ownBlock ≠ some b)
theorem SV.off {w w' : World} {B j : Nat} {v : Value} {zss : List (List Nat)} (h : SV w B v j zss) (ho : Off (fun _ => False) w w') : SV w' B v j zss := by
 obtain ⟨xv,h1,h3,h4⟩ := h
 refine ⟨xv,own_off h1 ho,h3,fun t u ht => ?_⟩
 obtain ⟨zs,e1,e2⟩ := h4 t u ht
 exact ⟨zs,e1,e2.off ho (fun _ _ _ c => c)⟩
theorem SV.nil (w : World) (B : Nat) : SV w B (.slice none 0 0) 0 [] := ⟨[],World.ownsRow_nil _ _ _ _,rfl,fun t u h => by simp at h⟩
theorem row_off {w w1 : World} {B j size : Nat} {T : TypeId} {v : Value} {xs : List Value} (h : w.ownsRow B T size v j xs) (hg : w.grownBy w1 v.ownBlock) : Off (fun k => v.ownBlock = some k) w w1 :=
 (Off.refl _ w).grown hg (fun j ej => ⟨fun _ => ej,fun o ho => by
  rcases h.2 with ⟨rfl,_⟩ | ⟨g,cap,cur,rfl,_,hgb,_⟩
  ·simp [Value.ownBlock] at ej
  ·obtain rfl : g = j := by simpa [Value.ownBlock] using ej
   rw [hgb] at ho; cases ho; rfl⟩)
theorem SV.more {w w' : World} {B j : Nat} {v v' : Value} {zss : List (List Nat)} {xv : List Value} {u : Value} {zs : List Nat} (h0 : w.ownsRow B 34 1 v j xv) (h1 : w'.ownsRow B 34 1 v' (j + 1) (xv ++ [u])) (h3 : zss.length = j) (h4 : ∀ (t : Nat) (u : Value),xv[t]? = some u -> ∃ zs,zss[t]? = some zs /\ LsAt w u zs (fun b => v.ownBlock ≠ some b)) (hg : w.grownBy w' v.ownBlock) (hb : v'.ownBlock = v.ownBlock ∨ v'.ownBlock = some w.heap.size) (hu : LsAt w u zs (fun b => v.ownBlock ≠ some b)) : SV w' B v' (j + 1) (zss ++ [zs]) := by
 have ho := row_off h0 hg
 have hx : xv.length = j := by have := h0.1; omega
 have hmv : ∀ {u : Value} {zs : List Nat},LsAt w u zs (fun b => v.ownBlock ≠ some b) -> LsAt w' u zs (fun b => v'.ownBlock ≠ some b) := fun {u zs} h => by
  have h5 : LsAt w u zs (fun b => v.ownBlock ≠ some b /\ b < w.heap.size) := LsAt.mono h (fun k hk c => ⟨c,hk⟩)
  refine LsAt.mono (h5.off ho (fun k _ c d => c.1 d)) (fun k _ c e => ?_)
  rcases hb with hb | hb
  ·exact c.1 (hb ▸ e)
  ·rw [hb] at e; cases e; have := c.2; omega
 refine ⟨xv ++ [u],h1,by rw [List.length_append,h3]; rfl,fun t y ht => ?_⟩
 by_cases h : t < j
 ·rw [List.getElem?_append_left (by omega)] at ht
  obtain ⟨z,e1,e2⟩ := h4 t y ht
  exact ⟨z,by rw [List.getElem?_append_left (by omega)]; exact e1,hmv e2⟩
 ·have hl := (List.getElem?_eq_some_iff.1 ht).1
  rw [List.length_append,hx] at hl
  have e : t = j := by simp at hl; omega
  rw [e] at ht ⊢
  rw [List.getElem?_append_right (by omega),hx,Nat.sub_self] at ht
  rw [List.getElem?_append_right (by omega),h3,Nat.sub_self]
  cases ht
  exact ⟨zs,rfl,hmv hu⟩
theorem SV.toLLs {w : World} {B j cap : Nat} {a : Option Addr} {zss : List (List Nat)} (h : SV w B (.slice a j cap) j zss) (hj : j <= 1000) : LLs w (.slice a j cap) zss := by
 obtain ⟨xv,h1,h3,h4⟩ := h
 refine ⟨a,cap,by rw [h3],by omega,fun hp => ?_⟩
 obtain ⟨m,rfl⟩ : ∃ m,j = m + 1 := ⟨j - 1,by omega⟩
 obtain ⟨g,c,e⟩ := ownsRow_succ h1
 simp at e
 obtain ⟨rfl,rfl⟩ := e
 have hc := h1.cells (g := g) rfl
 have hlen := h1.1
 refine ⟨g,0,rfl,trivial,fun t ys ht => ?_⟩
 have htl := (List.getElem?_eq_some_iff.1 ht).1
 obtain ⟨u,hu⟩ : ∃ u,xv[t]? = some u := ⟨_,List.getElem?_eq_getElem (by omega)⟩
 obtain ⟨zs,e1,e2⟩ := h4 t u hu
 rw [ht] at e1; cases e1
 have k0 := hc _ _ hu
 rw [Addr.add_lit] at k0
 exact ⟨u,k0,Ls.of e2⟩
theorem one_cell (a : Option Addr) (n c : Nat) : ∀ u ∈ [Value.slice a n c],u.oneCell' = true := fun u hu => by
 rw [List.mem_singleton.1 hu]; rfl
theorem lists_info : (Tryd.prog.info? 34).map (fun i => (i.zero,i.size,i.bytes)) = some (some (.slice none 0 0),1,24) := by kernel_rfl
end
end Go.Proofs.YtggebccgiigboaaDoor
-- squeezed
