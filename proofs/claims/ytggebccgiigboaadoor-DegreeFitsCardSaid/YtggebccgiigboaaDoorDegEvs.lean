/-
  The reference's lists of events of layer 9: those of Weights, Zero and Interpolate for n points. Condition: n is at most 90.
  Rows of events that are put behind a row of the call's own, also if there are none. Condition: the rows are short.
  The reference's lists of events of layer 10, newly made. Condition: the numbers of points and lists are small.
-/
import Derived.Test.YtggebccgiigboaaDoorLagBase
import Derived.Test.YtggebccgiigboaaDoorPolLists
import Derived.Laws.OwnMore
import Derived.Lib.AppendZeros
namespace Go.Proofs.YtggebccgiigboaaDoor
section
open Go.RowKit
set_option maxRecDepth 100000 in
set_option maxHeartbeats 4000000 in
theorem pairs_true (n : Nat) (hn2 : n <= 90) (w : World) :
  Calls Tryd.prog 67 #[.int .i64 (n : Int),.int .i64 (n : Int),.bool true] w fun e w' => ∃ a c,e = .returned (.slice a (wpE n n).length c) /\ w'.ownsRow w.heap.size 77 3 (.slice a (wpE n n).length c) (wpE n n).length (flat (wpE n n)) /\ Off (fun _ => False) w w' := by
 obtain ⟨i0,hi,hz0,hz1,hz2⟩ := info_parts ev_info
 go_enter Tryd.func67,Tryd.ntmps67
 go_wp2
 go_loopw [7,8] (fun v i wr => ∃ j q : Nat,j <= n /\ i = .int .i64 (j : Int) /\ q = (wpE n j).length /\ (∃ a c,v = .slice a q c /\ wr.ownsRow w.heap.size 77 3 v q (flat (wpE n j))) /\ Off (fun _ => False) w wr) (fun _ i _ => n - (intOf i).toNat)
 case atStart => exact ⟨0,0,Nat.zero_le _,rfl,rfl,⟨none,0,rfl,World.ownsRow_nil _ _ _ _⟩,Off.refl _ w⟩
 case round =>
  obtain ⟨j,q0,hj,rfl,hq0,⟨va,vc,rfl,hown⟩,hO⟩ := hrel
  by_cases hlt : j < n
  ·have hjb : (j : Int) < (n : Int) := by omega
   have hwj : IntKind.i64.wrap ((j : Int) + 1) = (j : Int) + 1 := by rw [IntKind.wrap_i64]; omega
   have hl0 : q0 <= 8100 := by rw [hq0]; exact Nat.le_trans (wpE_length n j) (Nat.mul_le_mul (show j <= 90 by omega) hn2)
   obtain ⟨L0,hL0⟩ : ∃ l,l = wpE n j := ⟨_,rfl⟩
   rw [<- hL0] at hown hq0
   have HPr := Lib.hid (show wpE n (j + 1) = L0 ++ opE n j (oth n j) by rw [hL0]; rfl)
   have H3 := Lib.hid hown
   have HO := Lib.hid hO
   have HQ0 := Lib.hid hq0
   clear hown hO hL0 hq0
   go_wp2
   go_loopw [7,9] (fun v i wr => ∃ k q : Nat,k <= n /\ i = .int .i64 (k : Int) /\ q = (L0 ++ opE n j (oth k j)).length /\ (∃ a c,v = .slice a q c /\ wr.ownsRow w.heap.size 77 3 v q (flat (L0 ++ opE n j (oth k j)))) /\ Off (fun _ => False) w wr) (fun _ i _ => n - (intOf i).toNat)
   case atStart => exact ⟨0,q0,Nat.zero_le _,rfl,by rw [show opE n j (oth 0 j) = [] from rfl,List.append_nil]; exact HQ0.out,⟨_,_,rfl,by rw [show opE n j (oth 0 j) = [] from rfl,List.append_nil]; exact H3.out⟩,HO.out⟩
   case round =>
    obtain ⟨k,q,hk,rfl,hq,⟨va2,vc2,rfl,hown⟩,hO⟩ := hrel
    clear H3 HO
    by_cases hlt2 : k < n
    ·have hql : q <= 30000 := by
      have h1 := oth_le k j
      rw [hq,List.length_append,opE_length,<- HQ0.out]; omega
     have hkb : (k : Int) < (n : Int) := by omega
     have hwk : IntKind.i64.wrap ((k : Int) + 1) = (k : Int) + 1 := by rw [IntKind.wrap_i64]; omega
     by_cases hjk : k = j
     ·subst hjk
      have HN := Lib.hid (show q = (L0 ++ opE n k (oth (k + 1) k)).length by rw [oth_next,if_pos rfl]; exact hq)
      have H3 := Lib.hid (show _ from (show L0 ++ opE n k (oth k k) = L0 ++ opE n k (oth (k + 1) k) by rw [oth_next,if_pos rfl]) ▸ hown)
      have HO := Lib.hid hO
      clear hown hO hq
      go_wp2
      go_roundw
      case rel => exact ⟨k + 1,q,by omega,by simp,HN.out,⟨_,_,rfl,H3.out⟩,HO.out⟩
      case measure => simp [intOf] <;> omega
     ·have hkj1 : ¬ (j : Int) = (k : Int) := by omega
      have hkj2 : ((j : Int) == (k : Int)) = false := by simp; omega
      have HN := Lib.hid (show q + 1 = (L0 ++ opE n j (oth (k + 1) j)).length by rw [oth_next,if_neg hjk,opE_snoc,<- List.append_assoc,List.length_append,<- hq]; rfl)
      have HF := Lib.hid (show flat (L0 ++ opE n j (oth k j)) ++ flat [((3 : Int),(j : Int),(k : Int))] = flat (L0 ++ opE n j (oth (k + 1) j)) by rw [<- flat_append,oth_next,if_neg hjk,opE_snoc,List.append_assoc,Nat.mod_eq_of_lt hlt2])
      have H3 := Lib.hid hown
      have HO := Lib.hid hO
      clear hown hO hq
      go_wp2_with (at_builtin; refine wpList_append_own _ rfl _ _ 51 rfl w.heap.size 77 i0 _ 3 24 Tryd.underlying51 hi hz0 hz1 hz2 rfl (by decide) _ q _ rfl (H3.out.alloc _) ⟨wr.heap.size,0,none⟩ 1 1 (flat [((3 : Int),(j : Int),(k : Int))]) rfl rfl ?q1 (flat_one _) ?q2 ?q3 ?q4 ?_)
      case q1 =>
       intro j u hj
       have : j = 0 ∨ j = 1 ∨ j = 2 := by
        have := (List.getElem?_eq_some_iff.1 hj).1
        simp [flat] at this; omega
       rcases this with rfl | rfl | rfl <;> simp [flat] at hj <;> subst hj <;> simp [go_sem]
      case q2 => unfold maxLen; omega
      case q3 => omega
      case q4 => have := HO.out.size; simp; omega
      intro v' w1 hown' hgrow hnil
      obtain ⟨g',cap',rfl⟩ := ownsRow_succ hown'
      have hO1 : Off (fun _ => False) w w1 := grown_off (HO.out.alloc _) (Nat.le_refl _) (H3.out.alloc _) hgrow
      have HO1 := Lib.hid hO1
      have HW1 := Lib.hid hown'
      clear hown' hgrow hnil hO1
      go_wp2
      go_roundw
      case rel => exact ⟨k + 1,q + 1,by omega,by simp,HN.out,⟨_,_,rfl,by rw [<- HF.out]; exact HW1.out⟩,HO1.out⟩
      case measure => simp [intOf] <;> omega
    ·obtain rfl : k = n := by omega
     have H5 := Lib.hid hown
     have HO5 := Lib.hid hO
     have HQ5 := Lib.hid hq
     clear hown hO hq
     go_wp2
     go_roundw
     case rel => exact ⟨j + 1,q,by omega,by simp,by rw [HPr.out]; exact HQ5.out,⟨_,_,rfl,by rw [HPr.out]; exact H5.out⟩,HO5.out⟩
     case measure => simp [intOf] <;> omega
  ·obtain rfl : j = n := by omega
   subst hq0
   have H5 := Lib.hid hown
   have HO5 := Lib.hid hO
   clear hown hO
   go_wp2
   go_ret
   exact ⟨_,_,rfl,H5.out,HO5.out⟩
set_option maxRecDepth 100000 in
set_option maxHeartbeats 4000000 in
theorem wevents_some (n : Nat) (h0 : 0 < n) (hn2 : n <= 90) (w : World) :
  Calls Tryd.prog 66 #[.int .i64 (n : Int)] w fun e w' => ∃ a c,e = .returned (.slice a ((wpE n n) ++ (batE n)).length c) /\ w'.ownsRow w.heap.size 77 3 (.slice a ((wpE n n) ++ (batE n)).length c) ((wpE n n) ++ (batE n)).length (flat ((wpE n n) ++ (batE n))) /\ Off (fun _ => False) w w' := by
 obtain ⟨i0,hi,hz0,hz1,hz2⟩ := info_parts ev_info
 obtain ⟨L1,hL1⟩ : ∃ l,l = wpE n n := ⟨_,rfl⟩
 obtain ⟨L2,hL2⟩ : ∃ l,l = batE n := ⟨_,rfl⟩
 have hl1 : L1.length <= 20000 := by
  rw [hL1]
  have a1 := wpE_length n n; have a2 : n * n <= 90 * 90 := Nat.mul_le_mul (by omega) (by omega); have a3 := batE_le n
  try simp only [List.length_append]
  omega
 have hl2 : L2.length <= 20000 := by
  rw [hL2]
  have a2 : n * n <= 90 * 90 := Nat.mul_le_mul (by omega) (by omega); have a3 := batE_le n
  try rw [upE_length]
  try rw [prE_length]
  omega
 obtain ⟨m,hm⟩ : ∃ m,L2.length = m + 1 := by
  have : 0 < L2.length := by
   rw [hL2]
   unfold batE; rw [if_neg (by omega)]; simp only [List.length_append,powE_length]; omega
  exact ⟨L2.length - 1,by omega⟩
 have F1 := Lib.hid (show ∀ W,Calls Tryd.prog 67 #[.int .i64 (n : Int),.int .i64 (n : Int),.bool true] W fun e w' => ∃ a c,e = .returned (.slice a (L1).length c) /\ w'.ownsRow W.heap.size 77 3 (.slice a (L1).length c) (L1).length (flat (L1)) /\ Off (fun _ => False) W w' from fun W => by rw [hL1]; exact pairs_true n hn2 W)
 have F2 := Lib.hid (show ∀ W,Calls Tryd.prog 85 #[.int .i64 (n : Int)] W fun e w' => ∃ v,e = .returned v /\ w'.ownsRow W.heap.size 77 3 v (m + 1) (flat L2) /\ Off (fun _ => False) W w' from fun W => by
  rw [<- hm,hL2]; exact batchevents_any n (by omega) W)
 rw [<- hL1,<- hL2,List.length_append,hm]
 have HM := Lib.hid hm
 clear hL1 hL2 hm
 obtain ⟨k,hk⟩ : ∃ k,k = L1.length := ⟨_,rfl⟩
 rw [<- hk] at hl1 ⊢
 rw [<- hk] at F1
 clear hk
 have hml : m <= 20000 := by have := HM.out; omega
 clear hl2
 go_enter Tryd.func66,Tryd.ntmps66
 go_wp2_with fail
 refine (F1.out _).mono ?_
 rintro e u1 ⟨a1,c1,rfl,hown,hO⟩
 have H3 := Lib.hid hown
 have HO := Lib.hid hO
 clear hown hO
 go_wp2_with fail
 refine (F2.out _).mono ?_
 rintro e u2 ⟨pv,rfl,hpo,hOp⟩
 obtain ⟨g2,c2,rfl⟩ := ownsRow_succ hpo
 have hpc := hpo.cells (g := g2) rfl
 have H4 := Lib.hid (own_off H3.out hOp)
 have HO4 := Lib.hid (HO.out.trans hOp (fun _ _ c => c))
 clear hOp
 go_wp2_with (at_builtin; refine wpList_append_own _ rfl _ _ 51 rfl w.heap.size 77 i0 _ 3 24 Tryd.underlying51 hi hz0 hz1 hz2 rfl (by decide) _ k _ rfl H4.out ⟨g2,0,none⟩ (m + 1) c2 (flat L2) rfl (by rw [flat_length,HM.out]) hpc (flat_one _) ?q2 ?q3 ?q4 ?_)
 case q2 => unfold maxLen; omega
 case q3 => omega
 case q4 => exact HO4.out.size
 intro v' w1 hown' hgrow hnil
 have hO1 : Off (fun _ => False) w w1 := grown_off HO4.out (Nat.le_refl _) H4.out hgrow
 rw [<- flat_append,<- Nat.add_assoc] at hown'
 obtain ⟨g',cap',rfl⟩ := ownsRow_succ hown'
 have HO1 := Lib.hid hO1
 have HW1 := Lib.hid hown'
 clear hown' hgrow hnil hO1 hpo hpc
 go_wp2
 go_ret
 exact ⟨_,_,rfl,HW1.out,HO1.out⟩
set_option maxRecDepth 100000 in
set_option maxHeartbeats 4000000 in
theorem ievents_some (n : Nat) (h0 : 0 < n) (hn2 : n <= 90) (w : World) :
  Calls Tryd.prog 42 #[.int .i64 (n : Int)] w fun e w' => ∃ a c,e = .returned (.slice a ((wpE n n ++ batE n) ++ (prE n n)).length c) /\ w'.ownsRow w.heap.size 77 3 (.slice a ((wpE n n ++ batE n) ++ (prE n n)).length c) ((wpE n n ++ batE n) ++ (prE n n)).length (flat ((wpE n n ++ batE n) ++ (prE n n))) /\ Off (fun _ => False) w w' := by
 obtain ⟨i0,hi,hz0,hz1,hz2⟩ := info_parts ev_info
 obtain ⟨L1,hL1⟩ : ∃ l,l = wpE n n ++ batE n := ⟨_,rfl⟩
 obtain ⟨L2,hL2⟩ : ∃ l,l = prE n n := ⟨_,rfl⟩
 have hl1 : L1.length <= 20000 := by
  rw [hL1]
  have a1 := wpE_length n n; have a2 : n * n <= 90 * 90 := Nat.mul_le_mul (by omega) (by omega); have a3 := batE_le n
  try simp only [List.length_append]
  omega
 have hl2 : L2.length <= 20000 := by
  rw [hL2]
  have a2 : n * n <= 90 * 90 := Nat.mul_le_mul (by omega) (by omega); have a3 := batE_le n
  try rw [upE_length]
  try rw [prE_length]
  omega
 obtain ⟨m,hm⟩ : ∃ m,L2.length = m + 1 := by
  have : 0 < L2.length := by
   rw [hL2]
   rw [prE_length]; exact Nat.mul_pos h0 h0
  exact ⟨L2.length - 1,by omega⟩
 have F1 := Lib.hid (show ∀ W,Calls Tryd.prog 66 #[.int .i64 (n : Int)] W fun e w' => ∃ a c,e = .returned (.slice a (L1).length c) /\ w'.ownsRow W.heap.size 77 3 (.slice a (L1).length c) (L1).length (flat (L1)) /\ Off (fun _ => False) W w' from fun W => by rw [hL1]; exact wevents_some n h0 hn2 W)
 have F2 := Lib.hid (show ∀ W,Calls Tryd.prog 67 #[.int .i64 (n : Int),.int .i64 (n : Int),.bool false] W fun e w' => ∃ v,e = .returned v /\ w'.ownsRow W.heap.size 77 3 v (m + 1) (flat L2) /\ Off (fun _ => False) W w' from fun W => by
  rw [<- hm,hL2]; rw [prE_length]; exact pairs_any n n (by omega) (by omega) W)
 rw [<- hL1,<- hL2,List.length_append,hm]
 have HM := Lib.hid hm
 clear hL1 hL2 hm
 obtain ⟨k,hk⟩ : ∃ k,k = L1.length := ⟨_,rfl⟩
 rw [<- hk] at hl1 ⊢
 rw [<- hk] at F1
 clear hk
 have hml : m <= 20000 := by have := HM.out; omega
 clear hl2
 go_enter Tryd.func42,Tryd.ntmps42
 go_wp2_with fail
 refine (F1.out _).mono ?_
 rintro e u1 ⟨a1,c1,rfl,hown,hO⟩
 have H3 := Lib.hid hown
 have HO := Lib.hid hO
 clear hown hO
 go_wp2_with fail
 refine (F2.out _).mono ?_
 rintro e u2 ⟨pv,rfl,hpo,hOp⟩
 obtain ⟨g2,c2,rfl⟩ := ownsRow_succ hpo
 have hpc := hpo.cells (g := g2) rfl
 have H4 := Lib.hid (own_off H3.out hOp)
 have HO4 := Lib.hid (HO.out.trans hOp (fun _ _ c => c))
 clear hOp
 go_wp2_with (at_builtin; refine wpList_append_own _ rfl _ _ 51 rfl w.heap.size 77 i0 _ 3 24 Tryd.underlying51 hi hz0 hz1 hz2 rfl (by decide) _ k _ rfl H4.out ⟨g2,0,none⟩ (m + 1) c2 (flat L2) rfl (by rw [flat_length,HM.out]) hpc (flat_one _) ?q2 ?q3 ?q4 ?_)
 case q2 => unfold maxLen; omega
 case q3 => omega
 case q4 => exact HO4.out.size
 intro v' w1 hown' hgrow hnil
 have hO1 : Off (fun _ => False) w w1 := grown_off HO4.out (Nat.le_refl _) H4.out hgrow
 rw [<- flat_append,<- Nat.add_assoc] at hown'
 obtain ⟨g',cap',rfl⟩ := ownsRow_succ hown'
 have HO1 := Lib.hid hO1
 have HW1 := Lib.hid hown'
 clear hown' hgrow hnil hO1 hpo hpc
 go_wp2
 go_ret
 exact ⟨_,_,rfl,HW1.out,HO1.out⟩
set_option maxRecDepth 100000 in
set_option maxHeartbeats 4000000 in
theorem pairs0 (w : World) : Calls Tryd.prog 67 #[.int .i64 0,.int .i64 0,.bool true] w fun e w' => e = .returned (.slice none 0 0) /\ Off (fun _ => False) w w' := by
 go_enter Tryd.func67,Tryd.ntmps67
 go_wp2
 go_loopw [7,8] (fun v i wr => i = .int .i64 0 /\ v = .slice none 0 0 /\ Off (fun _ => False) w wr) (fun _ _ _ => 0)
 case atStart => exact ⟨rfl,rfl,Off.refl _ _⟩
 obtain ⟨rfl,rfl,hO⟩ := hrel
 have HO := Lib.hid hO
 clear hO
 go_wp2
 go_ret
 exact ⟨rfl,HO.out⟩
set_option maxRecDepth 100000 in
set_option maxHeartbeats 4000000 in
theorem pairs00 (w : World) : Calls Tryd.prog 67 #[.int .i64 0,.int .i64 0,.bool false] w fun e w' => e = .returned (.slice none 0 0) /\ Off (fun _ => False) w w' := by
 go_enter Tryd.func67,Tryd.ntmps67
 go_wp2
 go_loopw [7,8] (fun v i wr => i = .int .i64 0 /\ v = .slice none 0 0 /\ Off (fun _ => False) w wr) (fun _ _ _ => 0)
 case atStart => exact ⟨rfl,rfl,Off.refl _ _⟩
 obtain ⟨rfl,rfl,hO⟩ := hrel
 have HO := Lib.hid hO
 clear hO
 go_wp2
 go_ret
 exact ⟨rfl,HO.out⟩
set_option maxRecDepth 100000 in
set_option maxHeartbeats 4000000 in
theorem batch0 (w : World) : Calls Tryd.prog 85 #[.int .i64 0] w fun e w' => e = .returned (.slice none 0 0) /\ Off (fun _ => False) w w' := by
 go_enter Tryd.func85,Tryd.ntmps85
 have HO := Lib.hid (Off.refl (fun _ => False) w)
 go_wp2
 go_ret
 exact ⟨rfl,HO.out⟩
set_option maxRecDepth 100000 in
set_option maxHeartbeats 4000000 in
theorem wevents0 (w : World) : Calls Tryd.prog 66 #[.int .i64 0] w fun e w' => e = .returned (.slice none 0 0) /\ Off (fun _ => False) w w' := by
 go_enter Tryd.func66,Tryd.ntmps66
 go_wp2_with fail
 refine (pairs0 _).mono ?_
 rintro e u ⟨rfl,hO⟩
 have HO := Lib.hid (hO)
 clear hO
 go_wp2_with fail
 refine (batch0 _).mono ?_
 rintro e u ⟨rfl,hO⟩
 have HO := Lib.hid (HO.out.trans hO (fun _ _ c => c))
 clear hO
 go_wp2
 go_ret
 exact ⟨rfl,HO.out⟩
set_option maxRecDepth 100000 in
set_option maxHeartbeats 4000000 in
theorem ievents0 (w : World) : Calls Tryd.prog 42 #[.int .i64 0] w fun e w' => e = .returned (.slice none 0 0) /\ Off (fun _ => False) w w' := by
 go_enter Tryd.func42,Tryd.ntmps42
 go_wp2_with fail
 refine (wevents0 _).mono ?_
 rintro e u ⟨rfl,hO⟩
 have HO := Lib.hid (hO)
 clear hO
 go_wp2_with fail
 refine (pairs00 _).mono ?_
 rintro e u ⟨rfl,hO⟩
 have HO := Lib.hid (HO.out.trans hO (fun _ _ c => c))
 clear hO
 go_wp2
 go_ret
 exact ⟨rfl,HO.out⟩
end
section
open Go.RowKit
theorem append_rows {w : World} {B B2 k m : Nat} {T2 : TypeId} {v u : Value} {xs ys : List Value} (h : w.ownsRow B 77 3 v k xs) (h2 : w.ownsRow B2 T2 3 u m ys) (h1 : ∀ y ∈ ys,y.oneCell' = true) (hk : k + m <= 1000000) (hB : B <= w.heap.size) :
  ∃ v' w',(Builtin.append_ #[51,51] 51 #[v,u]).run Tryd.prog w = .ok v' w' /\ w'.ownsRow B 77 3 v' (k + m) (xs ++ ys) /\ w.grownBy w' v.ownBlock := by
 obtain ⟨i0,hi,hz0,hz1,hz2⟩ := info_parts ev_info
 rcases h2.2 with ⟨rfl,hm⟩ | ⟨g,cap,cur,rfl,_⟩
 ·have hys : ys = [] := by
   have := h2.1; rw [hm,Nat.zero_mul] at this
   exact List.eq_nil_of_length_eq_zero this
  subst hm hys
  exact ⟨v,w,run_append_owned_none w B _ _ _ i0 3 Tryd.underlying51 hi v k xs h,by rw [List.append_nil]; exact h,⟨rfl,rfl,rfl,Nat.le_refl _,fun _ _ _ => rfl⟩⟩
 ·obtain ⟨v',w',hr,ho,hg,_⟩ := run_append_own (P := Tryd.prog) w B 51 51 77 i0 _ 3 24 Tryd.underlying51 hi hz0 hz1 hz2 rfl (by decide) v k xs h ⟨g,0,none⟩ m cap ys h2.1 (h2.cells (g := g) rfl) h1 (by unfold maxLen; omega) (by omega) hB
  exact ⟨v',w',hr,ho,hg⟩
end
section
open Go.RowKit
/-- The events of Below for n elements,of Fits for n points,of All for m lists. -/
def blE (n : Nat) (k : Int) : List Ev := ((List.range n).filter (fun i => decide (k <= ((i : Nat) : Int)))).map (fun i => ((2 : Int),((i : Nat) : Int),(0 : Int)))
def iE (n : Nat) : List Ev := (wpE n n ++ batE n) ++ prE n n
def ftE (n : Nat) (k : Int) : List Ev := iE n ++ blE n k
def alE (n : Nat) (k : Int) : Nat -> List Ev
 | 0 => []
 | i + 1 => alE n k i ++ ((4 : Int),(i : Int),(0 : Int)) :: ftE n k
theorem blE_next (j : Nat) (k : Int) : blE (j + 1) k = if k <= (j : Int) then blE j k ++ [((2 : Int),(j : Int),(0 : Int))] else blE j k := by
 unfold blE
 rw [List.range_succ,List.filter_append]
 by_cases h : k <= (j : Int)
 ·rw [if_pos h]; simp [h]
 ·rw [if_neg h]; simp [h]
theorem blE_le (n : Nat) (k : Int) : (blE n k).length <= n := by
 unfold blE
 rw [List.length_map]
 exact Nat.le_trans (List.length_filter_le _ _) (by simp)
theorem iE_le {n : Nat} (hn : n <= 90) : (iE n).length <= 20000 := by
 unfold iE
 have a1 := wpE_length n n; have a2 : n * n <= 90 * 90 := Nat.mul_le_mul hn hn; have a3 := batE_le n
 rw [List.length_append,List.length_append,prE_length]
 omega
theorem ftE_le {n : Nat} (hn : n <= 90) (k : Int) : (ftE n k).length <= 20090 := by
 have h1 := iE_le hn; have h2 := blE_le n k
 unfold ftE; rw [List.length_append]; omega
theorem alE_le {n : Nat} (hn : n <= 90) (k : Int) : ∀ m,(alE n k m).length <= m * 20091
 | 0 => by simp [alE]
 | m + 1 => by
  have h1 := alE_le hn k m; have h2 := ftE_le hn k
  unfold alE; rw [List.length_append,List.length_cons,Nat.add_mul]; omega
set_option maxRecDepth 100000 in
set_option maxHeartbeats 4000000 in
theorem bevents_own (n : Nat) (hn : n <= 1000) (k : Int) (w : World) :
  Calls Tryd.prog 21 #[.int .i64 (n : Int),.int .i64 k] w fun e w' => ∃ a c,e = .returned (.slice a (blE n k).length c) /\ w'.ownsRow w.heap.size 77 3 (.slice a (blE n k).length c) (blE n k).length (flat (blE n k)) /\ Off (fun _ => False) w w' := by
 obtain ⟨i0,hi,hz0,hz1,hz2⟩ := info_parts ev_info
 go_enter Tryd.func21,Tryd.ntmps21
 go_wp2
 go_loopw [5,6] (fun v i wr => ∃ j q : Nat,j <= n /\ i = .int .i64 (j : Int) /\ q = (blE j k).length /\ (∃ a c,v = .slice a q c /\ wr.ownsRow w.heap.size 77 3 v q (flat (blE j k))) /\ Off (fun _ => False) w wr) (fun _ i _ => n - (intOf i).toNat)
 case atStart => exact ⟨0,0,Nat.zero_le _,rfl,rfl,⟨none,0,rfl,World.ownsRow_nil _ _ _ _⟩,Off.refl _ w⟩
 case round =>
  obtain ⟨j,q,hj,rfl,hq,⟨va,vc,rfl,hown⟩,hO⟩ := hrel
  by_cases hlt : j < n
  ·have hjb : (j : Int) < (n : Int) := by omega
   have hwj : IntKind.i64.wrap ((j : Int) + 1) = (j : Int) + 1 := by rw [IntKind.wrap_i64]; omega
   have hql : q <= 1000 := by have := blE_le j k; omega
   by_cases hkj : k <= (j : Int)
   ·have HN := Lib.hid (show q + 1 = (blE (j + 1) k).length by rw [blE_next,if_pos hkj,List.length_append,<- hq]; rfl)
    have HF := Lib.hid (show flat (blE j k) ++ flat [((2 : Int),(j : Int),(0 : Int))] = flat (blE (j + 1) k) by rw [<- flat_append,blE_next,if_pos hkj])
    have H3 := Lib.hid hown
    have HO := Lib.hid hO
    clear hown hO hq
    go_wp2_with (at_builtin; refine wpList_append_own _ rfl _ _ 51 rfl w.heap.size 77 i0 _ 3 24 Tryd.underlying51 hi hz0 hz1 hz2 rfl (by decide) _ q _ rfl (H3.out.alloc _) ⟨wr.heap.size,0,none⟩ 1 1 (flat [((2 : Int),(j : Int),(0 : Int))]) rfl rfl ?q1 (flat_one _) ?q2 ?q3 ?q4 ?_)
    case q1 =>
     intro j u hj
     have : j = 0 ∨ j = 1 ∨ j = 2 := by
      have := (List.getElem?_eq_some_iff.1 hj).1
      simp [flat] at this; omega
     rcases this with rfl | rfl | rfl <;> simp [flat] at hj <;> subst hj <;> simp [go_sem]
    case q2 => unfold maxLen; omega
    case q3 => omega
    case q4 => have := HO.out.size; simp; omega
    intro v' w1 hown' hgrow hnil
    obtain ⟨g',cap',rfl⟩ := ownsRow_succ hown'
    have hO1 : Off (fun _ => False) w w1 := grown_off (HO.out.alloc _) (Nat.le_refl _) (H3.out.alloc _) hgrow
    have HO1 := Lib.hid hO1
    have HW1 := Lib.hid hown'
    clear hown' hgrow hnil hO1
    go_wp2
    go_roundw
    case rel => exact ⟨j + 1,q + 1,by omega,by simp,HN.out,⟨_,_,rfl,by rw [<- HF.out]; exact HW1.out⟩,HO1.out⟩
    case measure => simp [intOf] <;> omega
   ·have HN := Lib.hid (show q = (blE (j + 1) k).length by rw [blE_next,if_neg hkj]; exact hq)
    have H3 := Lib.hid (show wr.ownsRow w.heap.size 77 3 (.slice va q vc) q (flat (blE (j + 1) k)) by rw [blE_next,if_neg hkj]; exact hown)
    have HO := Lib.hid hO
    clear hown hO hq
    go_wp2
    go_roundw
    case rel => exact ⟨j + 1,q,by omega,by simp,HN.out,⟨_,_,rfl,H3.out⟩,HO.out⟩
    case measure => simp [intOf] <;> omega
  ·obtain rfl : j = n := by omega
   subst hq
   have H5 := Lib.hid hown
   have HO5 := Lib.hid hO
   clear hown hO
   go_wp2
   go_ret
   exact ⟨_,_,rfl,H5.out,HO5.out⟩
theorem ievents_own (n : Nat) (hn : n <= 90) (w : World) :
  Calls Tryd.prog 42 #[.int .i64 (n : Int)] w fun e w' => ∃ a c,e = .returned (.slice a (iE n).length c) /\ w'.ownsRow w.heap.size 77 3 (.slice a (iE n).length c) (iE n).length (flat (iE n)) /\ Off (fun _ => False) w w' := by
 by_cases h : n = 0
 ·subst h
  refine (ievents0 w).mono ?_
  rintro e w' ⟨rfl,hO⟩
  exact ⟨none,0,rfl,World.ownsRow_nil _ _ _ _,hO⟩
 ·refine (ievents_some n (by omega) hn w).mono ?_
  rintro e w' ⟨a,c,rfl,hown,hO⟩
  exact ⟨a,c,rfl,hown,hO⟩
set_option maxRecDepth 100000 in
set_option maxHeartbeats 4000000 in
theorem fevents_own (n : Nat) (hn : n <= 90) (k : Int) (w : World) :
  Calls Tryd.prog 22 #[.int .i64 (n : Int),.int .i64 k] w fun e w' => ∃ v,e = .returned v /\ w'.ownsRow w.heap.size 77 3 v (ftE n k).length (flat (ftE n k)) /\ Off (fun _ => False) w w' := by
 have F1 := Lib.hid (fun W => ievents_own n hn W)
 have F2 := Lib.hid (fun W => bevents_own n (by omega) k W)
 have hl1 := iE_le hn
 have hl2 := blE_le n k
 have HLn := Lib.hid (show (ftE n k).length = (iE n).length + (blE n k).length from List.length_append)
 obtain ⟨q1,hq1⟩ : ∃ q,q = (iE n).length := ⟨_,rfl⟩
 obtain ⟨q2,hq2⟩ : ∃ q,q = (blE n k).length := ⟨_,rfl⟩
 rw [<- hq1] at F1 HLn hl1
 rw [<- hq2] at F2 HLn hl2
 clear hq1 hq2
 go_enter Tryd.func22,Tryd.ntmps22
 go_wp2_with fail
 refine (F1.out _).mono ?_
 rintro e u1 ⟨a1,c1,rfl,hown,hO⟩
 have H3 := Lib.hid hown
 have HO := Lib.hid hO
 clear hown hO
 go_wp2_with fail
 refine (F2.out _).mono ?_
 rintro e u2 ⟨a2,c2,rfl,hp,hOp⟩
 have h3 := own_off H3.out hOp
 have hO2 := HO.out.trans hOp (fun _ _ c => c)
 obtain ⟨v',w1,hrun,hown',hgrow⟩ := append_rows h3 hp (flat_one _) (by omega) hO2.size
 have HO1 := Lib.hid (grown_off hO2 (Nat.le_refl _) h3 hgrow)
 have HW1 := Lib.hid (show w1.ownsRow w.heap.size 77 3 v' (ftE n k).length (flat (ftE n k)) by rw [HLn.out,show ftE n k = iE n ++ blE n k from rfl,flat_append]; exact hown')
 have HR := Lib.hid hrun
 clear hrun hown' hgrow hp hOp h3 hO2 H3 HO
 go_wp2_with (at_builtin; refine Go.Lib.wpList_append_run _ rfl _ _ _ _ rfl _ _ rfl rfl _ _ HR.out ?_)
 go_wp2
 go_ret
 exact ⟨_,rfl,HW1.out,HO1.out⟩
set_option maxRecDepth 100000 in
set_option maxHeartbeats 4000000 in
theorem aevents_own (n : Nat) (hn : n <= 90) (k : Int) (m : Nat) (hm : m <= 20) (w : World) :
  Calls Tryd.prog 23 #[.int .i64 (n : Int),.int .i64 k,.int .i64 (m : Int)] w fun e w' => ∃ v,e = .returned v /\ w'.ownsRow w.heap.size 77 3 v (alE n k m).length (flat (alE n k m)) /\ Off (fun _ => False) w w' := by
 have F1 := Lib.hid (fun W => fevents_own n hn k W)
 have hle := alE_le hn k
 have HLn := Lib.hid (fun j => show (alE n k (j + 1)).length = (alE n k j).length + 1 + (ftE n k).length by rw [show alE n k (j + 1) = alE n k j ++ ((4 : Int),(j : Int),(0 : Int)) :: ftE n k from rfl,List.length_append,List.length_cons]; omega)
 have HFl := Lib.hid (fun j => show flat (alE n k (j + 1)) = (flat (alE n k j) ++ flat [((4 : Int),(j : Int),(0 : Int))]) ++ flat (ftE n k) by rw [<- flat_append,<- flat_append,List.append_assoc]; rfl)
 have hl2 := ftE_le hn k
 obtain ⟨q2,hq2⟩ : ∃ q,q = (ftE n k).length := ⟨_,rfl⟩
 rw [<- hq2] at F1 HLn hl2
 clear hq2
 obtain ⟨i0,hi,hz0,hz1,hz2⟩ := info_parts ev_info
 have HLe := Lib.hid hle
 clear hle
 go_enter Tryd.func23,Tryd.ntmps23
 go_wp2
 go_loopw [7,8] (fun v i wr => ∃ j q : Nat,j <= m /\ i = .int .i64 (j : Int) /\ q = (alE n k j).length /\ (∃ a c,v = .slice a q c /\ wr.ownsRow w.heap.size 77 3 v q (flat (alE n k j))) /\ Off (fun _ => False) w wr) (fun _ i _ => m - (intOf i).toNat)
 case atStart => exact ⟨0,0,Nat.zero_le _,rfl,rfl,⟨none,0,rfl,World.ownsRow_nil _ _ _ _⟩,Off.refl _ w⟩
 case round =>
  obtain ⟨j,q,hj,rfl,hq,⟨va,vc,rfl,hown⟩,hO⟩ := hrel
  by_cases hlt : j < m
  ·have hjb : (j : Int) < (m : Int) := by omega
   have hwj : IntKind.i64.wrap ((j : Int) + 1) = (j : Int) + 1 := by rw [IntKind.wrap_i64]; omega
   have hql : q <= 401820 := by
    have h1 := HLe.out j
    have h2 : j * 20091 <= 20 * 20091 := Nat.mul_le_mul (by omega) (Nat.le_refl _)
    omega
   have HQ := Lib.hid hq
   have H3 := Lib.hid hown
   have HO := Lib.hid hO
   clear hown hO hq
   go_wp2_with (at_builtin; refine wpList_append_own _ rfl _ _ 51 rfl w.heap.size 77 i0 _ 3 24 Tryd.underlying51 hi hz0 hz1 hz2 rfl (by decide) _ q _ rfl (H3.out.alloc _) ⟨wr.heap.size,0,none⟩ 1 1 (flat [((4 : Int),(j : Int),(0 : Int))]) rfl rfl ?q1 (flat_one _) ?q2 ?q3 ?q4 ?_)
   case q1 =>
    intro j u hj
    have : j = 0 ∨ j = 1 ∨ j = 2 := by
     have := (List.getElem?_eq_some_iff.1 hj).1
     simp [flat] at this; omega
    rcases this with rfl | rfl | rfl <;> simp [flat] at hj <;> subst hj <;> simp [go_sem]
   case q2 => unfold maxLen; omega
   case q3 => omega
   case q4 => have := HO.out.size; simp; omega
   intro v' w1 hown' hgrow hnil
   obtain ⟨g',cap',rfl⟩ := ownsRow_succ hown'
   have hO1 : Off (fun _ => False) w w1 := grown_off (HO.out.alloc _) (Nat.le_refl _) (H3.out.alloc _) hgrow
   have HO1 := Lib.hid hO1
   have HW1 := Lib.hid hown'
   clear hown' hgrow hnil hO1
   go_wp2_with fail
   refine (F1.out _).mono ?_
   rintro e u2 ⟨v2,rfl,hp,hOp⟩
   have h3 := own_off HW1.out hOp
   have hO2 := HO1.out.trans hOp (fun _ _ c => c)
   obtain ⟨v3,w3,hrun,hown3,hgrow⟩ := append_rows h3 hp (flat_one _) (by omega) hO2.size
   have HO3 := Lib.hid (grown_off hO2 (Nat.le_refl _) h3 hgrow)
   rw [<- HFl.out,show q + 1 + q2 = (alE n k (j + 1)).length by rw [HLn.out,<- HQ.out]] at hown3
   have hv3 : ∃ a c,v3 = .slice a (alE n k (j + 1)).length c := by
    rcases hown3.2 with ⟨rfl,h0⟩ | ⟨g,c,_,rfl,_⟩
    ·exact ⟨none,0,by rw [h0]⟩
    ·exact ⟨_,_,rfl⟩
   have HW3 := Lib.hid hown3
   have HV3 := Lib.hid hv3
   have HR := Lib.hid hrun
   clear hrun hown3 hgrow hp hOp h3 hO2 H3 HO HW1 HO1 hv3
   go_wp2_with (at_builtin; refine Go.Lib.wpList_append_run _ rfl _ _ _ _ rfl _ _ rfl rfl _ _ HR.out ?_)
   go_wp2
   go_roundw
   case rel => exact ⟨j + 1,_,by omega,by simp,rfl,(let ⟨a,c,e⟩ := HV3.out; ⟨a,c,e,HW3.out⟩),HO3.out⟩
   case measure => simp [intOf] <;> omega
  ·obtain rfl : j = m := by omega
   subst hq
   have H5 := Lib.hid hown
   have HO5 := Lib.hid hO
   clear hown hO
   go_wp2
   go_ret
   exact ⟨_,rfl,H5.out,HO5.out⟩
end
end Go.Proofs.YtggebccgiigboaaDoor
-- squeezed
