/-
  The reference's lists of events of layer 9: those of Weights, Zero and Interpolate for n points. Condition: n is at most 90.
-/
import Derived.Test.YtcebegfnplplcaaDoorLagBase
import Derived.Test.YtcebegfnplplcaaDoorPolLists
namespace Go.Proofs.YtcebegfnplplcaaDoor
open Go.RowKit
set_option maxRecDepth 100000 in
set_option maxHeartbeats 4000000 in
theorem pairs_true (n : Nat) (hn2 : n <= 90) (w : World) :
  Calls Tryd.prog 60 #[.int .i64 (n : Int),.int .i64 (n : Int),.bool true] w fun e w' => ∃ a c,e = .returned (.slice a (wpE n n).length c) /\ w'.ownsRow w.heap.size 88 3 (.slice a (wpE n n).length c) (wpE n n).length (flat (wpE n n)) /\ Off (fun _ => False) w w' := by
 obtain ⟨i0,hi,hz0,hz1,hz2⟩ := info_parts ev_info
 go_enter Tryd.func60,Tryd.ntmps60
 go_wp2
 go_loopw [7,8] (fun v i wr => ∃ j q : Nat,j <= n /\ i = .int .i64 (j : Int) /\ q = (wpE n j).length /\ (∃ a c,v = .slice a q c /\ wr.ownsRow w.heap.size 88 3 v q (flat (wpE n j))) /\ Off (fun _ => False) w wr) (fun _ i _ => n - (intOf i).toNat)
 case atStart => exact ⟨0,0,Nat.zero_le _,rfl,rfl,⟨none,0,rfl,World.ownsRow_nil _ _ _ _⟩,Off.refl _ w⟩
 case round =>
  obtain ⟨j,q0,hj,rfl,hq0,⟨va,vc,rfl,hown⟩,hO⟩ := hrel
  by_cases hlt : j < n
  ·have hjb : (j : Int) < (n : Int) := by omega
   have hwj : IntKind.i64.wrap ((j : Int) + 1) = (j : Int) + 1 := by rw [IntKind.wrap_i64]; omega
   have hl0 : q0 <= 8100 := by rw [hq0]; exact Nat.le_trans (wpE_length n j) (Nat.mul_le_mul (show j <= 90 by omega) hn2)
   obtain ⟨L0,hL0⟩ : ∃ l,l = wpE n j := ⟨_,rfl⟩
   rw [<- hL0] at hown hq0
   have HPr := Lib.hid (show wpE n (j + 1) = L0 ++ opE n j (oth n j) by rw [hL0]; rfl)
   have H3 := Lib.hid hown
   have HO := Lib.hid hO
   have HQ0 := Lib.hid hq0
   clear hown hO hL0 hq0
   go_wp2
   go_loopw [7,9] (fun v i wr => ∃ k q : Nat,k <= n /\ i = .int .i64 (k : Int) /\ q = (L0 ++ opE n j (oth k j)).length /\ (∃ a c,v = .slice a q c /\ wr.ownsRow w.heap.size 88 3 v q (flat (L0 ++ opE n j (oth k j)))) /\ Off (fun _ => False) w wr) (fun _ i _ => n - (intOf i).toNat)
   case atStart => exact ⟨0,q0,Nat.zero_le _,rfl,by rw [show opE n j (oth 0 j) = [] from rfl,List.append_nil]; exact HQ0.out,⟨_,_,rfl,by rw [show opE n j (oth 0 j) = [] from rfl,List.append_nil]; exact H3.out⟩,HO.out⟩
   case round =>
    obtain ⟨k,q,hk,rfl,hq,⟨va2,vc2,rfl,hown⟩,hO⟩ := hrel
    clear H3 HO
    by_cases hlt2 : k < n
    ·have hql : q <= 30000 := by
      have h1 := oth_le k j
      rw [hq,List.length_append,opE_length,<- HQ0.out]; omega
     have hkb : (k : Int) < (n : Int) := by omega
     have hwk : IntKind.i64.wrap ((k : Int) + 1) = (k : Int) + 1 := by rw [IntKind.wrap_i64]; omega
     by_cases hjk : k = j
     ·subst hjk
      have HN := Lib.hid (show q = (L0 ++ opE n k (oth (k + 1) k)).length by rw [oth_next,if_pos rfl]; exact hq)
      have H3 := Lib.hid (show _ from (show L0 ++ opE n k (oth k k) = L0 ++ opE n k (oth (k + 1) k) by rw [oth_next,if_pos rfl]) ▸ hown)
      have HO := Lib.hid hO
      clear hown hO hq
      go_wp2
      go_roundw
      case rel => exact ⟨k + 1,q,by omega,by simp,HN.out,⟨_,_,rfl,H3.out⟩,HO.out⟩
      case measure => simp [intOf] <;> omega
     ·have hkj1 : ¬ (j : Int) = (k : Int) := by omega
      have hkj2 : ((j : Int) == (k : Int)) = false := by simp; omega
      have HN := Lib.hid (show q + 1 = (L0 ++ opE n j (oth (k + 1) j)).length by rw [oth_next,if_neg hjk,opE_snoc,<- List.append_assoc,List.length_append,<- hq]; rfl)
      have HF := Lib.hid (show flat (L0 ++ opE n j (oth k j)) ++ flat [((3 : Int),(j : Int),(k : Int))] = flat (L0 ++ opE n j (oth (k + 1) j)) by rw [<- flat_append,oth_next,if_neg hjk,opE_snoc,List.append_assoc,Nat.mod_eq_of_lt hlt2])
      have H3 := Lib.hid hown
      have HO := Lib.hid hO
      clear hown hO hq
      go_wp2_with (at_builtin; refine wpList_append_own _ rfl _ _ 56 rfl w.heap.size 88 i0 _ 3 24 Tryd.underlying56 hi hz0 hz1 hz2 rfl (by decide) _ q _ rfl (H3.out.alloc _) ⟨wr.heap.size,0,none⟩ 1 1 (flat [((3 : Int),(j : Int),(k : Int))]) rfl rfl ?q1 (flat_one _) ?q2 ?q3 ?q4 ?_)
      case q1 =>
       intro j u hj
       have : j = 0 ∨ j = 1 ∨ j = 2 := by
        have := (List.getElem?_eq_some_iff.1 hj).1
        simp [flat] at this; omega
       rcases this with rfl | rfl | rfl <;> simp [flat] at hj <;> subst hj <;> simp [go_sem]
      case q2 => unfold maxLen; omega
      case q3 => omega
      case q4 => have := HO.out.size; simp; omega
      intro v' w1 hown' hgrow hnil
      obtain ⟨g',cap',rfl⟩ := ownsRow_succ hown'
      have hO1 : Off (fun _ => False) w w1 := grown_off (HO.out.alloc _) (Nat.le_refl _) (H3.out.alloc _) hgrow
      have HO1 := Lib.hid hO1
      have HW1 := Lib.hid hown'
      clear hown' hgrow hnil hO1
      go_wp2
      go_roundw
      case rel => exact ⟨k + 1,q + 1,by omega,by simp,HN.out,⟨_,_,rfl,by rw [<- HF.out]; exact HW1.out⟩,HO1.out⟩
      case measure => simp [intOf] <;> omega
    ·obtain rfl : k = n := by omega
     have H5 := Lib.hid hown
     have HO5 := Lib.hid hO
     have HQ5 := Lib.hid hq
     clear hown hO hq
     go_wp2
     go_roundw
     case rel => exact ⟨j + 1,q,by omega,by simp,by rw [HPr.out]; exact HQ5.out,⟨_,_,rfl,by rw [HPr.out]; exact H5.out⟩,HO5.out⟩
     case measure => simp [intOf] <;> omega
  ·obtain rfl : j = n := by omega
   subst hq0
   have H5 := Lib.hid hown
   have HO5 := Lib.hid hO
   clear hown hO
   go_wp2
   go_ret
   exact ⟨_,_,rfl,H5.out,HO5.out⟩
set_option maxRecDepth 100000 in
set_option maxHeartbeats 4000000 in
theorem wevents_some (n : Nat) (h0 : 0 < n) (hn2 : n <= 90) (w : World) :
  Calls Tryd.prog 29 #[.int .i64 (n : Int)] w fun e w' => ∃ a c,e = .returned (.slice a ((wpE n n) ++ (batE n)).length c) /\ w'.ownsRow w.heap.size 88 3 (.slice a ((wpE n n) ++ (batE n)).length c) ((wpE n n) ++ (batE n)).length (flat ((wpE n n) ++ (batE n))) /\ Off (fun _ => False) w w' := by
 obtain ⟨i0,hi,hz0,hz1,hz2⟩ := info_parts ev_info
 obtain ⟨L1,hL1⟩ : ∃ l,l = wpE n n := ⟨_,rfl⟩
 obtain ⟨L2,hL2⟩ : ∃ l,l = batE n := ⟨_,rfl⟩
 have hl1 : L1.length <= 20000 := by
  rw [hL1]
  have a1 := wpE_length n n; have a2 : n * n <= 90 * 90 := Nat.mul_le_mul (by omega) (by omega); have a3 := batE_le n
  try simp only [List.length_append]
  omega
 have hl2 : L2.length <= 20000 := by
  rw [hL2]
  have a2 : n * n <= 90 * 90 := Nat.mul_le_mul (by omega) (by omega); have a3 := batE_le n
  try rw [upE_length]
  try rw [prE_length]
  omega
 obtain ⟨m,hm⟩ : ∃ m,L2.length = m + 1 := by
  have : 0 < L2.length := by
   rw [hL2]
   unfold batE; rw [if_neg (by omega)]; simp only [List.length_append,powE_length]; omega
  exact ⟨L2.length - 1,by omega⟩
 have F1 := Lib.hid (show ∀ W,Calls Tryd.prog 60 #[.int .i64 (n : Int),.int .i64 (n : Int),.bool true] W fun e w' => ∃ a c,e = .returned (.slice a (L1).length c) /\ w'.ownsRow W.heap.size 88 3 (.slice a (L1).length c) (L1).length (flat (L1)) /\ Off (fun _ => False) W w' from fun W => by rw [hL1]; exact pairs_true n hn2 W)
 have F2 := Lib.hid (show ∀ W,Calls Tryd.prog 61 #[.int .i64 (n : Int)] W fun e w' => ∃ v,e = .returned v /\ w'.ownsRow W.heap.size 88 3 v (m + 1) (flat L2) /\ Off (fun _ => False) W w' from fun W => by
  rw [<- hm,hL2]; exact batchevents_any n (by omega) W)
 rw [<- hL1,<- hL2,List.length_append,hm]
 have HM := Lib.hid hm
 clear hL1 hL2 hm
 obtain ⟨k,hk⟩ : ∃ k,k = L1.length := ⟨_,rfl⟩
 rw [<- hk] at hl1 ⊢
 rw [<- hk] at F1
 clear hk
 have hml : m <= 20000 := by have := HM.out; omega
 clear hl2
 go_enter Tryd.func29,Tryd.ntmps29
 go_wp2_with fail
 refine (F1.out _).mono ?_
 rintro e u1 ⟨a1,c1,rfl,hown,hO⟩
 have H3 := Lib.hid hown
 have HO := Lib.hid hO
 clear hown hO
 go_wp2_with fail
 refine (F2.out _).mono ?_
 rintro e u2 ⟨pv,rfl,hpo,hOp⟩
 obtain ⟨g2,c2,rfl⟩ := ownsRow_succ hpo
 have hpc := hpo.cells (g := g2) rfl
 have H4 := Lib.hid (own_off H3.out hOp)
 have HO4 := Lib.hid (HO.out.trans hOp (fun _ _ c => c))
 clear hOp
 go_wp2_with (at_builtin; refine wpList_append_own _ rfl _ _ 56 rfl w.heap.size 88 i0 _ 3 24 Tryd.underlying56 hi hz0 hz1 hz2 rfl (by decide) _ k _ rfl H4.out ⟨g2,0,none⟩ (m + 1) c2 (flat L2) rfl (by rw [flat_length,HM.out]) hpc (flat_one _) ?q2 ?q3 ?q4 ?_)
 case q2 => unfold maxLen; omega
 case q3 => omega
 case q4 => exact HO4.out.size
 intro v' w1 hown' hgrow hnil
 have hO1 : Off (fun _ => False) w w1 := grown_off HO4.out (Nat.le_refl _) H4.out hgrow
 rw [<- flat_append,<- Nat.add_assoc] at hown'
 obtain ⟨g',cap',rfl⟩ := ownsRow_succ hown'
 have HO1 := Lib.hid hO1
 have HW1 := Lib.hid hown'
 clear hown' hgrow hnil hO1 hpo hpc
 go_wp2
 go_ret
 exact ⟨_,_,rfl,HW1.out,HO1.out⟩
set_option maxRecDepth 100000 in
set_option maxHeartbeats 4000000 in
theorem zevents_some (n : Nat) (h0 : 0 < n) (hn2 : n <= 90) (w : World) :
  Calls Tryd.prog 30 #[.int .i64 (n : Int)] w fun e w' => ∃ a c,e = .returned (.slice a ((wpE n n ++ batE n) ++ (upE n)).length c) /\ w'.ownsRow w.heap.size 88 3 (.slice a ((wpE n n ++ batE n) ++ (upE n)).length c) ((wpE n n ++ batE n) ++ (upE n)).length (flat ((wpE n n ++ batE n) ++ (upE n))) /\ Off (fun _ => False) w w' := by
 obtain ⟨i0,hi,hz0,hz1,hz2⟩ := info_parts ev_info
 obtain ⟨L1,hL1⟩ : ∃ l,l = wpE n n ++ batE n := ⟨_,rfl⟩
 obtain ⟨L2,hL2⟩ : ∃ l,l = upE n := ⟨_,rfl⟩
 have hl1 : L1.length <= 20000 := by
  rw [hL1]
  have a1 := wpE_length n n; have a2 : n * n <= 90 * 90 := Nat.mul_le_mul (by omega) (by omega); have a3 := batE_le n
  try simp only [List.length_append]
  omega
 have hl2 : L2.length <= 20000 := by
  rw [hL2]
  have a2 : n * n <= 90 * 90 := Nat.mul_le_mul (by omega) (by omega); have a3 := batE_le n
  try rw [upE_length]
  try rw [prE_length]
  omega
 obtain ⟨m,hm⟩ : ∃ m,L2.length = m + 1 := by
  have : 0 < L2.length := by
   rw [hL2]
   rw [upE_length]; exact h0
  exact ⟨L2.length - 1,by omega⟩
 have F1 := Lib.hid (show ∀ W,Calls Tryd.prog 29 #[.int .i64 (n : Int)] W fun e w' => ∃ a c,e = .returned (.slice a (L1).length c) /\ w'.ownsRow W.heap.size 88 3 (.slice a (L1).length c) (L1).length (flat (L1)) /\ Off (fun _ => False) W w' from fun W => by rw [hL1]; exact wevents_some n h0 hn2 W)
 have F2 := Lib.hid (show ∀ W,Calls Tryd.prog 62 #[.int .i64 2,.int .i64 (n : Int)] W fun e w' => ∃ v,e = .returned v /\ w'.ownsRow W.heap.size 88 3 v (m + 1) (flat L2) /\ Off (fun _ => False) W w' from fun W => by
  rw [<- hm,hL2]; rw [upE_length]; exact up_any n (by omega) W)
 rw [<- hL1,<- hL2,List.length_append,hm]
 have HM := Lib.hid hm
 clear hL1 hL2 hm
 obtain ⟨k,hk⟩ : ∃ k,k = L1.length := ⟨_,rfl⟩
 rw [<- hk] at hl1 ⊢
 rw [<- hk] at F1
 clear hk
 have hml : m <= 20000 := by have := HM.out; omega
 clear hl2
 go_enter Tryd.func30,Tryd.ntmps30
 go_wp2_with fail
 refine (F1.out _).mono ?_
 rintro e u1 ⟨a1,c1,rfl,hown,hO⟩
 have H3 := Lib.hid hown
 have HO := Lib.hid hO
 clear hown hO
 go_wp2_with fail
 refine (F2.out _).mono ?_
 rintro e u2 ⟨pv,rfl,hpo,hOp⟩
 obtain ⟨g2,c2,rfl⟩ := ownsRow_succ hpo
 have hpc := hpo.cells (g := g2) rfl
 have H4 := Lib.hid (own_off H3.out hOp)
 have HO4 := Lib.hid (HO.out.trans hOp (fun _ _ c => c))
 clear hOp
 go_wp2_with (at_builtin; refine wpList_append_own _ rfl _ _ 56 rfl w.heap.size 88 i0 _ 3 24 Tryd.underlying56 hi hz0 hz1 hz2 rfl (by decide) _ k _ rfl H4.out ⟨g2,0,none⟩ (m + 1) c2 (flat L2) rfl (by rw [flat_length,HM.out]) hpc (flat_one _) ?q2 ?q3 ?q4 ?_)
 case q2 => unfold maxLen; omega
 case q3 => omega
 case q4 => exact HO4.out.size
 intro v' w1 hown' hgrow hnil
 have hO1 : Off (fun _ => False) w w1 := grown_off HO4.out (Nat.le_refl _) H4.out hgrow
 rw [<- flat_append,<- Nat.add_assoc] at hown'
 obtain ⟨g',cap',rfl⟩ := ownsRow_succ hown'
 have HO1 := Lib.hid hO1
 have HW1 := Lib.hid hown'
 clear hown' hgrow hnil hO1 hpo hpc
 go_wp2
 go_ret
 exact ⟨_,_,rfl,HW1.out,HO1.out⟩
set_option maxRecDepth 100000 in
set_option maxHeartbeats 4000000 in
theorem ievents_some (n : Nat) (h0 : 0 < n) (hn2 : n <= 90) (w : World) :
  Calls Tryd.prog 31 #[.int .i64 (n : Int)] w fun e w' => ∃ a c,e = .returned (.slice a ((wpE n n ++ batE n) ++ (prE n n)).length c) /\ w'.ownsRow w.heap.size 88 3 (.slice a ((wpE n n ++ batE n) ++ (prE n n)).length c) ((wpE n n ++ batE n) ++ (prE n n)).length (flat ((wpE n n ++ batE n) ++ (prE n n))) /\ Off (fun _ => False) w w' := by
 obtain ⟨i0,hi,hz0,hz1,hz2⟩ := info_parts ev_info
 obtain ⟨L1,hL1⟩ : ∃ l,l = wpE n n ++ batE n := ⟨_,rfl⟩
 obtain ⟨L2,hL2⟩ : ∃ l,l = prE n n := ⟨_,rfl⟩
 have hl1 : L1.length <= 20000 := by
  rw [hL1]
  have a1 := wpE_length n n; have a2 : n * n <= 90 * 90 := Nat.mul_le_mul (by omega) (by omega); have a3 := batE_le n
  try simp only [List.length_append]
  omega
 have hl2 : L2.length <= 20000 := by
  rw [hL2]
  have a2 : n * n <= 90 * 90 := Nat.mul_le_mul (by omega) (by omega); have a3 := batE_le n
  try rw [upE_length]
  try rw [prE_length]
  omega
 obtain ⟨m,hm⟩ : ∃ m,L2.length = m + 1 := by
  have : 0 < L2.length := by
   rw [hL2]
   rw [prE_length]; exact Nat.mul_pos h0 h0
  exact ⟨L2.length - 1,by omega⟩
 have F1 := Lib.hid (show ∀ W,Calls Tryd.prog 29 #[.int .i64 (n : Int)] W fun e w' => ∃ a c,e = .returned (.slice a (L1).length c) /\ w'.ownsRow W.heap.size 88 3 (.slice a (L1).length c) (L1).length (flat (L1)) /\ Off (fun _ => False) W w' from fun W => by rw [hL1]; exact wevents_some n h0 hn2 W)
 have F2 := Lib.hid (show ∀ W,Calls Tryd.prog 60 #[.int .i64 (n : Int),.int .i64 (n : Int),.bool false] W fun e w' => ∃ v,e = .returned v /\ w'.ownsRow W.heap.size 88 3 v (m + 1) (flat L2) /\ Off (fun _ => False) W w' from fun W => by
  rw [<- hm,hL2]; rw [prE_length]; exact pairs_any n n (by omega) (by omega) W)
 rw [<- hL1,<- hL2,List.length_append,hm]
 have HM := Lib.hid hm
 clear hL1 hL2 hm
 obtain ⟨k,hk⟩ : ∃ k,k = L1.length := ⟨_,rfl⟩
 rw [<- hk] at hl1 ⊢
 rw [<- hk] at F1
 clear hk
 have hml : m <= 20000 := by have := HM.out; omega
 clear hl2
 go_enter Tryd.func31,Tryd.ntmps31
 go_wp2_with fail
 refine (F1.out _).mono ?_
 rintro e u1 ⟨a1,c1,rfl,hown,hO⟩
 have H3 := Lib.hid hown
 have HO := Lib.hid hO
 clear hown hO
 go_wp2_with fail
 refine (F2.out _).mono ?_
 rintro e u2 ⟨pv,rfl,hpo,hOp⟩
 obtain ⟨g2,c2,rfl⟩ := ownsRow_succ hpo
 have hpc := hpo.cells (g := g2) rfl
 have H4 := Lib.hid (own_off H3.out hOp)
 have HO4 := Lib.hid (HO.out.trans hOp (fun _ _ c => c))
 clear hOp
 go_wp2_with (at_builtin; refine wpList_append_own _ rfl _ _ 56 rfl w.heap.size 88 i0 _ 3 24 Tryd.underlying56 hi hz0 hz1 hz2 rfl (by decide) _ k _ rfl H4.out ⟨g2,0,none⟩ (m + 1) c2 (flat L2) rfl (by rw [flat_length,HM.out]) hpc (flat_one _) ?q2 ?q3 ?q4 ?_)
 case q2 => unfold maxLen; omega
 case q3 => omega
 case q4 => exact HO4.out.size
 intro v' w1 hown' hgrow hnil
 have hO1 : Off (fun _ => False) w w1 := grown_off HO4.out (Nat.le_refl _) H4.out hgrow
 rw [<- flat_append,<- Nat.add_assoc] at hown'
 obtain ⟨g',cap',rfl⟩ := ownsRow_succ hown'
 have HO1 := Lib.hid hO1
 have HW1 := Lib.hid hown'
 clear hown' hgrow hnil hO1 hpo hpc
 go_wp2
 go_ret
 exact ⟨_,_,rfl,HW1.out,HO1.out⟩
set_option maxRecDepth 100000 in
set_option maxHeartbeats 4000000 in
theorem pairs0 (w : World) : Calls Tryd.prog 60 #[.int .i64 0,.int .i64 0,.bool true] w fun e w' => e = .returned (.slice none 0 0) /\ Off (fun _ => False) w w' := by
 go_enter Tryd.func60,Tryd.ntmps60
 go_wp2
 go_loopw [7,8] (fun v i wr => i = .int .i64 0 /\ v = .slice none 0 0 /\ Off (fun _ => False) w wr) (fun _ _ _ => 0)
 case atStart => exact ⟨rfl,rfl,Off.refl _ _⟩
 obtain ⟨rfl,rfl,hO⟩ := hrel
 have HO := Lib.hid hO
 clear hO
 go_wp2
 go_ret
 exact ⟨rfl,HO.out⟩
set_option maxRecDepth 100000 in
set_option maxHeartbeats 4000000 in
theorem pairs00 (w : World) : Calls Tryd.prog 60 #[.int .i64 0,.int .i64 0,.bool false] w fun e w' => e = .returned (.slice none 0 0) /\ Off (fun _ => False) w w' := by
 go_enter Tryd.func60,Tryd.ntmps60
 go_wp2
 go_loopw [7,8] (fun v i wr => i = .int .i64 0 /\ v = .slice none 0 0 /\ Off (fun _ => False) w wr) (fun _ _ _ => 0)
 case atStart => exact ⟨rfl,rfl,Off.refl _ _⟩
 obtain ⟨rfl,rfl,hO⟩ := hrel
 have HO := Lib.hid hO
 clear hO
 go_wp2
 go_ret
 exact ⟨rfl,HO.out⟩
set_option maxRecDepth 100000 in
set_option maxHeartbeats 4000000 in
theorem batch0 (w : World) : Calls Tryd.prog 61 #[.int .i64 0] w fun e w' => e = .returned (.slice none 0 0) /\ Off (fun _ => False) w w' := by
 go_enter Tryd.func61,Tryd.ntmps61
 have HO := Lib.hid (Off.refl (fun _ => False) w)
 go_wp2
 go_ret
 exact ⟨rfl,HO.out⟩
set_option maxRecDepth 100000 in
set_option maxHeartbeats 4000000 in
theorem up0 (w : World) : Calls Tryd.prog 62 #[.int .i64 2,.int .i64 0] w fun e w' => e = .returned (.slice none 0 0) /\ Off (fun _ => False) w w' := by
 go_enter Tryd.func62,Tryd.ntmps62
 go_wp2
 go_loopw [5,6] (fun v i wr => i = .int .i64 0 /\ v = .slice none 0 0 /\ Off (fun _ => False) w wr) (fun _ _ _ => 0)
 case atStart => exact ⟨rfl,rfl,Off.refl _ _⟩
 obtain ⟨rfl,rfl,hO⟩ := hrel
 have HO := Lib.hid hO
 clear hO
 go_wp2
 go_ret
 exact ⟨rfl,HO.out⟩
set_option maxRecDepth 100000 in
set_option maxHeartbeats 4000000 in
theorem wevents0 (w : World) : Calls Tryd.prog 29 #[.int .i64 0] w fun e w' => e = .returned (.slice none 0 0) /\ Off (fun _ => False) w w' := by
 go_enter Tryd.func29,Tryd.ntmps29
 go_wp2_with fail
 refine (pairs0 _).mono ?_
 rintro e u ⟨rfl,hO⟩
 have HO := Lib.hid (hO)
 clear hO
 go_wp2_with fail
 refine (batch0 _).mono ?_
 rintro e u ⟨rfl,hO⟩
 have HO := Lib.hid (HO.out.trans hO (fun _ _ c => c))
 clear hO
 go_wp2
 go_ret
 exact ⟨rfl,HO.out⟩
set_option maxRecDepth 100000 in
set_option maxHeartbeats 4000000 in
theorem zevents0 (w : World) : Calls Tryd.prog 30 #[.int .i64 0] w fun e w' => e = .returned (.slice none 0 0) /\ Off (fun _ => False) w w' := by
 go_enter Tryd.func30,Tryd.ntmps30
 go_wp2_with fail
 refine (wevents0 _).mono ?_
 rintro e u ⟨rfl,hO⟩
 have HO := Lib.hid (hO)
 clear hO
 go_wp2_with fail
 refine (up0 _).mono ?_
 rintro e u ⟨rfl,hO⟩
 have HO := Lib.hid (HO.out.trans hO (fun _ _ c => c))
 clear hO
 go_wp2
 go_ret
 exact ⟨rfl,HO.out⟩
set_option maxRecDepth 100000 in
set_option maxHeartbeats 4000000 in
theorem ievents0 (w : World) : Calls Tryd.prog 31 #[.int .i64 0] w fun e w' => e = .returned (.slice none 0 0) /\ Off (fun _ => False) w w' := by
 go_enter Tryd.func31,Tryd.ntmps31
 go_wp2_with fail
 refine (wevents0 _).mono ?_
 rintro e u ⟨rfl,hO⟩
 have HO := Lib.hid (hO)
 clear hO
 go_wp2_with fail
 refine (pairs00 _).mono ?_
 rintro e u ⟨rfl,hO⟩
 have HO := Lib.hid (HO.out.trans hO (fun _ _ c => c))
 clear hO
 go_wp2
 go_ret
 exact ⟨rfl,HO.out⟩
theorem wevents_any (n : Nat) (hn2 : n <= 90) (w : World) :
  Calls Tryd.prog 29 #[.int .i64 (n : Int)] w fun e w' => ∃ v,e = .returned v /\ EvsAt w' v (wpE n n ++ batE n) (fun _ => True) /\ Off (fun _ => False) w w' := by
 by_cases h : n = 0
 ·subst h
  refine (wevents0 w).mono ?_
  rintro e w' ⟨rfl,hO⟩
  exact ⟨_,rfl,(evs_of_own (show w'.ownsRow w'.heap.size 88 3 (.slice none 0 0) 0 (flat []) from World.ownsRow_nil _ _ _ _)).mono (fun _ _ _ => trivial),hO⟩
 ·refine (wevents_some n (by omega) hn2 w).mono ?_
  rintro e w' ⟨a,c,rfl,hown,hO⟩
  exact ⟨_,rfl,(evs_of_own hown).mono (fun _ _ _ => trivial),hO⟩
theorem zevents_any (n : Nat) (hn2 : n <= 90) (w : World) :
  Calls Tryd.prog 30 #[.int .i64 (n : Int)] w fun e w' => ∃ v,e = .returned v /\ EvsAt w' v ((wpE n n ++ batE n) ++ upE n) (fun _ => True) /\ Off (fun _ => False) w w' := by
 by_cases h : n = 0
 ·subst h
  refine (zevents0 w).mono ?_
  rintro e w' ⟨rfl,hO⟩
  exact ⟨_,rfl,(evs_of_own (show w'.ownsRow w'.heap.size 88 3 (.slice none 0 0) 0 (flat []) from World.ownsRow_nil _ _ _ _)).mono (fun _ _ _ => trivial),hO⟩
 ·refine (zevents_some n (by omega) hn2 w).mono ?_
  rintro e w' ⟨a,c,rfl,hown,hO⟩
  exact ⟨_,rfl,(evs_of_own hown).mono (fun _ _ _ => trivial),hO⟩
theorem ievents_any (n : Nat) (hn2 : n <= 90) (w : World) :
  Calls Tryd.prog 31 #[.int .i64 (n : Int)] w fun e w' => ∃ v,e = .returned v /\ EvsAt w' v ((wpE n n ++ batE n) ++ prE n n) (fun _ => True) /\ Off (fun _ => False) w w' := by
 by_cases h : n = 0
 ·subst h
  refine (ievents0 w).mono ?_
  rintro e w' ⟨rfl,hO⟩
  exact ⟨_,rfl,(evs_of_own (show w'.ownsRow w'.heap.size 88 3 (.slice none 0 0) 0 (flat []) from World.ownsRow_nil _ _ _ _)).mono (fun _ _ _ => trivial),hO⟩
 ·refine (ievents_some n (by omega) hn2 w).mono ?_
  rintro e w' ⟨a,c,rfl,hown,hO⟩
  exact ⟨_,rfl,(evs_of_own hown).mono (fun _ _ _ => trivial),hO⟩
end Go.Proofs.YtcebegfnplplcaaDoor
-- squeezed
