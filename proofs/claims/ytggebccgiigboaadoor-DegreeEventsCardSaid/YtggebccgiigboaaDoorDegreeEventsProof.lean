/-
  For every field, correct points and number of coefficients, the examples of the chapter hold, and the events of Below, Fits and All are those of the reference for the number of points and two lists: the statement on the events of P10.1 to P10.3. No condition.
-/
import Derived.Test.YtggebccgiigboaaDoorRows
import Derived.Test.YtggebccgiigboaaDoorTie
import Derived.Test.YtggebccgiigboaaDoorCards
import Derived.LaidMore
import Derived.LaidHandle
import Derived.SevenTiedAt
import Derived.Stop.Joined
import Derived.JoinedOf
import Derived.Test.YtggebccgiigboaaDoorLimbWords
import Derived.Test.YtggebccgiigboaaDoorIntAll
import Derived.Test.YtggebccgiigboaaDoorVecOpen
import Derived.Test.YtggebccgiigboaaDoorFieldTab
import Derived.Test.YtggebccgiigboaaDoorFieldHeld
import Derived.Test.YtggebccgiigboaaDoorDegAlive
import Derived.Test.YtggebccgiigboaaDoorDegEvs
import Derived.Test.YtggebccgiigboaaDoorRepeat
import Derived.Test.YtggebccgiigboaaDoorPolLists
import Derived.Test.YtggebccgiigboaaDoorTapeMore
import Derived.Test.YtggebccgiigboaaDoorTapeCore
import Derived.Test.YtggebccgiigboaaDoorInvAll
import Derived.Test.YtggebccgiigboaaDoorMaskBase
import Derived.WalkKit
import Derived.ProofKit
import Derived.OpenShut
import Derived.ShutString
import Derived.ChangeOld
import Derived.Below
namespace Go.Proofs.YtggebccgiigboaaDoor.degreeEvents
open Go.ChangeShapes Go.WideShapes Go.ChangeAt Go.RowKit
set_option linter.unusedVariables false

theorem own : ownKnob Tryd.prog.godebug = none := by kernel_rfl
theorem laidOut : laidOutB Tryd.prog = true := by kernel_rfl

theorem mods_lt {p : Nat} (h : 0 < p) (xs : List Nat) : ∀ v ∈ xs.map (· % p),v < p := by
 intro v hv
 obtain ⟨x,_,rfl⟩ := List.mem_map.1 hv
 exact Nat.mod_lt _ h
theorem two_cells {w : World} {b : Nat} {T : TypeId} {v0 v1 : Value} (h : w.heap[b]? = some (.cells #[v0,v1] T (0,0))) : w.cell? ⟨b,0,none⟩ = some v0 /\ w.cell? ⟨b,1,none⟩ = some v1 := ⟨cell_of_heap h 0,cell_of_heap h 1⟩
theorem own_cap {w : World} {B n cap size : Nat} {T : TypeId} {a : Option Addr} {xs : List Value} (h : w.ownsRow B T size (.slice a n cap) n xs) : n <= cap := by
 rcases h.2 with ⟨e,h0⟩ | ⟨g,c,cur,e,_,_,hc,_⟩
 ·omega
 ·cases e; exact hc
theorem ret_int {a b : Int} (k : IntKind) (h : a = b) : Ending.returned (.int k a) = .returned (.int k b) := by rw [h]
def TpR (W : World) (b : Nat) (l : List Ev) (hi z4 : Nat) : Prop := ∃ S,Tp W (some ⟨b,0,none⟩) l S /\ ∀ k,S k -> (b <= k /\ k < hi) ∨ z4 <= k
theorem TpR.go {W W' : World} {b hi z4 : Nat} {l : List Ev} {S : Nat -> Prop} (h : TpR W b l hi z4) (ho : Off S W W') (hS : ∀ k,S k -> ¬ (b <= k /\ k < hi) /\ k < z4) : TpR W' b l hi z4 := by
 obtain ⟨S',h1,h2⟩ := h
 refine ⟨S',h1.off ho (fun k c d => ?_),h2⟩
 have h3 := hS k c
 rcases h2 k d with h4 | h4
 ·exact h3.1 h4
 ·omega
theorem TpR.ex {W : World} {b hi z4 : Nat} {l : List Ev} (h : Tp W (some ⟨b,0,none⟩) l (fun k => b <= k /\ k < hi)) : TpR W b l hi z4 := ⟨_,h,fun _ c => .inl c⟩
theorem TpR.of {W : World} {B b hi z4 : Nat} {l : List Ev} (h : Noted B (some ⟨b,0,none⟩) [] l (fun k => b <= k /\ k < hi) W) (hB : z4 <= B) : TpR W b l hi z4 := by
 obtain ⟨S',h1,h2⟩ := h
 rw [ext_new] at h1
 exact ⟨S',h1,fun k c => (h2 k c).imp_right (Nat.le_trans hB)⟩
/-- What the statement's calls leave as it is. -/
structure DvS (w W : World) (id : Int) (p i r s fb n yb z0 z1 z2 z3 z4 : Nat) (v : Value) (xs : List Int) : Prop where
 F : W.heap[fb]? = some (.cells #[.int .i64 id,.int .u64 (wd p 0 : Int),.int .u64 (wd p 1 : Int),.int .u64 (wd p 2 : Int),.int .u64 (wd p 3 : Int),.int .u64 (i : Int),.int .u64 (wd r 0 : Int),.int .u64 (wd r 1 : Int),.int .u64 (wd r 2 : Int),.int .u64 (wd r 3 : Int),.int .u64 (wd s 0 : Int),.int .u64 (wd s 1 : Int),.int .u64 (wd s 2 : Int),.int .u64 (wd s 3 : Int)] 31 (0,0))
 I : IvAt W v xs (fun k => k < z0)
 O : NumsAt W yb 29 (List.replicate n r)
 b : fb < z0 /\ z3 <= yb /\ yb < z4 /\ w.heap.size <= z0 /\ z0 <= z1 /\ z1 <= z2 /\ z2 <= z3 /\ z3 <= z4 /\ z4 <= W.heap.size
 off : Off (fun _ => False) w W
theorem DvS.go {w W W' : World} {id : Int} {p i r s fb n yb z0 z1 z2 z3 z4 : Nat} {v : Value} {xs : List Int} {S : Nat -> Prop} (h : DvS w W id p i r s fb n yb z0 z1 z2 z3 z4 v xs) (ho : Off S W W') (hS : ∀ k,S k -> z0 <= k /\ (k < z3 ∨ z4 <= k)) : DvS w W' id p i r s fb n yb z0 z1 z2 z3 z4 v xs := by
 obtain ⟨b1,b2,b3,b4,b5,b6,b7,b8,b9⟩ := h.b
 exact ⟨ho.heap h.F (fun c => by have := hS _ c; omega),IvAt.off h.I ho (fun k _ c d => by have := hS _ d; omega),h.O.off ho (fun c => by have := hS _ c; omega),⟨b1,b2,b3,b4,b5,b6,b7,b8,Nat.le_trans b9 ho.size⟩,h.off.trans ho (fun k hk c => by have := hS _ c; omega)⟩
theorem ls_blk {W : World} {b n : Nat} {xs : List Nat} (h : NumsAt W b 29 xs) (hn : n = xs.length) (hl : n <= 100000) {S : Nat -> Prop} (hS : S b) : LsAt W (.slice (some ⟨b,0,none⟩) n n) xs S :=
 ⟨some ⟨b,0,none⟩,n,by rw [hn],by omega,fun _ => ⟨b,0,rfl,hS,fun j x hx => by have := NumsAt.cell h hx; rw [Nat.zero_add]; exact this⟩⟩
theorem one_ls (w : World) (x : Nat) : Ls (w.alloc (.cells #[.int .u64 (wd x 0 : Int),.int .u64 (wd x 1 : Int),.int .u64 (wd x 2 : Int),.int .u64 (wd x 3 : Int)] 29 (0,0))) (.slice (some ⟨w.heap.size,0,none⟩) 1 1) [x] := ls_build w [x] (by simp) 29
theorem two_lists {W : World} {yb b n r z3 : Nat} (h1 : NumsAt W yb 29 (List.replicate n r)) (h2 : NumsAt W b 29 (List.replicate n 0)) (hy : z3 <= yb) (hb : z3 <= b) (hs : z3 <= W.heap.size) (hn : n <= 1000) :
  LLsAt (W.alloc (.cells #[.slice (some ⟨yb,0,none⟩) n n,.slice (some ⟨b,0,none⟩) n n] 34 (0,0))) (.slice (some ⟨W.heap.size,0,none⟩) 2 2) [List.replicate n r,List.replicate n 0] (fun k => z3 <= k) := by
 have ho : Off (fun _ => False) W (W.alloc (.cells #[.slice (some ⟨yb,0,none⟩) n n,.slice (some ⟨b,0,none⟩) n n] 34 (0,0))) := (Off.refl _ W).alloc _
 refine ⟨some ⟨W.heap.size,0,none⟩,2,rfl,by simp,fun _ => ⟨W.heap.size,0,rfl,hs,fun j ys hj => ?_⟩⟩
 have hj2 : j = 0 ∨ j = 1 := by have := (List.getElem?_eq_some_iff.1 hj).1; simp at this; omega
 rcases hj2 with rfl | rfl
 ·simp at hj; subst hj
  exact ⟨_,by rw [cell_of_heap (heap_new' rfl _)]; rfl,ls_blk (h1.off ho (fun c => c)) (by simp) (by omega) hy⟩
 ·simp at hj; subst hj
  exact ⟨_,by rw [cell_of_heap (heap_new' rfl _)]; rfl,ls_blk (h2.off ho (fun c => c)) (by simp) (by omega) hb⟩
/-- The new list of zeros,till operation t. -/
def PZT (l : Nat -> Bool) (i t : Nat) (u : Value) (w : World) (n z : Nat) : Prop := l i = true -> l t = false -> ∃ b,u = .slice (some ⟨b,0,none⟩) n n /\ z <= b /\ NumsAt w b 29 (List.replicate n 0)
theorem PZT.new {l : Nat -> Bool} {i t : Nat} {u : Value} {w : World} {n z : Nat} (h : ∃ b,u = .slice (some ⟨b,0,none⟩) n n /\ z <= b /\ NumsAt w b 29 (List.replicate n 0)) : PZT (upd l i) i t u w n z := fun _ _ => h
theorem PZT.keep {l : Nat -> Bool} {i t j : Nat} {u : Value} {w w' : World} {n z : Nat} (h : PZT l i t u w n z) (ho : Off (fun _ => False) w w') (hi : (j == i) = false) (ht : (j == t) = false) : PZT (upd l j) i t u w' n z := fun h1 h2 => by
 rw [upd_k l hi] at h1; rw [upd_k l ht] at h2
 obtain ⟨b,e1,e2,e3⟩ := h h1 h2
 exact ⟨b,e1,e2,e3.off ho (fun c => c)⟩
theorem PZT.gone {l : Nat -> Bool} {i t : Nat} {u : Value} {w : World} {n z : Nat} : PZT (upd l t) i t u w n z := fun _ h => by rw [upd_same] at h; cases h
theorem PZT.past {l : Nat -> Bool} {i t j : Nat} {u : Value} {w : World} {n z : Nat} (h : l t = true) (hk : (j == t) = false) : PZT (upd l j) i t u w n z := fun _ h2 => by rw [upd_k l hk,h] at h2; cases h2
/-- The new list of lists,till operation t. -/
def PLT (l : Nat -> Bool) (i t : Nat) (u : Value) (w : World) (zss : List (List Nat)) (z : Nat) : Prop := l i = true -> l t = false -> LLsAt w u zss (fun k => z <= k)
theorem PLT.new {l : Nat -> Bool} {i t : Nat} {u : Value} {w : World} {zss : List (List Nat)} {z : Nat} (h : LLsAt w u zss (fun k => z <= k)) : PLT (upd l i) i t u w zss z := fun _ _ => h
theorem PLT.keep {l : Nat -> Bool} {i t j : Nat} {u : Value} {w w' : World} {zss : List (List Nat)} {z : Nat} (h : PLT l i t u w zss z) (ho : Off (fun _ => False) w w') (hi : (j == i) = false) (ht : (j == t) = false) : PLT (upd l j) i t u w' zss z := fun h1 h2 => by
 rw [upd_k l hi] at h1; rw [upd_k l ht] at h2
 exact (h h1 h2).off ho (fun _ _ _ c => c)
theorem PLT.gone {l : Nat -> Bool} {i t : Nat} {u : Value} {w : World} {zss : List (List Nat)} {z : Nat} : PLT (upd l t) i t u w zss z := fun _ h => by rw [upd_same] at h; cases h
theorem ftE_small {n : Nat} (hn : n <= 5) (k : Int) : (ftE n k).length <= 1200 := by
 have a1 := wpE_length n n; have a2 : n * n <= 5 * 5 := Nat.mul_le_mul hn hn; have a3 := batE_le n; have a4 := blE_le n k
 unfold ftE iE
 simp only [List.length_append,prE_length]
 omega
set_option maxRecDepth 100000 in
set_option maxHeartbeats 4000000 in
theorem walk (i0 : Bool) (a1 : Option Addr) (n1 cap1 : Nat) (is1 : List Int) (i2 : Int) (w : World) (w0 : True) (hn1 : n1 = is1.length) (w1 : IvAt w (.slice a1 n1 cap1) is1 (fun k => k < w.heap.size)) (w2 : (Lit.int .i64 i2).wf = true) (hT : TabAt w) :
  Calls Tryd.prog 5 #[.bool i0,.slice a1 n1 cap1,.int .i64 i2] w fun e w' => e = .returned (.bool true) /\ Off (fun _ => False) w w' := by
 obtain ⟨id,p,i,r,s,hF,hid⟩ := fld_of i0
 have hp := hF.mp.lt
 have h1 := hF.mp.one
 have hp0 : 0 < p := by omega
 obtain ⟨_,hfer,_,hbig⟩ := fld_full hF
 have FG := Lib.hid (fun W hT => get10_any i0 hF hid W hT)
 have FAL : Hid (∀ W,TabAt W -> Calls Tryd.prog 8 #[] W fun e w' => e = .returned (.bool true) /\ Off (fun _ => False) W w') := Lib.hid (fun W hT => alive10_any W hT)
 obtain ⟨hnl,hnm,hws⟩ := w1.len
 have HL1 := Lib.hid (Iv.of w1)
 have HTw := Lib.hid hT
 by_cases hmx : 5 < n1
 ·have hbi : decide ((5 : Int) < (n1 : Int)) = true := by simp; omega
  have hbp : (5 : Int) < (n1 : Int) := by omega
  clear hF hid hp h1 hp0 hfer hbig FG hnl hnm hws hn1 w1 w2 hmx
  go_enter Tryd.func5,Tryd.ntmps5
  go_wp2_with fail
  refine (FAL.out _ (hT.off (Off.refl _ w))).mono ?_
  rintro e u0 ⟨rfl,hO⟩
  have HO := Lib.hid ((Off.refl _ w : Off (fun _ => False) w _).trans hO (fun _ _ c => c))
  clear hO
  go_wp2
  go_ret
  exact ⟨rfl,HO.out⟩
 ·have hbi : decide ((5 : Int) < (n1 : Int)) = false := by simp; omega
  have hbp : ¬ (5 : Int) < (n1 : Int) := by omega
  by_cases hc : chkV is1 = 0
  ·have HF := Lib.hid hF
   have hr1 : r = fm p 1 := by rw [fm_one]; exact hF.rr
   have hrR : r < R256 := by rw [hr1]; exact Nat.lt_trans (fm_lt hp0 1) hp
   have hm1 : (List.replicate n1 1).map (fm p) = List.replicate n1 r := by rw [List.map_replicate,hr1]
   have hm0 : (List.replicate n1 0).map (fm p) = List.replicate n1 0 := by rw [List.map_replicate,fm_zero]
   have hn5 : n1 <= 5 := by omega
   obtain ⟨l1,hl1⟩ : ∃ l,l = blE n1 i2 := ⟨_,rfl⟩
   obtain ⟨l2,hl2⟩ : ∃ l,l = ftE n1 i2 := ⟨_,rfl⟩
   obtain ⟨l3,hl3⟩ : ∃ l,l = alE n1 i2 2 := ⟨_,rfl⟩
   have hlen : l1.length <= 20000 /\ l2.length <= 20000 /\ l3.length <= 90000 := by
    rw [hl1,hl2,hl3]
    have a1 := blE_le n1 i2; have a2 := ftE_small hn5 i2; have a3 := alE_le (show n1 <= 90 by omega) i2 2
    omega
   obtain ⟨M1,hM1⟩ : ∃ M,M = Go.Proofs.YtggebccgiigboaaDoor.mk (lowV (List.replicate n1 r) i2.toNat) := ⟨_,rfl⟩
   obtain ⟨M2,hM2⟩ : ∃ M,M = fitM p is1 (List.replicate n1 1) i2 := ⟨_,rfl⟩
   obtain ⟨M3,hM3⟩ : ∃ M,M = Go.Proofs.YtggebccgiigboaaDoor.mk ([List.replicate n1 1,List.replicate n1 0].all (fun ys => lowV (itpL p (ptV is1) ys) i2.toNat)) := ⟨_,rfl⟩
   have FBr := Lib.hid (show ∀ fb yb z0 z1 z2 z3 z4 W,DvS w W id p i r s fb n1 yb z0 z1 z2 z3 z4 (.slice a1 n1 cap1) is1 -> Tp W (some ⟨z0,0,none⟩) [] (fun k => z0 <= k /\ k < z1) -> Calls Tryd.prog 18 #[.pointer (some ⟨z0,0,none⟩),.slice (some ⟨yb,0,none⟩) n1 n1,.int .i64 i2] W fun e w' => e = .returned (.int .u64 M1) /\ Noted W.heap.size (some ⟨z0,0,none⟩) [] l1 (fun k => z0 <= k /\ k < z1) w' /\ Off (fun k => z0 <= k /\ k < z1) W w' from fun fb yb z0 z1 z2 z3 z4 W h t => by
    rw [hl1,hM1]
    have hb := h.b
    exact below_any (List.replicate n1 r) (fun z hz => by rw [List.eq_of_mem_replicate hz]; exact hrR) n1 n1 _ (by simp) (by omega) i2 (some ⟨z0,0,none⟩) [] _ (fun k => k = yb) W (ls_blk h.O (by simp) (by omega) rfl) (fun k c => by have c : k = yb := c; subst c; exact ⟨by omega,fun d => by omega⟩) t (by simp))
   have FFr := Lib.hid (show ∀ fb yb z0 z1 z2 z3 z4 W,DvS w W id p i r s fb n1 yb z0 z1 z2 z3 z4 (.slice a1 n1 cap1) is1 -> Tp W (some ⟨z1,0,none⟩) [] (fun k => z1 <= k /\ k < z2) -> Calls Tryd.prog 11 #[.pointer (some ⟨z1,0,none⟩),FV id p i r s,.slice a1 n1 cap1,.slice (some ⟨yb,0,none⟩) n1 n1,.int .i64 i2] W fun e w' => e = .returned (.tuple #[.int .u64 M2,.int .i64 0]) /\ Noted W.heap.size (some ⟨z1,0,none⟩) [] l2 (fun k => z1 <= k /\ k < z2) w' /\ Off (fun k => z1 <= k /\ k < z2) W w' from fun fb yb z0 z1 z2 z3 z4 W h t => by
    rw [hl2,hM2]
    have hb := h.b
    exact fits_any hF is1 hc n1 hn1 (by omega) (List.replicate n1 1) (by simp) i2 (some ⟨z1,0,none⟩) [] _ (fun k => k = yb) _ _ _ _ W (Iv.of h.I) (by rw [hm1]; exact ls_blk h.O (by simp) (by omega) rfl) (fun k c => by have c : k = yb := c; subst c; exact ⟨by omega,fun d => by omega⟩) t (by simp))
   have FAr := Lib.hid (show ∀ fb yb z0 z1 z2 z3 z4 (S : Nat -> Prop) W u,(∀ k,S k -> z2 <= k /\ k < z3) -> DvS w W id p i r s fb n1 yb z0 z1 z2 z3 z4 (.slice a1 n1 cap1) is1 -> Tp W (some ⟨z2,0,none⟩) [] S -> LLsAt W u [List.replicate n1 r,List.replicate n1 0] (fun k => z3 <= k) -> Calls Tryd.prog 15 #[.pointer (some ⟨z2,0,none⟩),FV id p i r s,.slice a1 n1 cap1,u,.int .i64 i2] W fun e w' => e = .returned (.tuple #[.int .u64 M3,.int .i64 0]) /\ Noted W.heap.size (some ⟨z2,0,none⟩) [] l3 S w' /\ Off S W w' from fun fb yb z0 z1 z2 z3 z4 S W u hS h t hu => by
    rw [hl3,hM3]
    have hb := h.b
    have hu2 := hu
    obtain ⟨a,cap,rfl,_⟩ := hu2
    refine all_any hF is1 hc n1 hn1 (by omega) [List.replicate n1 1,List.replicate n1 0] 2 rfl (by omega) (fun ys hy => by
     simp only [List.mem_cons,List.not_mem_nil,or_false] at hy
     rcases hy with rfl | rfl <;> simp) i2 (some ⟨z2,0,none⟩) [] S (fun k => (k < z0 ∨ z3 <= k) /\ k < W.heap.size) _ a cap1 cap W (h.I.mono (fun k hk c => ⟨.inl c,hk⟩)) ?_ (fun k c => ⟨c.2,fun d => by have := hS k d; have := c.1; omega⟩) t (fun j hj => ?_)
    ·simp only [List.map_cons,List.map_nil,hm1,hm0]
     exact hu.mono (fun k hk c => ⟨.inr c,hk⟩)
    ·have h1 := ext_le (some ⟨z2,0,none⟩) [] (alE n1 i2 j)
     have h2 := ftE_small hn5 i2
     have h3 : (alE n1 i2 j).length <= 1201 := by
      have : j = 0 ∨ j = 1 := by omega
      rcases this with rfl | rfl
      ·simp [alE]
      ·simp only [alE,List.nil_append,List.length_cons]; omega
     simp at h1; omega)
   have FE1 := Lib.hid (show ∀ W,Calls Tryd.prog 21 #[.int .i64 (n1 : Int),.int .i64 i2] W fun e w' => ∃ v,e = .returned v /\ EvsAt w' v l1 (fun _ => True) /\ Off (fun _ => False) W w' from fun W => by
    rw [hl1]
    refine (bevents_own n1 (by omega) i2 W).mono ?_
    rintro e w' ⟨a,c,rfl,hown,hO⟩
    exact ⟨_,rfl,(evs_of_own hown).mono (fun _ _ _ => trivial),hO⟩)
   have FE2 := Lib.hid (show ∀ W,Calls Tryd.prog 22 #[.int .i64 (n1 : Int),.int .i64 i2] W fun e w' => ∃ v,e = .returned v /\ EvsAt w' v l2 (fun _ => True) /\ Off (fun _ => False) W w' from fun W => by
    rw [hl2]
    refine (fevents_own n1 (by omega) i2 W).mono ?_
    rintro e w' ⟨v,rfl,hown,hO⟩
    exact ⟨_,rfl,(evs_of_own hown).mono (fun _ _ _ => trivial),hO⟩)
   have FE3 := Lib.hid (show ∀ W,Calls Tryd.prog 23 #[.int .i64 (n1 : Int),.int .i64 i2,.int .i64 2] W fun e w' => ∃ v,e = .returned v /\ EvsAt w' v l3 (fun _ => True) /\ Off (fun _ => False) W w' from fun W => by
    rw [hl3]
    refine (aevents_own n1 (by omega) i2 2 (by omega) W).mono ?_
    rintro e w' ⟨v,rfl,hown,hO⟩
    exact ⟨_,rfl,(evs_of_own hown).mono (fun _ _ _ => trivial),hO⟩)
   have FSa := Lib.hid (show ∀ W sx sy ls Sx Sy,EvsAt W sx ls Sx -> EvsAt W sy ls Sy -> ls.length <= 100000 -> Calls Tryd.prog 19 #[sx,sy] W fun e w' => e = .returned (.bool true) /\ Off (fun _ => False) W w' from fun W sx sy ls Sx Sy h k hl => by have g := same_any sx sy ls ls Sx Sy W h k hl hl; rw [decide_eq_true rfl] at g; exact g)
   have FRp := Lib.hid (show ∀ W v,Ls W v [r] -> Calls Tryd.prog 17 #[v,.int .i64 (n1 : Int)] W fun e w' => ∃ b,e = .returned (.slice (some ⟨b,0,none⟩) n1 n1) /\ W.heap.size <= b /\ NumsAt w' b 29 (List.replicate n1 r) /\ Off (fun _ => False) W w' from fun W v h => repeat_any r n1 (by omega) v W h)
   have hmk := run_make_el n1 (by omega)
   have HN5 := Lib.hid (show n1 <= 1000 by omega)
   have FC := Lib.hid (show ∀ W,Iv W (.slice a1 n1 cap1) is1 -> Calls Tryd.prog 12 #[.slice a1 n1 cap1] W fun e w' => e = .returned (.int .i64 0) /\ Off (fun _ => False) W w' from fun W h => by have g := refcheck_any is1 (by omega) _ W h; rw [hc] at g; exact g)
   obtain ⟨hq1,hq2,hq3⟩ := hlen
   clear hr1 hrR hm1 hm0 hl1 hl2 hl3 hM1 hM2 hM3 hc hmx hF hid hp h1 hp0 hfer hbig hnl hnm hws hn1 w1 w2 hT
   go_enter Tryd.func5,Tryd.ntmps5
   go_wp2_with fail
   refine (FC.out _ HL1.out).mono ?_
   rintro e u0' ⟨rfl,hOc⟩
   go_wp2_with fail
   refine (FG.out _ (HTw.out.off hOc)).mono ?_
   rintro e u0 ⟨rfl,hO1⟩
   obtain ⟨W1,hW1⟩ : ∃ W1,W1 = (u0.alloc (.cells #[.int .i64 id,.int .u64 (wd p 0 : Int),.int .u64 (wd p 1 : Int),.int .u64 (wd p 2 : Int),.int .u64 (wd p 3 : Int),.int .u64 (i : Int),.int .u64 (wd r 0 : Int),.int .u64 (wd r 1 : Int),.int .u64 (wd r 2 : Int),.int .u64 (wd r 3 : Int),.int .u64 (wd s 0 : Int),.int .u64 (wd s 1 : Int),.int .u64 (wd s 2 : Int),.int .u64 (wd s 3 : Int)] 31)).alloc (.cells #[.int .u64 (wd p 0 : Int),.int .u64 (wd p 1 : Int),.int .u64 (wd p 2 : Int),.int .u64 (wd p 3 : Int)] 28) := ⟨_,rfl⟩
   have o1 : Off (fun _ => False) u0 W1 := by rw [hW1]; exact ((Off.refl _ u0).alloc _).alloc _
   have g_F : W1.heap[u0.heap.size]? = some (.cells #[.int .i64 id,.int .u64 (wd p 0 : Int),.int .u64 (wd p 1 : Int),.int .u64 (wd p 2 : Int),.int .u64 (wd p 3 : Int),.int .u64 (i : Int),.int .u64 (wd r 0 : Int),.int .u64 (wd r 1 : Int),.int .u64 (wd r 2 : Int),.int .u64 (wd r 3 : Int),.int .u64 (wd s 0 : Int),.int .u64 (wd s 1 : Int),.int .u64 (wd s 2 : Int),.int .u64 (wd s 3 : Int)] 31 (0,0)) := by rw [hW1]; exact heap_old' (heap_new' rfl _) _
   have g_P : W1.heap[u0.heap.size + 1]? = some (.cells #[.int .u64 (wd p 0 : Int),.int .u64 (wd p 1 : Int),.int .u64 (wd p 2 : Int),.int .u64 (wd p 3 : Int)] 28 (0,0)) := by rw [hW1]; exact heap_new' (by simp) _
   have hOw := (hOc : Off (fun _ => False) w _).trans (hO1.trans o1 (fun _ _ c => c)) (fun _ _ c => c)
   obtain ⟨fb,hfb⟩ : ∃ fb,fb = u0.heap.size := ⟨_,rfl⟩
   obtain ⟨pb,hpb⟩ : ∃ pb,pb = u0.heap.size + 1 := ⟨_,rfl⟩
   rw [<- hfb] at g_F
   rw [<- hpb] at g_P
   have HW := Lib.hid (show ∀ W,Off (fun _ => False) W1 W -> W.heap[fb]? = some (.cells #[.int .i64 id,.int .u64 (wd p 0 : Int),.int .u64 (wd p 1 : Int),.int .u64 (wd p 2 : Int),.int .u64 (wd p 3 : Int),.int .u64 (i : Int),.int .u64 (wd r 0 : Int),.int .u64 (wd r 1 : Int),.int .u64 (wd r 2 : Int),.int .u64 (wd r 3 : Int),.int .u64 (wd s 0 : Int),.int .u64 (wd s 1 : Int),.int .u64 (wd s 2 : Int),.int .u64 (wd s 3 : Int)] 31 (0,0)) /\ W.heap[pb]? = some (.cells #[.int .u64 (wd p 0 : Int),.int .u64 (wd p 1 : Int),.int .u64 (wd p 2 : Int),.int .u64 (wd p 3 : Int)] 28 (0,0)) /\ Off (fun _ => False) w W from fun W h => ⟨h.heap g_F (fun c => c),h.heap g_P (fun c => c),hOw.trans h (fun _ _ c => c)⟩)
   have HO := Lib.hid (Off.refl (fun _ => False) W1)
   have HW1 := Lib.hid hW1
   have hfw := heap_lt g_F
   go_upto_region 5 with fail
   rw [<- HW1.out]
   rw [<- hpb,<- hfb]
   have HFw := Lib.hid (show fb < W1.heap.size /\ w.heap.size <= W1.heap.size from ⟨hfw,hOw.size⟩)
   clear g_F g_P hOw hW1 hfb hpb o1 hO1 HW1 hOc hfw
   obtain ⟨z0,ha0⟩ : ∃ a,a = W1.heap.size := ⟨_,rfl⟩
   have HA0 := Lib.hid ha0
   clear ha0
   go_wp2_with fail
   refine (new_tp _).mono ?_
   rintro e A1 ⟨rfl,hT1,hO1⟩
   rw [<- HA0.out] at hT1 ⊢
   obtain ⟨z1,ha1⟩ : ∃ a,a = A1.heap.size := ⟨_,rfl⟩
   rw [<- ha1] at hT1
   have HT1 := Lib.hid hT1
   have HO1 := Lib.hid hO1
   have HA1 := Lib.hid ha1
   clear hT1 hO1 ha1
   go_wp2_with fail
   refine (new_tp _).mono ?_
   rintro e A2 ⟨rfl,hT2,hO2⟩
   rw [<- HA1.out] at hT2 ⊢
   obtain ⟨z2,ha2⟩ : ∃ a,a = A2.heap.size := ⟨_,rfl⟩
   rw [<- ha2] at hT2
   have HT2 := Lib.hid hT2
   have HO2 := Lib.hid hO2
   have HA2 := Lib.hid ha2
   clear hT2 hO2 ha2
   go_wp2_with fail
   refine (new_tp _).mono ?_
   rintro e A3 ⟨rfl,hT3,hO3⟩
   rw [<- HA2.out] at hT3 ⊢
   obtain ⟨z3,ha3⟩ : ∃ a,a = A3.heap.size := ⟨_,rfl⟩
   rw [<- ha3] at hT3
   have HT3 := Lib.hid hT3
   have HO3 := Lib.hid hO3
   have HA3 := Lib.hid ha3
   clear hT3 hO3 ha3
   have HO03 := Lib.hid ((HO1.out.trans HO2.out (fun _ _ c => c)).trans HO3.out (fun _ _ c => c))
   obtain ⟨g_F,g_P,hOw⟩ := HW.out _ HO03.out
   obtain ⟨f0,f1,f2,f3,f4,f5,f6,f7,f8,f9,f10,f11,f12,f13⟩ := fv_cells g_F
   have hlf := heap_lt g_F
   clear g_F g_P hOw
   go_wp2_with fail
   clear f0 f1 f2 f3 f4 f5 f6 f7 f8 f9 f10 f11 f12 f13 hlf
   refine (FRp.out _ _ (one_ls A3 r)).mono ?_
   rintro e A4 ⟨yb,rfl,hyb,hN,hO4⟩
   obtain ⟨z4,ha4⟩ : ∃ a,a = A4.heap.size := ⟨_,rfl⟩
   have h34 : Off (fun _ => False) A3 A4 := ((Off.refl _ A3).alloc _).trans hO4 (fun _ _ c => c)
   have HE : Hid (DvS w A4 id p i r s fb n1 yb z0 z1 z2 z3 z4 (.slice a1 n1 cap1) is1) := Lib.hid (by
    obtain ⟨g1,g2,g3⟩ := HW.out _ (HO03.out.trans h34 (fun _ _ c => c))
    have c1 := HO1.out.size; have c2 := HO2.out.size; have c3 := HO3.out.size; have c4 := h34.size
    have d0 := HA0.out; have d1 := HA1.out; have d2 := HA2.out; have d3 := HA3.out
    have e1 := HFw.out
    have e2 := NumsAt.lt hN
    have e3 : (A3.alloc (.cells #[.int .u64 (wd r 0 : Int),.int .u64 (wd r 1 : Int),.int .u64 (wd r 2 : Int),.int .u64 (wd r 3 : Int)] 29)).heap.size = A3.heap.size + 1 := by simp
    exact ⟨g1,(IvAt.off (Iv.lt HL1.out) g3 (fun _ _ _ c => c)).mono (fun k _ c => by have c : k < w.heap.size := c; omega),hN,⟨by omega,by omega,by omega,by omega,by omega,by omega,by omega,by omega,by omega⟩,g3⟩)
   have H1 := Lib.hid (((HT1.out.off0 HO2.out).off0 HO3.out).off0 h34)
   have H2 := Lib.hid ((HT2.out.off0 HO3.out).off0 h34)
   have H3 := Lib.hid (HT3.out.off0 h34)
   clear ha4 hyb hN hO4 h34 HT1 HT2 HT3 HO1 HO2 HO3 HO03 HA0 HA1 HA2 HA3 HFw HW HO
   go_wp2_with fail
   refine (FBr.out _ _ _ _ _ _ _ A4 HE.out H1.out).mono ?_
   rintro e A5 ⟨rfl,hN,hO⟩
   have hb := HE.out.b
   have hE := HE.out.go hO (fun k c => by omega)
   have h1 : TpR A5 z0 l1 z1 z4 := TpR.of hN hb.2.2.2.2.2.2.2.2
   have h2 := H2.out.off hO (fun k c d => by omega)
   have h3 := H3.out.off hO (fun k c d => by omega)
   clear HE H1 H2 H3 hO hb hN
   have HE := Lib.hid hE
   have R1 := Lib.hid h1
   have H2 := Lib.hid h2
   have H3 := Lib.hid h3
   clear hE h1 h2 h3
   obtain ⟨f0,f1,f2,f3,f4,f5,f6,f7,f8,f9,f10,f11,f12,f13⟩ := fv_cells HE.out.F
   have hlf := heap_lt HE.out.F
   go_wp2_with fail
   clear f0 f1 f2 f3 f4 f5 f6 f7 f8 f9 f10 f11 f12 f13 hlf
   refine (FFr.out _ _ _ _ _ _ _ A5 HE.out H2.out).mono ?_
   rintro e A6 ⟨rfl,hN,hO⟩
   have hb := HE.out.b
   have hE := HE.out.go hO (fun k c => by omega)
   have h1 := R1.out.go hO (fun k c => by omega)
   have h2 : TpR A6 z1 l2 z2 z4 := TpR.of hN hb.2.2.2.2.2.2.2.2
   have h3 := H3.out.off hO (fun k c d => by omega)
   obtain ⟨S3,hS3⟩ : ∃ S : Nat -> Prop,S = fun k => z2 <= k /\ k < z3 := ⟨_,rfl⟩
   rw [<- hS3] at h3
   clear HE R1 H2 H3 hO hb hN
   have HS3 := Lib.hid (show ∀ k,S3 k -> z2 <= k /\ k < z3 from fun k c => by rw [hS3] at c; exact c)
   have HE := Lib.hid hE
   have R1 := Lib.hid h1
   have R2 := Lib.hid h2
   have H3 := Lib.hid h3
   clear hE h1 h2 h3 hS3
   have HKE := Lib.hid (show ∀ W',Off (fun k => S3 k) A6 W' -> DvS w W' id p i r s fb n1 yb z0 z1 z2 z3 z4 (.slice a1 n1 cap1) is1 from fun W' h => HE.out.go h (fun k c => by have := HS3.out k c; have := HE.out.b; omega))
   have HK : Hid (∀ W',Off (fun k => S3 k) A6 W' -> (W'.cell? ⟨fb,0,none⟩ = some (.int .i64 id) /\ W'.cell? ⟨fb,1,none⟩ = some (.int .u64 (wd p 0 : Int)) /\ W'.cell? ⟨fb,2,none⟩ = some (.int .u64 (wd p 1 : Int)) /\ W'.cell? ⟨fb,3,none⟩ = some (.int .u64 (wd p 2 : Int)) /\ W'.cell? ⟨fb,4,none⟩ = some (.int .u64 (wd p 3 : Int)) /\ W'.cell? ⟨fb,5,none⟩ = some (.int .u64 (i : Int)) /\ W'.cell? ⟨fb,6,none⟩ = some (.int .u64 (wd r 0 : Int)) /\ W'.cell? ⟨fb,7,none⟩ = some (.int .u64 (wd r 1 : Int)) /\ W'.cell? ⟨fb,8,none⟩ = some (.int .u64 (wd r 2 : Int)) /\ W'.cell? ⟨fb,9,none⟩ = some (.int .u64 (wd r 3 : Int)) /\ W'.cell? ⟨fb,10,none⟩ = some (.int .u64 (wd s 0 : Int)) /\ W'.cell? ⟨fb,11,none⟩ = some (.int .u64 (wd s 1 : Int)) /\ W'.cell? ⟨fb,12,none⟩ = some (.int .u64 (wd s 2 : Int)) /\ W'.cell? ⟨fb,13,none⟩ = some (.int .u64 (wd s 3 : Int))) /\ Off (fun k => S3 k) A6 W') := Lib.hid (fun W' h => ⟨fv_cells (HKE.out W' h).F,h⟩)
   have HZ3 := Lib.hid (show z3 <= A6.heap.size by have := HE.out.b; omega)
   go_upto_region 9 with fail
   refine wp_region_inv (fun a0 l a' w' => ∃ (u47 : Value) (u48 : Value) (u49 : Value) (u50 : Value) (u51 : Value) (u52 : Value) (u53 : Value) (u54 : Value) (u55 : Value),a' = (Act.put (Act.put (Act.put (Act.put (Act.put (Act.put (Act.put (Act.put (Act.put a0 (some 47) u47) (some 48) u48) (some 49) u49) (some 50) u50) (some 51) u51) (some 52) u52) (some 53) u53) (some 54) u54) (some 55) u55) /\ Slot l 0 u47 (.pointer (some ⟨z2,0,none⟩)) /\ Slot l 1 u48 (FV id p i r s) /\ Slot l 2 u49 (.slice a1 n1 cap1) /\ Slot l 3 u50 (.slice (some ⟨yb,0,none⟩) n1 n1) /\ Slot l 4 u51 (.int .i64 (n1 : Int)) /\ Slot l 7 u54 (.int .i64 i2) /\ Slot l 8 u55 (.tuple #[.int .u64 M3,.int .i64 0]) /\ PZT l 5 6 u52 w' n1 z3 /\ PLT l 6 8 u53 w' [List.replicate n1 r,List.replicate n1 0] z3 /\ TpI l 8 A6 w' (some ⟨z2,0,none⟩) [] l3 S3 /\ Off (fun k => S3 k) A6 w') (by kernel_rfl) (by kernel_rfl) ?_ ⟨?_,?_,?_,?_,?_,?_,?_,?_,?_,trivial⟩ ?_
   ·refine ⟨?z47,?z48,?z49,?z50,?z51,?z52,?z53,?z54,?z55,?fr,Slot.start _ _ _,Slot.start _ _ _,Slot.start _ _ _,Slot.start _ _ _,Slot.start _ _ _,Slot.start _ _ _,Slot.start _ _ _,(fun h => by cases h),(fun h => by cases h),TpI.start H3.out _ _ _,(Off.refl _ A6).drew⟩
    case fr => first | (simp only [Act.put,List.setIfInBounds_toArray,List.set_cons_zero,List.set_cons_succ]; rfl) | simp only [Act.put,List.setIfInBounds_toArray,List.set_cons_zero,List.set_cons_succ]
   ·intro l a wr hI hl hd K' hK
    obtain ⟨u47,u48,u49,u50,u51,u52,u53,u54,u55,ha,s0,s1,s2,s3,s4,s7,s8,M5,M6,TP,hO⟩ := hI
    simp only [Act.put,List.setIfInBounds_toArray,List.set_cons_zero,List.set_cons_succ] at ha
    subst ha
    go_simp
    refine hK.out _ _ ⟨_,_,_,_,_,_,_,_,_,?_,Slot.new _ _ _,s1.keep rfl,s2.keep rfl,s3.keep rfl,s4.keep rfl,s7.keep rfl,s8.keep rfl,M5.keep (Off.refl _ wr) rfl rfl,M6.keep (Off.refl _ wr) rfl rfl,TP.same rfl,hO⟩
    simp only [Act.put,List.setIfInBounds_toArray,List.set_cons_zero,List.set_cons_succ]
   ·intro l a wr hI hl hd K' hK
    obtain ⟨u47,u48,u49,u50,u51,u52,u53,u54,u55,ha,s0,s1,s2,s3,s4,s7,s8,M5,M6,TP,hO⟩ := hI
    simp only [Act.put,List.setIfInBounds_toArray,List.set_cons_zero,List.set_cons_succ] at ha
    subst ha
    have hc := HK.out wr hO
    have p0 := hc.1.1
    have p1 := hc.1.2.1
    have p2 := hc.1.2.2.1
    have p3 := hc.1.2.2.2.1
    have p4 := hc.1.2.2.2.2.1
    have p5 := hc.1.2.2.2.2.2.1
    have p6 := hc.1.2.2.2.2.2.2.1
    have p7 := hc.1.2.2.2.2.2.2.2.1
    have p8 := hc.1.2.2.2.2.2.2.2.2.1
    have p9 := hc.1.2.2.2.2.2.2.2.2.2.1
    have p10 := hc.1.2.2.2.2.2.2.2.2.2.2.1
    have p11 := hc.1.2.2.2.2.2.2.2.2.2.2.2.1
    have p12 := hc.1.2.2.2.2.2.2.2.2.2.2.2.2.1
    have p13 := hc.1.2.2.2.2.2.2.2.2.2.2.2.2.2
    clear hc
    go_simp
    refine hK.out _ _ ⟨_,_,_,_,_,_,_,_,_,?_,s0.keep rfl,Slot.new _ _ _,s2.keep rfl,s3.keep rfl,s4.keep rfl,s7.keep rfl,s8.keep rfl,M5.keep (Off.refl _ wr) rfl rfl,M6.keep (Off.refl _ wr) rfl rfl,TP.same rfl,hO⟩
    simp only [Act.put,List.setIfInBounds_toArray,List.set_cons_zero,List.set_cons_succ]
   ·intro l a wr hI hl hd K' hK
    obtain ⟨u47,u48,u49,u50,u51,u52,u53,u54,u55,ha,s0,s1,s2,s3,s4,s7,s8,M5,M6,TP,hO⟩ := hI
    simp only [Act.put,List.setIfInBounds_toArray,List.set_cons_zero,List.set_cons_succ] at ha
    subst ha
    go_simp
    refine hK.out _ _ ⟨_,_,_,_,_,_,_,_,_,?_,s0.keep rfl,s1.keep rfl,Slot.new _ _ _,s3.keep rfl,s4.keep rfl,s7.keep rfl,s8.keep rfl,M5.keep (Off.refl _ wr) rfl rfl,M6.keep (Off.refl _ wr) rfl rfl,TP.same rfl,hO⟩
    simp only [Act.put,List.setIfInBounds_toArray,List.set_cons_zero,List.set_cons_succ]
   ·intro l a wr hI hl hd K' hK
    obtain ⟨u47,u48,u49,u50,u51,u52,u53,u54,u55,ha,s0,s1,s2,s3,s4,s7,s8,M5,M6,TP,hO⟩ := hI
    simp only [Act.put,List.setIfInBounds_toArray,List.set_cons_zero,List.set_cons_succ] at ha
    subst ha
    go_simp
    refine hK.out _ _ ⟨_,_,_,_,_,_,_,_,_,?_,s0.keep rfl,s1.keep rfl,s2.keep rfl,Slot.new _ _ _,s4.keep rfl,s7.keep rfl,s8.keep rfl,M5.keep (Off.refl _ wr) rfl rfl,M6.keep (Off.refl _ wr) rfl rfl,TP.same rfl,hO⟩
    simp only [Act.put,List.setIfInBounds_toArray,List.set_cons_zero,List.set_cons_succ]
   ·intro l a wr hI hl hd K' hK
    obtain ⟨u47,u48,u49,u50,u51,u52,u53,u54,u55,ha,s0,s1,s2,s3,s4,s7,s8,M5,M6,TP,hO⟩ := hI
    simp only [Act.put,List.setIfInBounds_toArray,List.set_cons_zero,List.set_cons_succ] at ha
    subst ha
    go_simp
    refine hK.out _ _ ⟨_,_,_,_,_,_,_,_,_,?_,s0.keep rfl,s1.keep rfl,s2.keep rfl,s3.keep rfl,Slot.new _ _ _,s7.keep rfl,s8.keep rfl,M5.keep (Off.refl _ wr) rfl rfl,M6.keep (Off.refl _ wr) rfl rfl,TP.same rfl,hO⟩
    simp only [Act.put,List.setIfInBounds_toArray,List.set_cons_zero,List.set_cons_succ]
   ·intro l a wr hI hl hd K' hK
    obtain ⟨u47,u48,u49,u50,u51,u52,u53,u54,u55,ha,s0,s1,s2,s3,s4,s7,s8,M5,M6,TP,hO⟩ := hI
    simp only [Act.put,List.setIfInBounds_toArray,List.set_cons_zero,List.set_cons_succ] at ha
    have q4 := s4 (hd 4 (by decide))
    subst ha q4
    go_simp
    refine hK.out _ _ ⟨_,_,_,_,_,_,_,_,_,?_,s0.keep rfl,s1.keep rfl,s2.keep rfl,s3.keep rfl,s4.keep rfl,s7.keep rfl,s8.keep rfl,PZT.new (⟨_,rfl,Nat.le_trans HZ3.out hO.size,heap_new' rfl _⟩),M6.keep ((Off.refl _ wr).alloc _) rfl rfl,TP.keep ((Off.refl _ wr).alloc _) rfl,hO.alloc _⟩
    simp only [Act.put,List.setIfInBounds_toArray,List.set_cons_zero,List.set_cons_succ]
   ·intro l a wr hI hl hd K' hK
    obtain ⟨u47,u48,u49,u50,u51,u52,u53,u54,u55,ha,s0,s1,s2,s3,s4,s7,s8,M5,M6,TP,hO⟩ := hI
    simp only [Act.put,List.setIfInBounds_toArray,List.set_cons_zero,List.set_cons_succ] at ha
    have q3 := s3 (hd 3 (by decide))
    have m5 := M5 (hd 5 (by decide)) hl
    subst ha q3
    obtain ⟨b52,rfl,hb52,hN52⟩ := m5
    go_simp
    refine hK.out _ _ ⟨_,_,_,_,_,_,_,_,_,?_,s0.keep rfl,s1.keep rfl,s2.keep rfl,s3.keep rfl,s4.keep rfl,s7.keep rfl,s8.keep rfl,PZT.gone (u := .slice (some ⟨b52,0,none⟩) n1 n1),PLT.new (two_lists (HKE.out wr hO).O hN52 (HKE.out wr hO).b.2.1 hb52 (Nat.le_trans HZ3.out hO.size) HN5.out),TP.keep ((Off.refl _ wr).alloc _) rfl,hO.alloc _⟩
    simp only [Act.put,List.setIfInBounds_toArray,List.set_cons_zero,List.set_cons_succ]
   ·intro l a wr hI hl hd K' hK
    obtain ⟨u47,u48,u49,u50,u51,u52,u53,u54,u55,ha,s0,s1,s2,s3,s4,s7,s8,M5,M6,TP,hO⟩ := hI
    simp only [Act.put,List.setIfInBounds_toArray,List.set_cons_zero,List.set_cons_succ] at ha
    subst ha
    go_simp
    refine hK.out _ _ ⟨_,_,_,_,_,_,_,_,_,?_,s0.keep rfl,s1.keep rfl,s2.keep rfl,s3.keep rfl,s4.keep rfl,Slot.new _ _ _,s8.keep rfl,M5.keep (Off.refl _ wr) rfl rfl,M6.keep (Off.refl _ wr) rfl rfl,TP.same rfl,hO⟩
    simp only [Act.put,List.setIfInBounds_toArray,List.set_cons_zero,List.set_cons_succ]
   ·intro l a wr hI hl hd K' hK
    obtain ⟨u47,u48,u49,u50,u51,u52,u53,u54,u55,ha,s0,s1,s2,s3,s4,s7,s8,M5,M6,TP,hO⟩ := hI
    simp only [Act.put,List.setIfInBounds_toArray,List.set_cons_zero,List.set_cons_succ] at ha
    have q0 := s0 (hd 0 (by decide))
    have q1 := s1 (hd 1 (by decide))
    have q2 := s2 (hd 2 (by decide))
    have q7 := s7 (hd 7 (by decide))
    have m6 := M6 (hd 6 (by decide)) hl
    subst ha q0 q1 q2 q7
    go_simp
    refine (FAr.out _ _ _ _ _ _ _ S3 wr _ HS3.out (HKE.out wr hO) (TP.was hl) m6).mono ?_
    rintro e w1 ⟨rfl,hT1,hOW⟩
    have hO1 := hO.trans hOW (fun _ _ c => c)
    go_wp2_with fail
    refine hK.out _ _ ⟨_,_,_,_,_,_,_,_,_,?_,s0.keep rfl,s1.keep rfl,s2.keep rfl,s3.keep rfl,s4.keep rfl,s7.keep rfl,Slot.new _ _ _,PZT.past (u := u52) (hd 6 (by decide)) rfl,PLT.gone (u := u53),TpI.note hT1 hO.size,hO1⟩
    simp only [Act.put,List.setIfInBounds_toArray,List.set_cons_zero,List.set_cons_succ]
   ·intro l a wc hI hd
    obtain ⟨u47,u48,u49,u50,u51,u52,u53,u54,u55,ha,s0,s1,s2,s3,s4,s7,s8,M5,M6,TP,hO⟩ := hI
    simp only [Act.put,List.setIfInBounds_toArray,List.set_cons_zero,List.set_cons_succ] at ha
    have q0 := s0 (hd 0 (by decide))
    have q1 := s1 (hd 1 (by decide))
    have q2 := s2 (hd 2 (by decide))
    have q3 := s3 (hd 3 (by decide))
    have q4 := s4 (hd 4 (by decide))
    have q7 := s7 (hd 7 (by decide))
    have q8 := s8 (hd 8 (by decide))
    have tp := TP.now (hd 8 (by decide))
    subst ha q0 q1 q2 q3 q4 q7 q8
    clear hd s0 s1 s2 s3 s4 s7 s8 M5 M6 TP
    have hb := HE.out.b
    have hE := HKE.out wc hO
    have h1 := R1.out.go hO (fun k c => by have := HS3.out k c; omega)
    have h2 := R2.out.go hO (fun k c => by have := HS3.out k c; omega)
    have h3 : TpR wc z2 l3 z3 z4 := TpR.of (show Noted A6.heap.size (some ⟨z2,0,none⟩) [] l3 (fun k => z2 <= k /\ k < z3) wc from by
     obtain ⟨S',t1,t2⟩ := tp
     exact ⟨S',t1,fun k c => (t2 k c).imp (HS3.out k) (fun d => d)⟩) hb.2.2.2.2.2.2.2.2
    clear HE R1 R2 H3 hO hb tp HK HKE HZ3 HS3 FAr FFr FBr FRp
    have HE := Lib.hid hE
    have R1 := Lib.hid h1
    have R2 := Lib.hid h2
    have R3 := Lib.hid h3
    clear hE h1 h2 h3
    go_wp2_with fail
    refine (FAL.out _ (HTw.out.off HE.out.off)).mono ?_
    rintro e B1 ⟨rfl,hO⟩
    have hE := HE.out.go hO (fun k c => c.elim)
    have h1 := R1.out.go hO (fun k c => c.elim)
    have h2 := R2.out.go hO (fun k c => c.elim)
    have h3 := R3.out.go hO (fun k c => c.elim)
    clear HE R1 R2 R3 hO
    have HE := Lib.hid hE
    have R1 := Lib.hid h1
    have R2 := Lib.hid h2
    have R3 := Lib.hid h3
    clear hE h1 h2 h3
    obtain ⟨S1',t1,-⟩ := R1.out
    have K1 := Lib.hid t1
    clear t1 R1
    go_wp2_with fail
    refine (events_any _ l1 _ _ K1.out.1 (by omega)).mono ?_
    rintro e C1 ⟨v1,rfl,hv,hO⟩
    have hE := HE.out.go hO (fun k c => c.elim)
    have h2 := R2.out.go hO (fun k c => c.elim)
    have h3 := R3.out.go hO (fun k c => c.elim)
    clear HE R2 R3 hO
    have HE := Lib.hid hE
    have R2 := Lib.hid h2
    have R3 := Lib.hid h3
    clear hE h2 h3
    have V1 := Lib.hid hv
    clear hv K1
    go_wp2_with fail
    refine (FE1.out _).mono ?_
    rintro e D1 ⟨u1,rfl,hu,hO⟩
    have hv := V1.out.off hO (fun _ _ _ c => c)
    have hE := HE.out.go hO (fun k c => c.elim)
    have h2 := R2.out.go hO (fun k c => c.elim)
    have h3 := R3.out.go hO (fun k c => c.elim)
    clear HE R2 R3 hO
    have HE := Lib.hid hE
    have R2 := Lib.hid h2
    have R3 := Lib.hid h3
    clear hE h2 h3
    clear V1
    have V1 := Lib.hid hv
    have U1 := Lib.hid hu
    clear hv hu
    go_wp2_with fail
    refine (FSa.out _ _ _ l1 _ _ V1.out U1.out (by omega)).mono ?_
    rintro e G1 ⟨rfl,hO⟩
    have hE := HE.out.go hO (fun k c => c.elim)
    have h2 := R2.out.go hO (fun k c => c.elim)
    have h3 := R3.out.go hO (fun k c => c.elim)
    clear HE R2 R3 hO
    have HE := Lib.hid hE
    have R2 := Lib.hid h2
    have R3 := Lib.hid h3
    clear hE h2 h3
    clear V1 U1
    obtain ⟨S2',t1,-⟩ := R2.out
    have K2 := Lib.hid t1
    clear t1 R2
    go_wp2_with fail
    refine (events_any _ l2 _ _ K2.out.1 (by omega)).mono ?_
    rintro e C2 ⟨v2,rfl,hv,hO⟩
    have hE := HE.out.go hO (fun k c => c.elim)
    have h3 := R3.out.go hO (fun k c => c.elim)
    clear HE R3 hO
    have HE := Lib.hid hE
    have R3 := Lib.hid h3
    clear hE h3
    have V2 := Lib.hid hv
    clear hv K2
    go_wp2_with fail
    refine (FE2.out _).mono ?_
    rintro e D2 ⟨u2,rfl,hu,hO⟩
    have hv := V2.out.off hO (fun _ _ _ c => c)
    have hE := HE.out.go hO (fun k c => c.elim)
    have h3 := R3.out.go hO (fun k c => c.elim)
    clear HE R3 hO
    have HE := Lib.hid hE
    have R3 := Lib.hid h3
    clear hE h3
    clear V2
    have V2 := Lib.hid hv
    have U2 := Lib.hid hu
    clear hv hu
    go_wp2_with fail
    refine (FSa.out _ _ _ l2 _ _ V2.out U2.out (by omega)).mono ?_
    rintro e G2 ⟨rfl,hO⟩
    have hE := HE.out.go hO (fun k c => c.elim)
    have h3 := R3.out.go hO (fun k c => c.elim)
    clear HE R3 hO
    have HE := Lib.hid hE
    have R3 := Lib.hid h3
    clear hE h3
    clear V2 U2
    obtain ⟨S3',t1,-⟩ := R3.out
    have K3 := Lib.hid t1
    clear t1 R3
    go_wp2_with fail
    refine (events_any _ l3 _ _ K3.out.1 (by omega)).mono ?_
    rintro e C3 ⟨v3,rfl,hv,hO⟩
    have hE := HE.out.go hO (fun k c => c.elim)
    clear HE hO
    have HE := Lib.hid hE
    clear hE
    have V3 := Lib.hid hv
    clear hv K3
    go_wp2_with fail
    refine (FE3.out _).mono ?_
    rintro e D3 ⟨u3,rfl,hu,hO⟩
    have hv := V3.out.off hO (fun _ _ _ c => c)
    have hE := HE.out.go hO (fun k c => c.elim)
    clear HE hO
    have HE := Lib.hid hE
    clear hE
    clear V3
    have V3 := Lib.hid hv
    have U3 := Lib.hid hu
    clear hv hu
    go_wp2_with fail
    refine (FSa.out _ _ _ l3 _ _ V3.out U3.out (by omega)).mono ?_
    rintro e G3 ⟨rfl,hO⟩
    have hE := HE.out.go hO (fun k c => c.elim)
    clear HE hO
    have HE := Lib.hid hE
    clear hE
    clear V3 U3
    have HOf := Lib.hid HE.out.off
    clear HE
    go_wp2
    go_ret
    exact ⟨rfl,HOf.out⟩
  ·obtain ⟨c,hcv⟩ : ∃ c,c = chkV is1 := ⟨_,rfl⟩
   have hcp : ¬ c = 0 := by rw [hcv]; exact hc
   have hci : decide (c ≠ 0) = true := by simp [hcp]
   have hce : (c == 0) = false := by simp [hcp]
   have FC := Lib.hid (show ∀ W,Iv W (.slice a1 n1 cap1) is1 -> Calls Tryd.prog 12 #[.slice a1 n1 cap1] W fun e w' => e = .returned (.int .i64 c) /\ Off (fun _ => False) W w' from fun W h => by rw [hcv]; exact refcheck_any is1 (by omega) _ W h)
   clear hc hcv hmx hF hid hp h1 hp0 hfer hbig FG hnl hnm hws hn1 w1 w2 hT
   go_enter Tryd.func5,Tryd.ntmps5
   go_wp2_with fail
   refine (FC.out _ HL1.out).mono ?_
   rintro e u0 ⟨rfl,hO⟩
   have HO := Lib.hid hO
   clear hO
   go_wp2_with fail
   refine (FAL.out _ (HTw.out.off HO.out)).mono ?_
   rintro e u1 ⟨rfl,hO⟩
   have HO1 := Lib.hid (HO.out.trans hO (fun _ _ c => c))
   clear hO
   go_wp2
   go_ret
   exact ⟨rfl,HO1.out⟩

theorem door_met (os : Os) (args : Array Value) : laidMetH Tryd.prog [("sharecore/field.fields",Rows.laid_sharecore_field_fields)] ((World.doorLaid Tryd.prog 400 os).forCall (fun _ _ => 0) ⟨#[],args,[]⟩).memory :=
 laidMetH_of_parts3 (fuel := 8) (laidMet_of_run' 8 (by kernel_rfl) (by kernel_rfl)) (by kernel_rfl) (by kernel_rfl)

set_option maxRecDepth 100000 in
theorem lifted (os : Os) (started : os.Started) (H : Type) (enc : TypeId × Value -> H) :
  ReturnsInHanded {} Tryd.checked os 5 .any (fun w args => (Rows.degreeEventsSpec.pre enc Tryd.prog Tryd.f5 [] false w args /\ laidMetH Tryd.prog [("sharecore/field.fields",Rows.laid_sharecore_field_fields)] w) /\ sizedMet enc Tryd.prog Tryd.f5 (OpenSpec.ofChange Rows.degreeEventsSpec) false w args)
   (Rows.degreeEventsSpec.post enc Tryd.prog Tryd.f5 false true false false) := by
 refine returnsInHanded_of_change_and (C := Tryd.checked) (X := fun w _ => laidMetH Tryd.prog [("sharecore/field.fields",Rows.laid_sharecore_field_fields)] w) (fun _ _ _ hh h => h.of_heap hh) own started (by kernel_rfl) Tryd.func5
  (ChangeSpec.witness_shaped (enc := enc) (C := Tryd.checked) (os := os) (X := fun w _ => laidMetH Tryd.prog [("sharecore/field.fields",Rows.laid_sharecore_field_fields)] w) false (World.doorLaid Tryd.prog 400 os) #[.bool false,.slice none 0 0,.int .i64 0] 8 rfl (World.shaped_of_RefB (by kernel_rfl) (by kernel_rfl)) (by kernel_rfl) (by kernel_rfl) (by kernel_rfl) (door_met os _)) ?_
 intro W base args ds gs before hval0 hW _ _ hL _
 have hval : ∀ (j : Nat) t v,Tryd.f5.params[j]? = some t -> args[j]? = some v -> Value.okWide Tryd.prog W .any base t v := hval0
 have hW' := hW
 obtain ⟨p,q,hA0,hV,rfl,hfz,hnd⟩ := hW
 have hA : DataW.TrodAll enc Tryd.prog W 0 (fun _ => true) true Tryd.f5.params.toList args.toList ds p := hA0
 rw [Tryd.params5] at hA hval
 obtain ⟨v0,vs0,d0,ds0,p0,q0,hargs,rfl,rfl,h0,r0⟩ := trodAll_cons hA
 obtain ⟨v1,vs1,d1,ds1,p1,q1,rfl,rfl,rfl,h1,r1⟩ := trodAll_cons r0
 obtain ⟨v2,vs2,d2,ds2,p2,q2,rfl,rfl,rfl,h2,r2⟩ := trodAll_cons r1
 obtain ⟨rfl,rfl,rfl⟩ := trodAll_nil r2
 obtain rfl : args = #[v0,v1,v2] := by cases args; simp_all
 obtain ⟨rfl,rfl⟩ := trodVars_none hV
 obtain ⟨i0,rfl,rfl,rfl⟩ := open_bool Tryd.underlying4 (hval 0 4 v0 rfl rfl) h0
 have w0 := trivial
 obtain ⟨a1,n1,cap1,rfl⟩ := okWide_slice Tryd.underlying22 (hval 1 22 v1 rfl rfl)
 have k1 := h1
 have lt1 : ∀ x ∈ p1,x.block < W.heap.size := by obtain ⟨m,hm⟩ := k1; exact DataW.trod_lt m _ _ _ hm
 obtain ⟨is1,hn1,w1⟩ : ∃ xs,n1 = xs.length /\ IvAt W (.slice a1 n1 cap1) xs (fun k => k < W.heap.size) := by
  obtain ⟨fuel,hf⟩ := h1
  exact ints_of_trod hf
 obtain ⟨i2,rfl,rfl,rfl,w2⟩ := open_int Tryd.underlying3 (hval 2 3 v2 rfl rfl) h2
 have hT := tab_of_laid hL
 clear hA0 hval0
 refine (walk i0 a1 n1 cap1 is1 i2 W w0 hn1 w1 w2 hT).mono fun e W' ⟨he,hoff⟩ => ?_
 have bel : Below W.heap.size W W' := hoff.below (Nat.le_refl _) (fun _ _ c => c)
 subst he
 exact ⟨_,rfl,_,_,_,[],_,[],hW',trodAll_mk1 (shut_bool Tryd.underlying4 _),(trodAll_cons_mk (shut_bool Tryd.underlying4 _) (trodAll_cons_mk (Below.trod laidOut (by kernel_rfl) (of_decide_eq_true (by kernel_rfl)) k1 bel lt1) (trodAll_cons_mk (shut_int Tryd.underlying3 w2) trodAll_mk0))),rfl,bel.frame _,fun h => by cases h⟩

theorem over : Rows.degreeEventsRow.holds Tryd.pinned (OpenSpec.ofChange Rows.degreeEventsSpec) :=
 OpenClaim.holds_of_wide 5 Tryd.f5 rfl rfl rfl rfl rfl rfl rfl ⟨rfl,rfl,rfl,rfl,rfl⟩ rfl rfl rfl rfl rfl (by kernel_rfl) Tryd.func5 (by kernel_rfl)
  (of_decide_eq_true (by kernel_rfl)) (by unfold Func.isWrapper; first | (rw [if_pos (by decide +kernel)]; kernel_rfl) | (rw [if_neg (by decide +kernel)]; exact ⟨rfl,rfl⟩))
  (fun os started H enc _ => lifted os started H enc)

theorem proved : Rows.DegreeEventsCardSaid :=
 Claim7.holds_tied_plain_at .later [] [.data] true (true,"427388ff9568da068c566f01fbebe31ca7ddb5823de2019176b8fd8e2e10c0e0") false
  over (fun _ h => by cases h) (by kernel_rfl) (fun _ h => by cases h) degreeEvents_row_tie rfl ⟨rfl,rfl⟩ (by kernel_rfl) rfl
  (fun f fn hf hfn => by
   obtain rfl : f = 5 := Option.some.inj ((show Tryd.prog.funcNamed "sharecore/sharecorelaw10.DegreeEvents" = some 5 by kernel_rfl).symm.trans hf) |>.symm
   obtain rfl : fn = Tryd.f5 := (Option.some.inj (Tryd.func5.symm.trans hfn)).symm
   exact ⟨by kernel_rfl,fun j t ht => by
    rw [Tryd.params5] at ht
    have hm : t ∈ [4,22,3] := by simpa using Array.mem_of_getElem? ht
    have hall : ([4,22,3].all fun u => !Tryd.prog.wantsStandIn u) = true := by kernel_rfl
    exact (show Tryd.prog.wantsStandIn t = false by simpa using List.all_eq_true.1 hall t hm)⟩)
  (by kernel_rfl)
#print axioms proved
end Go.Proofs.YtggebccgiigboaaDoor.degreeEvents
-- squeezed
