/-
  For every field, points, values and number of coefficients, the examples of the chapter hold, and All returns the conjunction of the reference's masks for the lists, or the error: the statement of P10.3. No condition.
-/
import Derived.Test.YtggebccgiigboaaDoorRows
import Derived.Test.YtggebccgiigboaaDoorTie
import Derived.Test.YtggebccgiigboaaDoorCards
import Derived.LaidMore
import Derived.LaidHandle
import Derived.SevenTiedAt
import Derived.Stop.Joined
import Derived.JoinedOf
import Derived.Test.YtggebccgiigboaaDoorLimbWords
import Derived.Test.YtggebccgiigboaaDoorIntAll
import Derived.Test.YtggebccgiigboaaDoorVecOpen
import Derived.Test.YtggebccgiigboaaDoorPtsOpen
import Derived.Test.YtggebccgiigboaaDoorFieldTab
import Derived.Test.YtggebccgiigboaaDoorFieldHeld
import Derived.Test.YtggebccgiigboaaDoorDegAlive
import Derived.Test.YtggebccgiigboaaDoorDegRef
import Derived.Test.YtggebccgiigboaaDoorDegProg
import Derived.Test.YtggebccgiigboaaDoorPolLists
import Derived.Test.YtggebccgiigboaaDoorInvAll
import Derived.Test.YtggebccgiigboaaDoorMaskBase
import Derived.WalkKit
import Derived.ProofKit
import Derived.OpenShut
import Derived.ShutString
import Derived.ChangeOld
import Derived.Below
namespace Go.Proofs.YtggebccgiigboaaDoor.degreeAll
open Go.ChangeShapes Go.WideShapes Go.ChangeAt Go.RowKit
set_option linter.unusedVariables false

theorem own : ownKnob Tryd.prog.godebug = none := by kernel_rfl
theorem laidOut : laidOutB Tryd.prog = true := by kernel_rfl

theorem mods_lt {p : Nat} (h : 0 < p) (xs : List Nat) : ∀ v ∈ xs.map (· % p),v < p := by
 intro v hv
 obtain ⟨x,_,rfl⟩ := List.mem_map.1 hv
 exact Nat.mod_lt _ h
theorem two_cells {w : World} {b : Nat} {T : TypeId} {v0 v1 : Value} (h : w.heap[b]? = some (.cells #[v0,v1] T (0,0))) : w.cell? ⟨b,0,none⟩ = some v0 /\ w.cell? ⟨b,1,none⟩ = some v1 := ⟨cell_of_heap h 0,cell_of_heap h 1⟩
theorem own_cap {w : World} {B n cap size : Nat} {T : TypeId} {a : Option Addr} {xs : List Value} (h : w.ownsRow B T size (.slice a n cap) n xs) : n <= cap := by
 rcases h.2 with ⟨e,h0⟩ | ⟨g,c,cur,e,_,_,hc,_⟩
 ·omega
 ·cases e; exact hc
theorem ret_int {a b : Int} (k : IntKind) (h : a = b) : Ending.returned (.int k a) = .returned (.int k b) := by rw [h]
/-- What the loop knows of the error and the truth so far. -/
def AllG (p n : Nat) (is : List Int) (K : Nat) (cv D : Int) (A : Bool) (yss : List (List Nat)) : Prop := (∀ ys ∈ yss,∀ y ∈ ys,y < p) /\ ((cv ≠ 0 /\ D = cv) ∨ (cv = 0 /\ D = 0 /\ (∀ ys ∈ yss,ys.length = n) /\ A = yss.all (fun ys => fitV p (ptV is) ys K)) ∨ (cv = 0 /\ D = 8 /\ ∃ ys ∈ yss,ys.length ≠ n))
theorem AllG.vals {p n : Nat} {is : List Int} {K : Nat} {cv D : Int} {A : Bool} {yss : List (List Nat)} (h : AllG p n is K cv D A yss) (ch : List Nat) (hp : ∀ y ∈ ch,y < p) : ∀ ys ∈ yss ++ [ch],∀ y ∈ ys,y < p := fun ys hm => by
 rcases List.mem_append.1 hm with h1 | h1
 ·exact h.1 ys h1
 ·rw [List.mem_singleton.1 h1]; exact hp
theorem AllG.keep {p n : Nat} {is : List Int} {K : Nat} {cv D : Int} {A : Bool} {yss : List (List Nat)} (h : AllG p n is K cv D A yss) (hD : D ≠ 0) (ch : List Nat) (hp : ∀ y ∈ ch,y < p) : AllG p n is K cv D A (yss ++ [ch]) := by
 refine ⟨h.vals ch hp,?_⟩
 rcases h.2 with h1 | h1 | ⟨h1,h2,ys,h3,h4⟩
 ·exact .inl h1
 ·exact absurd h1.2.1 hD
 ·exact .inr (.inr ⟨h1,h2,ys,List.mem_append_left _ h3,h4⟩)
theorem AllG.zero {p n : Nat} {is : List Int} {K : Nat} {cv : Int} {A : Bool} {yss : List (List Nat)} (h : AllG p n is K cv 0 A yss) : cv = 0 /\ (∀ ys ∈ yss,ys.length = n) /\ A = yss.all (fun ys => fitV p (ptV is) ys K) := by
 rcases h.2 with h1 | h1 | h1
 ·exact absurd h1.2.symm h1.1
 ·exact ⟨h1.1,h1.2.2⟩
 ·exact absurd h1.2.1 (by decide)
theorem AllG.bad {p n : Nat} {is : List Int} {K : Nat} {cv : Int} {A : Bool} {yss : List (List Nat)} (h : AllG p n is K cv 0 A yss) (ch : List Nat) (hp : ∀ y ∈ ch,y < p) (hl : ch.length ≠ n) : AllG p n is K cv 8 A (yss ++ [ch]) :=
 ⟨h.vals ch hp,.inr (.inr ⟨h.zero.1,rfl,ch,by simp,hl⟩)⟩
theorem AllG.good {p n : Nat} {is : List Int} {K : Nat} {cv : Int} {A : Bool} {yss : List (List Nat)} (h : AllG p n is K cv 0 A yss) (ch : List Nat) (hp : ∀ y ∈ ch,y < p) (hl : ch.length = n) : AllG p n is K cv 0 (A && fitV p (ptV is) ch K) (yss ++ [ch]) := by
 obtain ⟨h1,h2,h3⟩ := h.zero
 refine ⟨h.vals ch hp,.inr (.inl ⟨h1,rfl,fun ys hm => ?_,?_⟩)⟩
 ·rcases List.mem_append.1 hm with h4 | h4
  ·exact h2 ys h4
  ·rw [List.mem_singleton.1 h4]; exact hl
 ·rw [h3,List.all_append]; simp
set_option maxRecDepth 100000 in
set_option maxHeartbeats 4000000 in
theorem walk (i0 : Bool) (a1 : Option Addr) (n1 cap1 : Nat) (is1 : List Int) (b1 : Option Addr) (m1 dap1 : Nat) (ys1 : List Nat) (i2 : Int) (w : World) (w0 : True) (w1 : n1 = is1.length /\ n1 <= cap1 /\ m1 = ys1.length /\ m1 <= dap1 /\ IvAt w (.slice a1 n1 cap1) is1 (fun k => k < w.heap.size) /\ VsAt w (.slice b1 m1 dap1) ys1 (fun k => k < w.heap.size)) (w2 : (Lit.int .i64 i2).wf = true) (hT : TabAt w) :
  Calls Tryd.prog 4 #[.bool i0,.agg #[.slice a1 n1 cap1,.slice b1 m1 dap1],.int .i64 i2] w fun e w' => e = .returned (.bool true) /\ Off (fun _ => False) w w' := by
 obtain ⟨id,p,i,r,s,hF,hid⟩ := fld_of i0
 have hp := hF.mp.lt
 have h1 := hF.mp.one
 have hp0 : 0 < p := by omega
 obtain ⟨_,hfer,_,hbig⟩ := fld_full hF
 have FG := Lib.hid (fun W hT => get10_any i0 hF hid W hT)
 have FAL : Hid (∀ W,TabAt W -> Calls Tryd.prog 8 #[] W fun e w' => e = .returned (.bool true) /\ Off (fun _ => False) W w') := Lib.hid (fun W hT => alive10_any W hT)
 obtain ⟨hn1,hc1,hm1,hd1,hI1,hV1⟩ := w1
 obtain ⟨hml,hmm,hys⟩ := hV1.len
 by_cases hmx : 5 < n1
 ·have hbi : decide ((5 : Int) < (n1 : Int)) = true := by simp; omega
  have hbp : (5 : Int) < (n1 : Int) := by omega
  clear hn1 hc1 hm1 hd1 hI1 hV1 hml hmm hys hF hid hp h1 hp0 hfer hbig FG hmx
  go_enter Tryd.func4,Tryd.ntmps4
  go_wp2_with fail
  refine (FAL.out _ (hT.off (((Off.refl _ w).alloc _)))).mono ?_
  rintro e u0 ⟨rfl,hO⟩
  have HO := Lib.hid ((((Off.refl _ w).alloc _) : Off (fun _ => False) w _).trans hO (fun _ _ c => c))
  clear hO
  go_wp2
  go_ret
  exact ⟨rfl,HO.out⟩
 ·have hbi : decide ((5 : Int) < (n1 : Int)) = false := by simp; omega
  have hbp : ¬ (5 : Int) < (n1 : Int) := by omega
  by_cases hmx2 : 15 < m1
  ·have hbi2 : decide ((15 : Int) < (m1 : Int)) = true := by simp; omega
   have hbp2 : (15 : Int) < (m1 : Int) := by omega
   clear hn1 hc1 hm1 hd1 hI1 hV1 hml hmm hys hF hid hp h1 hp0 hfer hbig FG hmx hmx2
   go_enter Tryd.func4,Tryd.ntmps4
   go_wp2_with fail
   refine (FAL.out _ (hT.off (((Off.refl _ w).alloc _)))).mono ?_
   rintro e u0 ⟨rfl,hO⟩
   have HO := Lib.hid ((((Off.refl _ w).alloc _) : Off (fun _ => False) w _).trans hO (fun _ _ c => c))
   clear hO
   go_wp2
   go_ret
   exact ⟨rfl,HO.out⟩
  ·have hbi2 : decide ((15 : Int) < (m1 : Int)) = false := by simp; omega
   have hbp2 : ¬ (15 : Int) < (m1 : Int) := by omega
   have HL1 := Lib.hid (Iv.of hI1)
   have HL2 := Lib.hid (ls_of_vs hV1 (by omega))
   have HTw := Lib.hid hT
   obtain ⟨cv,hcv⟩ : ∃ c,c = chkV is1 := ⟨_,rfl⟩
   obtain ⟨vs,hvs⟩ : ∃ l,l = ys1.map (· % p) := ⟨_,rfl⟩
   have hvsl : vs.length = m1 := by rw [hvs,List.length_map]; omega
   have hvsp : ∀ v ∈ vs,v < p := by rw [hvs]; exact mods_lt hp0 _
   obtain ⟨c,hc⟩ : ∃ c,c = max n1 1 := ⟨_,rfl⟩
   have hmaxI : max (n1 : Int) 1 = (c : Int) := by omega
   have hc5 : 1 <= c /\ c <= 5 := by omega
   have hm15 : m1 <= 15 := by omega
   have FC := Lib.hid (show ∀ W,Iv W (.slice a1 n1 cap1) is1 -> Calls Tryd.prog 12 #[.slice a1 n1 cap1] W fun e w' => e = .returned (.int .i64 cv) /\ Off (fun _ => False) W w' from fun W h => by rw [hcv]; exact refcheck_any is1 (by omega) _ W h)
   have FV0 := Lib.hid (show ∀ fr q,fr + q <= m1 -> ∀ W v,Ls W v ((ys1.drop fr).take q) -> Calls Tryd.prog 10 #[V p,v] W fun e w' => ∃ v,e = .returned (.tuple #[fstV v,sndV v]) /\ PrA w' v q p W.heap.size ((vs.drop fr).take q) /\ Off (fun _ => False) W w' from fun fr q hq W v h => by
    have hlen : ((ys1.drop fr).take q).length = q := by rw [List.length_take,List.length_drop]; omega
    refine (values_own hp h1 _ (fun x hx => hys x (List.mem_of_mem_drop (List.mem_of_mem_take hx))) (by omega) v W h).mono ?_
    rintro e w' ⟨a,c,a2,c2,rfl,k1,k2,hO⟩
    have e1 : ((ys1.drop fr).take q).map (· % p) = (vs.drop fr).take q := by rw [hvs,List.map_take,List.map_drop]
    have hlen2 : ((vs.drop fr).take q).length = q := by rw [<- e1,List.length_map,hlen]
    rw [e1,hlen] at k1 k2
    rw [hlen]
    have k3 := own_cap k1
    have k4 := (ls_of_own k1 hlen2.symm (by omega)).mono (fun k _ c => c.1)
    have k5 := (ls_of_own k2 (by rw [List.length_map,hlen2]) (by omega)).mono (fun k _ c => c.1)
    exact ⟨.tuple #[.slice a q c,.slice a2 q c2],rfl,⟨a,c,a2,c2,rfl,k3,k4,k5⟩,hO⟩)
   have HVp := Lib.hid (show ∀ fr q,∀ y ∈ (vs.drop fr).take q,y < p from fun fr q y hy => hvsp y (List.mem_of_mem_drop (List.mem_of_mem_take hy)))
   have HVl := Lib.hid (show ∀ fr q,fr + q <= m1 -> ((vs.drop fr).take q).length = q from fun fr q h => by rw [List.length_take,List.length_drop]; omega)
   have FR := Lib.hid (show cv = 0 -> ∀ ch : List Nat,ch.length = n1 -> (∀ y ∈ ch,y < p) -> ∀ W a c,n1 <= c -> Iv W (.slice a1 n1 cap1) is1 -> Ls W (.slice a n1 c) ch -> Calls Tryd.prog 14 #[V p,.slice a1 n1 cap1,.slice a n1 c,.int .i64 i2] W fun e w' => e = .returned (.bool (fitV p (ptV is1) ch i2.toNat)) /\ Off (fun _ => False) W w' from fun h0 ch h3 h4 W a c h5 h6 h7 => reffits_any hp hbig is1 (by rw [<- hcv]; exact h0) n1 hn1 (by omega) ch h4 h3.symm i2 a1 a cap1 c hc1 h5 W h6 h7)
   have FA := Lib.hid (show ∀ A yss,AllG p n1 is1 i2.toNat cv 0 A yss -> ∀ W u,Iv W (.slice a1 n1 cap1) is1 -> LLs W u (yss.map (·.map (fm p))) -> Calls Tryd.prog 15 #[.pointer none,FV id p i r s,.slice a1 n1 cap1,u,.int .i64 i2] W fun e w' => e = .returned (.tuple #[.int .u64 (Go.Proofs.YtggebccgiigboaaDoor.mk A),.int .i64 0]) /\ Off (fun _ => False) W w' from fun A yss h W u h2 h3 => by
    obtain ⟨z1,z2,z3⟩ := h.zero
    rw [hcv] at z1
    obtain ⟨hr,hnd⟩ := chkV_zero z1
    have g := all_ls hF is1 z1 (by omega) yss (fun ys hy => by rw [z2 ys hy]; exact hn1) i2 _ u W h2 h3
    rw [show yss.all (fun ys => lowV (itpL p (ptV is1) ys) i2.toNat) = A by
     rw [z3,Bool.eq_iff_iff,List.all_eq_true,List.all_eq_true]
     exact ⟨fun g ys hy => by rw [<- low_fit h1 hfer (ptV is1) (ptV_lt hbig hr) (ints_apart hbig z1) ys (h.1 ys hy)]; exact g ys hy,fun g ys hy => by rw [low_fit h1 hfer (ptV is1) (ptV_lt hbig hr) (ints_apart hbig z1) ys (h.1 ys hy)]; exact g ys hy⟩] at g
    exact g)
   have FB := Lib.hid (show ∀ D A yss,D ≠ 0 -> AllG p n1 is1 i2.toNat cv D A yss -> ∀ W a m cap,Iv W (.slice a1 n1 cap1) is1 -> LLs W (.slice a m cap) (yss.map (·.map (fm p))) -> Calls Tryd.prog 15 #[.pointer none,FV id p i r s,.slice a1 n1 cap1,.slice a m cap,.int .i64 i2] W fun e w' => e = .returned (.tuple #[.int .u64 0,.int .i64 D]) /\ Off (fun _ => False) W w' from fun D A yss hD h W a m cap h2 h3 => by
    rcases h.2 with z | z | ⟨z1,z2,ys,z3,z4⟩
    ·rw [z.2,hcv]; exact all_err is1 (by rw [<- hcv]; exact z.1) (by omega) i2 _ a m cap W h2
    ·exact absurd z.2.1 hD
    ·rw [z2]; exact all_len is1 (by rw [<- hcv]; exact z1) (by omega) _ ⟨ys.map (fm p),List.mem_map.2 ⟨ys,z3,rfl⟩,by rw [List.length_map]; omega⟩ i2 _ _ W h2 h3)
   have HG0 := Lib.hid (show AllG p n1 is1 i2.toNat cv cv true [] from ⟨fun ys hy => by simp at hy,by
    by_cases h0 : cv = 0
    ·exact .inr (.inl ⟨h0,h0,fun ys hy => by simp at hy,rfl⟩)
    ·exact .inl ⟨h0,rfl⟩⟩)
   have FMk := Lib.hid (show ∀ A W,Calls Tryd.prog 13 #[.bool A] W fun e w' => e = .returned (.int .u64 (Go.Proofs.YtggebccgiigboaaDoor.mk A)) /\ W = w' from fun A W => refmask_any A W)
   have HYl := Lib.hid (show m1 = ys1.length from hml)
   obtain ⟨i0',hif,hi0,hi1,hi2⟩ := info_parts lists_info
   have HD1 := Lib.hid hd1
   clear hcv hvs hvsl hvsp hc hn1 hc1 hm1 hd1 hI1 hV1 hml hmm hys hF hid hp h1 hp0 hfer hbig hmx hmx2 hT
   go_enter Tryd.func4,Tryd.ntmps4
   go_wp2_with fail
   refine (FG.out _ (HTw.out.off ((Off.refl _ w).alloc _))).mono ?_
   rintro e u0 ⟨rfl,hO1⟩
   obtain ⟨W1,hW1⟩ : ∃ W1,W1 = (u0.alloc (.cells #[.int .i64 id,.int .u64 (wd p 0 : Int),.int .u64 (wd p 1 : Int),.int .u64 (wd p 2 : Int),.int .u64 (wd p 3 : Int),.int .u64 (i : Int),.int .u64 (wd r 0 : Int),.int .u64 (wd r 1 : Int),.int .u64 (wd r 2 : Int),.int .u64 (wd r 3 : Int),.int .u64 (wd s 0 : Int),.int .u64 (wd s 1 : Int),.int .u64 (wd s 2 : Int),.int .u64 (wd s 3 : Int)] 31)).alloc (.cells #[.int .u64 (wd p 0 : Int),.int .u64 (wd p 1 : Int),.int .u64 (wd p 2 : Int),.int .u64 (wd p 3 : Int)] 28) := ⟨_,rfl⟩
   have o1 : Off (fun _ => False) u0 W1 := by rw [hW1]; exact ((Off.refl _ u0).alloc _).alloc _
   have g_F : W1.heap[u0.heap.size]? = some (.cells #[.int .i64 id,.int .u64 (wd p 0 : Int),.int .u64 (wd p 1 : Int),.int .u64 (wd p 2 : Int),.int .u64 (wd p 3 : Int),.int .u64 (i : Int),.int .u64 (wd r 0 : Int),.int .u64 (wd r 1 : Int),.int .u64 (wd r 2 : Int),.int .u64 (wd r 3 : Int),.int .u64 (wd s 0 : Int),.int .u64 (wd s 1 : Int),.int .u64 (wd s 2 : Int),.int .u64 (wd s 3 : Int)] 31 (0,0)) := by rw [hW1]; exact heap_old' (heap_new' rfl _) _
   have g_P : W1.heap[u0.heap.size + 1]? = some (.cells #[.int .u64 (wd p 0 : Int),.int .u64 (wd p 1 : Int),.int .u64 (wd p 2 : Int),.int .u64 (wd p 3 : Int)] 28 (0,0)) := by rw [hW1]; exact heap_new' (by simp) _
   have hOw := (((Off.refl _ w).alloc _) : Off (fun _ => False) w _).trans (hO1.trans o1 (fun _ _ c => c)) (fun _ _ c => c)
   have g_X : W1.heap[w.heap.size]? = some (.cells #[.slice a1 n1 cap1,.slice b1 m1 dap1] 25 (0,0)) := o1.heap (hO1.heap (heap_new' rfl _) (fun c => c)) (fun c => c)
   obtain ⟨xb,hxb⟩ : ∃ xb,xb = w.heap.size := ⟨_,rfl⟩
   obtain ⟨fb,hfb⟩ : ∃ fb,fb = u0.heap.size := ⟨_,rfl⟩
   obtain ⟨pb,hpb⟩ : ∃ pb,pb = u0.heap.size + 1 := ⟨_,rfl⟩
   rw [<- hfb] at g_F
   rw [<- hpb] at g_P
   rw [<- hxb] at g_X
   have HW := Lib.hid (show ∀ W,Off (fun _ => False) W1 W -> W.heap[fb]? = some (.cells #[.int .i64 id,.int .u64 (wd p 0 : Int),.int .u64 (wd p 1 : Int),.int .u64 (wd p 2 : Int),.int .u64 (wd p 3 : Int),.int .u64 (i : Int),.int .u64 (wd r 0 : Int),.int .u64 (wd r 1 : Int),.int .u64 (wd r 2 : Int),.int .u64 (wd r 3 : Int),.int .u64 (wd s 0 : Int),.int .u64 (wd s 1 : Int),.int .u64 (wd s 2 : Int),.int .u64 (wd s 3 : Int)] 31 (0,0)) /\ W.heap[pb]? = some (.cells #[.int .u64 (wd p 0 : Int),.int .u64 (wd p 1 : Int),.int .u64 (wd p 2 : Int),.int .u64 (wd p 3 : Int)] 28 (0,0)) /\ W.heap[xb]? = some (.cells #[.slice a1 n1 cap1,.slice b1 m1 dap1] 25 (0,0)) /\ Off (fun _ => False) w W from fun W h => ⟨h.heap g_F (fun c => c),h.heap g_P (fun c => c),h.heap g_X (fun c => c),hOw.trans h (fun _ _ c => c)⟩)
   have HO := Lib.hid (Off.refl (fun _ => False) W1)
   have HW1 := Lib.hid hW1
   have hxw : xb = w.heap.size := hxb
   go_upto_region 7 with fail
   rw [<- HW1.out]
   rw [<- hpb,<- hfb,<- hxb]
   clear g_F g_P g_X hOw hW1 hfb hpb hxb hxw o1 hO1 HW1
   obtain ⟨g_F,g_P,g_X,hOw⟩ := HW.out _ HO.out
   obtain ⟨x0,x1⟩ := two_cells g_X
   have hlx := heap_lt g_X
   clear g_F g_P g_X hOw
   go_wp2_with fail
   clear x0 x1 hlx
   refine (FC.out _ (HL1.out.off (HW.out _ HO.out).2.2.2)).mono ?_
   rintro e u1 ⟨rfl,hO1⟩
   have HO := Lib.hid (HO.out.trans hO1 (fun _ _ c => c))
   clear hO1
   go_wp2
   go_loopw [10,11,12,13] (fun v al bd ix wr => ∃ j fr : Nat,∃ A : Bool,∃ D : Int,∃ yss : List (List Nat),j <= fr /\ fr <= m1 + c /\ ix = .int .i64 (fr : Int) /\ al = .bool A /\ bd = .int .i64 D /\ Hid (AllG p n1 is1 i2.toNat cv D A yss) /\ (∃ a cap,v = .slice a j cap) /\ SV wr u1.heap.size v j (yss.map (·.map (fm p))) /\ Off (fun _ => False) u1 wr) (fun _ _ _ ix _ => m1 + c - (intOf ix).toNat)
   case atStart => exact ⟨0,0,true,cv,[],Nat.le_refl _,Nat.zero_le _,rfl,rfl,rfl,HG0,⟨none,0,rfl⟩,SV.nil _ _,Off.refl _ _⟩
   case round =>
    obtain ⟨j,fr,A,D,yss,hjf,hfm,rfl,rfl,rfl,HG,⟨va,vc,rfl⟩,hsv,hO⟩ := hrel
    by_cases hlt : fr < m1
    ·obtain ⟨y0,hy0⟩ : ∃ y,ys1[fr]? = some y := ⟨_,List.getElem?_eq_getElem (by have := HYl.out; omega)⟩
     obtain ⟨vb,voff,rfl,_⟩ := LsAt.get HL2.out hy0
     obtain ⟨h,hh⟩ : ∃ h,h = min (fr + c) m1 := ⟨_,rfl⟩
     obtain ⟨q,hq⟩ : ∃ q,q = h - fr := ⟨_,rfl⟩
     obtain ⟨ch,hch⟩ : ∃ l,l = (vs.drop fr).take q := ⟨_,rfl⟩
     have hfq : fr + q <= m1 := by omega
     have hmin : min ((fr : Int) + (c : Int)) (m1 : Int) = (h : Int) := by omega
     have hsl := slice_mid vb voff m1 dap1 fr h q (by omega) (by have := HD1.out; omega) (by have := HD1.out; omega) hq
     have hwfc : IntKind.i64.wrap ((fr : Int) + (c : Int)) = (fr : Int) + (c : Int) := by rw [IntKind.wrap_i64]; omega
     have hfrm : (fr : Int) < (m1 : Int) := by omega
     have HCp := Lib.hid (show ∀ y ∈ ch,y < p by rw [hch]; exact HVp.out fr q)
     have HCl := Lib.hid (show ch.length = q by rw [hch]; exact HVl.out fr q hfq)
     have FVr := Lib.hid (show ∀ W,Off (fun _ => False) wr W -> Calls Tryd.prog 10 #[V p,.slice (some ⟨vb,voff + fr * 4,none⟩) q (dap1 - fr)] W fun e w' => ∃ v,e = .returned (.tuple #[fstV v,sndV v]) /\ PrA w' v q p wr.heap.size ch /\ Off (fun _ => False) W w' from fun W h => by
      rw [hch]
      refine (FV0.out fr q hfq W _ (ls_mid (HL2.out.off (((HW.out _ HO.out).2.2.2.trans hO (fun _ _ c => c)).trans h (fun _ _ c => c))) fr q _ hfq)).mono ?_
      rintro e w' ⟨v,he,⟨a,c,a2,c2,e1,e2,e3,e4⟩,hO'⟩
      exact ⟨v,he,⟨a,c,a2,c2,e1,e2,e3.mono (fun k _ c => Nat.le_trans h.size c),e4.mono (fun k _ c => Nat.le_trans h.size c)⟩,hO'⟩)
     have HK : Hid (∀ W',Off (fun _ => False) wr W' -> (W'.cell? ⟨pb,0,none⟩ = some (.int .u64 (wd p 0 : Int)) /\ W'.cell? ⟨pb,1,none⟩ = some (.int .u64 (wd p 1 : Int)) /\ W'.cell? ⟨pb,2,none⟩ = some (.int .u64 (wd p 2 : Int)) /\ W'.cell? ⟨pb,3,none⟩ = some (.int .u64 (wd p 3 : Int))) /\ (W'.cell? ⟨xb,0,none⟩ = some (.slice a1 n1 cap1) /\ W'.cell? ⟨xb,1,none⟩ = some (.slice (some ⟨vb,voff,none⟩) m1 dap1)) /\ Off (fun _ => False) wr W') := Lib.hid (fun W' h => by
      obtain ⟨g_F,g_P,g_X,hOw⟩ := HW.out _ ((HO.out.trans hO (fun _ _ c => c)).trans h (fun _ _ c => c))
      exact ⟨cells4 g_P,two_cells g_X,h⟩)
     obtain ⟨x0,x1⟩ := (HK.out _ (Off.refl _ _)).2.1
     have hlx : xb < wr.heap.size := by
      obtain ⟨g_F,g_P,g_X,hOw⟩ := HW.out _ (HO.out.trans hO (fun _ _ c => c))
      exact heap_lt g_X
     have HSv := Lib.hid hsv
     have HOr := Lib.hid hO
     clear hy0 hh hq hch hsv hO
     go_upto_region 11 with fail
     clear x0 x1 hlx
     refine wp_region_inv (fun a0 l a' w' => ∃ (u48 : Value) (u49 : Value) (u50 : Value) (u51 : Value) (u52 : Value) (u53 : Value) (u54 : Value) (u55 : Value) (u56 : Value) (u57 : Value) (u58 : Value) (u59 : Value) (u60 : Value) (u61 : Value) (u47 : Value) (u62 : Value) (u63 : Value) (u14 : Value) (u15 : Value) (v61 : Value),a' = (Act.put (Act.put (Act.put (Act.put (Act.put (Act.put (Act.put (Act.put (Act.put (Act.put (Act.put (Act.put (Act.put (Act.put (Act.put (Act.put (Act.put (Act.put (Act.put a0 (some 48) u48) (some 49) u49) (some 50) u50) (some 51) u51) (some 52) u52) (some 53) u53) (some 54) u54) (some 55) u55) (some 56) u56) (some 57) u57) (some 58) u58) (some 59) u59) (some 60) u60) (some 61) u61) (some 47) u47) (some 62) u62) (some 63) u63) (some 14) u14) (some 15) u15) /\ Slot l 0 u48 (V p) /\ Slot l 1 u49 (.pointer (some ⟨xb,1,none⟩)) /\ Slot l 2 u50 (.slice (some ⟨vb,voff,none⟩) m1 dap1) /\ Slot l 3 u51 (.int .i64 (fr : Int)) /\ Slot l 4 u52 (.int .i64 (fr : Int)) /\ Slot l 5 u53 (.int .i64 (n1 : Int)) /\ Slot l 6 u54 (.int .i64 (c : Int)) /\ Slot l 7 u55 (.int .i64 ((fr : Int) + (c : Int))) /\ Slot l 8 u56 (.pointer (some ⟨xb,1,none⟩)) /\ Slot l 9 u57 (.slice (some ⟨vb,voff,none⟩) m1 dap1) /\ Slot l 10 u58 (.int .i64 (m1 : Int)) /\ Slot l 11 u59 (.int .i64 (h : Int)) /\ Slot l 12 u60 (.slice (some ⟨vb,voff + fr * 4,none⟩) q (dap1 - fr)) /\ Slot l 13 u61 (.tuple #[fstV v61,sndV v61]) /\ Slot l 14 u47 (.tuple #[fstV v61,sndV v61]) /\ Slot l 15 u62 (fstV v61) /\ Slot l 16 u63 (sndV v61) /\ Slot l 17 u14 (fstV v61) /\ Slot l 18 u15 (sndV v61) /\ PrT l 13 v61 w' q p wr.heap.size ch /\ Dep l 13 14 /\ Dep l 13 15 /\ Dep l 13 16 /\ Dep l 13 17 /\ Dep l 13 18 /\ Off (fun _ => False) wr w') (by kernel_rfl) (by kernel_rfl) ?_ ⟨?_,?_,?_,?_,?_,?_,?_,?_,?_,?_,?_,?_,?_,?_,?_,?_,?_,?_,?_,trivial⟩ ?_
     ·refine ⟨?z48,?z49,?z50,?z51,?z52,?z53,?z54,?z55,?z56,?z57,?z58,?z59,?z60,?z61,?z47,?z62,?z63,?z14,?z15,undef,?fr,Slot.start _ _ _,Slot.start _ _ _,Slot.start _ _ _,Slot.start _ _ _,Slot.start _ _ _,Slot.start _ _ _,Slot.start _ _ _,Slot.start _ _ _,Slot.start _ _ _,Slot.start _ _ _,Slot.start _ _ _,Slot.start _ _ _,Slot.start _ _ _,Slot.start _ _ _,Slot.start _ _ _,Slot.start _ _ _,Slot.start _ _ _,Slot.start _ _ _,Slot.start _ _ _,(fun h => by cases h),Dep.start _ _,Dep.start _ _,Dep.start _ _,Dep.start _ _,Dep.start _ _,(Off.refl _ wr).drew⟩
      case fr => first | (simp only [Act.put,List.setIfInBounds_toArray,List.set_cons_zero,List.set_cons_succ]; rfl) | simp only [Act.put,List.setIfInBounds_toArray,List.set_cons_zero,List.set_cons_succ]
     ·intro l a wr hI hl hd K' hK
      obtain ⟨u48,u49,u50,u51,u52,u53,u54,u55,u56,u57,u58,u59,u60,u61,u47,u62,u63,u14,u15,v61,ha,s0,s1,s2,s3,s4,s5,s6,s7,s8,s9,s10,s11,s12,s13,s14,s15,s16,s17,s18,M13,V13_14,V13_15,V13_16,V13_17,V13_18,hO⟩ := hI
      simp only [Act.put,List.setIfInBounds_toArray,List.set_cons_zero,List.set_cons_succ] at ha
      subst ha
      have hc := HK.out wr hO
      have p0 := hc.1.1
      have p1 := hc.1.2.1
      have p2 := hc.1.2.2.1
      have p3 := hc.1.2.2.2
      clear hc
      go_simp
      refine hK.out _ _ ⟨_,_,_,_,_,_,_,_,_,_,_,_,_,_,_,_,_,_,_,v61,?_,Slot.new _ _ _,s1.keep rfl,s2.keep rfl,s3.keep rfl,s4.keep rfl,s5.keep rfl,s6.keep rfl,s7.keep rfl,s8.keep rfl,s9.keep rfl,s10.keep rfl,s11.keep rfl,s12.keep rfl,s13.keep rfl,s14.keep rfl,s15.keep rfl,s16.keep rfl,s17.keep rfl,s18.keep rfl,M13.keep (Off.refl _ wr) rfl,V13_14.keep rfl,V13_15.keep rfl,V13_16.keep rfl,V13_17.keep rfl,V13_18.keep rfl,hO⟩
      simp only [Act.put,List.setIfInBounds_toArray,List.set_cons_zero,List.set_cons_succ]
     ·intro l a wr hI hl hd K' hK
      obtain ⟨u48,u49,u50,u51,u52,u53,u54,u55,u56,u57,u58,u59,u60,u61,u47,u62,u63,u14,u15,v61,ha,s0,s1,s2,s3,s4,s5,s6,s7,s8,s9,s10,s11,s12,s13,s14,s15,s16,s17,s18,M13,V13_14,V13_15,V13_16,V13_17,V13_18,hO⟩ := hI
      simp only [Act.put,List.setIfInBounds_toArray,List.set_cons_zero,List.set_cons_succ] at ha
      subst ha
      go_simp
      refine hK.out _ _ ⟨_,_,_,_,_,_,_,_,_,_,_,_,_,_,_,_,_,_,_,v61,?_,s0.keep rfl,Slot.new _ _ _,s2.keep rfl,s3.keep rfl,s4.keep rfl,s5.keep rfl,s6.keep rfl,s7.keep rfl,s8.keep rfl,s9.keep rfl,s10.keep rfl,s11.keep rfl,s12.keep rfl,s13.keep rfl,s14.keep rfl,s15.keep rfl,s16.keep rfl,s17.keep rfl,s18.keep rfl,M13.keep (Off.refl _ wr) rfl,V13_14.keep rfl,V13_15.keep rfl,V13_16.keep rfl,V13_17.keep rfl,V13_18.keep rfl,hO⟩
      simp only [Act.put,List.setIfInBounds_toArray,List.set_cons_zero,List.set_cons_succ]
     ·intro l a wr hI hl hd K' hK
      obtain ⟨u48,u49,u50,u51,u52,u53,u54,u55,u56,u57,u58,u59,u60,u61,u47,u62,u63,u14,u15,v61,ha,s0,s1,s2,s3,s4,s5,s6,s7,s8,s9,s10,s11,s12,s13,s14,s15,s16,s17,s18,M13,V13_14,V13_15,V13_16,V13_17,V13_18,hO⟩ := hI
      simp only [Act.put,List.setIfInBounds_toArray,List.set_cons_zero,List.set_cons_succ] at ha
      have q1 := s1 (hd 1 (by decide))
      subst ha q1
      have hc := HK.out wr hO
      have p0 := hc.2.1.1
      have p1 := hc.2.1.2
      clear hc
      go_simp
      refine hK.out _ _ ⟨_,_,_,_,_,_,_,_,_,_,_,_,_,_,_,_,_,_,_,v61,?_,s0.keep rfl,s1.keep rfl,Slot.new _ _ _,s3.keep rfl,s4.keep rfl,s5.keep rfl,s6.keep rfl,s7.keep rfl,s8.keep rfl,s9.keep rfl,s10.keep rfl,s11.keep rfl,s12.keep rfl,s13.keep rfl,s14.keep rfl,s15.keep rfl,s16.keep rfl,s17.keep rfl,s18.keep rfl,M13.keep (Off.refl _ wr) rfl,V13_14.keep rfl,V13_15.keep rfl,V13_16.keep rfl,V13_17.keep rfl,V13_18.keep rfl,hO⟩
      simp only [Act.put,List.setIfInBounds_toArray,List.set_cons_zero,List.set_cons_succ]
     ·intro l a wr hI hl hd K' hK
      obtain ⟨u48,u49,u50,u51,u52,u53,u54,u55,u56,u57,u58,u59,u60,u61,u47,u62,u63,u14,u15,v61,ha,s0,s1,s2,s3,s4,s5,s6,s7,s8,s9,s10,s11,s12,s13,s14,s15,s16,s17,s18,M13,V13_14,V13_15,V13_16,V13_17,V13_18,hO⟩ := hI
      simp only [Act.put,List.setIfInBounds_toArray,List.set_cons_zero,List.set_cons_succ] at ha
      subst ha
      go_simp
      refine hK.out _ _ ⟨_,_,_,_,_,_,_,_,_,_,_,_,_,_,_,_,_,_,_,v61,?_,s0.keep rfl,s1.keep rfl,s2.keep rfl,Slot.new _ _ _,s4.keep rfl,s5.keep rfl,s6.keep rfl,s7.keep rfl,s8.keep rfl,s9.keep rfl,s10.keep rfl,s11.keep rfl,s12.keep rfl,s13.keep rfl,s14.keep rfl,s15.keep rfl,s16.keep rfl,s17.keep rfl,s18.keep rfl,M13.keep (Off.refl _ wr) rfl,V13_14.keep rfl,V13_15.keep rfl,V13_16.keep rfl,V13_17.keep rfl,V13_18.keep rfl,hO⟩
      simp only [Act.put,List.setIfInBounds_toArray,List.set_cons_zero,List.set_cons_succ]
     ·intro l a wr hI hl hd K' hK
      obtain ⟨u48,u49,u50,u51,u52,u53,u54,u55,u56,u57,u58,u59,u60,u61,u47,u62,u63,u14,u15,v61,ha,s0,s1,s2,s3,s4,s5,s6,s7,s8,s9,s10,s11,s12,s13,s14,s15,s16,s17,s18,M13,V13_14,V13_15,V13_16,V13_17,V13_18,hO⟩ := hI
      simp only [Act.put,List.setIfInBounds_toArray,List.set_cons_zero,List.set_cons_succ] at ha
      subst ha
      go_simp
      refine hK.out _ _ ⟨_,_,_,_,_,_,_,_,_,_,_,_,_,_,_,_,_,_,_,v61,?_,s0.keep rfl,s1.keep rfl,s2.keep rfl,s3.keep rfl,Slot.new _ _ _,s5.keep rfl,s6.keep rfl,s7.keep rfl,s8.keep rfl,s9.keep rfl,s10.keep rfl,s11.keep rfl,s12.keep rfl,s13.keep rfl,s14.keep rfl,s15.keep rfl,s16.keep rfl,s17.keep rfl,s18.keep rfl,M13.keep (Off.refl _ wr) rfl,V13_14.keep rfl,V13_15.keep rfl,V13_16.keep rfl,V13_17.keep rfl,V13_18.keep rfl,hO⟩
      simp only [Act.put,List.setIfInBounds_toArray,List.set_cons_zero,List.set_cons_succ]
     ·intro l a wr hI hl hd K' hK
      obtain ⟨u48,u49,u50,u51,u52,u53,u54,u55,u56,u57,u58,u59,u60,u61,u47,u62,u63,u14,u15,v61,ha,s0,s1,s2,s3,s4,s5,s6,s7,s8,s9,s10,s11,s12,s13,s14,s15,s16,s17,s18,M13,V13_14,V13_15,V13_16,V13_17,V13_18,hO⟩ := hI
      simp only [Act.put,List.setIfInBounds_toArray,List.set_cons_zero,List.set_cons_succ] at ha
      subst ha
      go_simp
      refine hK.out _ _ ⟨_,_,_,_,_,_,_,_,_,_,_,_,_,_,_,_,_,_,_,v61,?_,s0.keep rfl,s1.keep rfl,s2.keep rfl,s3.keep rfl,s4.keep rfl,Slot.new _ _ _,s6.keep rfl,s7.keep rfl,s8.keep rfl,s9.keep rfl,s10.keep rfl,s11.keep rfl,s12.keep rfl,s13.keep rfl,s14.keep rfl,s15.keep rfl,s16.keep rfl,s17.keep rfl,s18.keep rfl,M13.keep (Off.refl _ wr) rfl,V13_14.keep rfl,V13_15.keep rfl,V13_16.keep rfl,V13_17.keep rfl,V13_18.keep rfl,hO⟩
      simp only [Act.put,List.setIfInBounds_toArray,List.set_cons_zero,List.set_cons_succ]
     ·intro l a wr hI hl hd K' hK
      obtain ⟨u48,u49,u50,u51,u52,u53,u54,u55,u56,u57,u58,u59,u60,u61,u47,u62,u63,u14,u15,v61,ha,s0,s1,s2,s3,s4,s5,s6,s7,s8,s9,s10,s11,s12,s13,s14,s15,s16,s17,s18,M13,V13_14,V13_15,V13_16,V13_17,V13_18,hO⟩ := hI
      simp only [Act.put,List.setIfInBounds_toArray,List.set_cons_zero,List.set_cons_succ] at ha
      have q5 := s5 (hd 5 (by decide))
      subst ha q5
      go_simp
      refine hK.out _ _ ⟨_,_,_,_,_,_,_,_,_,_,_,_,_,_,_,_,_,_,_,v61,?_,s0.keep rfl,s1.keep rfl,s2.keep rfl,s3.keep rfl,s4.keep rfl,s5.keep rfl,Slot.new _ _ _,s7.keep rfl,s8.keep rfl,s9.keep rfl,s10.keep rfl,s11.keep rfl,s12.keep rfl,s13.keep rfl,s14.keep rfl,s15.keep rfl,s16.keep rfl,s17.keep rfl,s18.keep rfl,M13.keep (Off.refl _ wr) rfl,V13_14.keep rfl,V13_15.keep rfl,V13_16.keep rfl,V13_17.keep rfl,V13_18.keep rfl,hO⟩
      simp only [Act.put,List.setIfInBounds_toArray,List.set_cons_zero,List.set_cons_succ]
     ·intro l a wr hI hl hd K' hK
      obtain ⟨u48,u49,u50,u51,u52,u53,u54,u55,u56,u57,u58,u59,u60,u61,u47,u62,u63,u14,u15,v61,ha,s0,s1,s2,s3,s4,s5,s6,s7,s8,s9,s10,s11,s12,s13,s14,s15,s16,s17,s18,M13,V13_14,V13_15,V13_16,V13_17,V13_18,hO⟩ := hI
      simp only [Act.put,List.setIfInBounds_toArray,List.set_cons_zero,List.set_cons_succ] at ha
      have q4 := s4 (hd 4 (by decide))
      have q6 := s6 (hd 6 (by decide))
      subst ha q4 q6
      go_simp
      refine hK.out _ _ ⟨_,_,_,_,_,_,_,_,_,_,_,_,_,_,_,_,_,_,_,v61,?_,s0.keep rfl,s1.keep rfl,s2.keep rfl,s3.keep rfl,s4.keep rfl,s5.keep rfl,s6.keep rfl,Slot.new _ _ _,s8.keep rfl,s9.keep rfl,s10.keep rfl,s11.keep rfl,s12.keep rfl,s13.keep rfl,s14.keep rfl,s15.keep rfl,s16.keep rfl,s17.keep rfl,s18.keep rfl,M13.keep (Off.refl _ wr) rfl,V13_14.keep rfl,V13_15.keep rfl,V13_16.keep rfl,V13_17.keep rfl,V13_18.keep rfl,hO⟩
      simp only [Act.put,List.setIfInBounds_toArray,List.set_cons_zero,List.set_cons_succ]
     ·intro l a wr hI hl hd K' hK
      obtain ⟨u48,u49,u50,u51,u52,u53,u54,u55,u56,u57,u58,u59,u60,u61,u47,u62,u63,u14,u15,v61,ha,s0,s1,s2,s3,s4,s5,s6,s7,s8,s9,s10,s11,s12,s13,s14,s15,s16,s17,s18,M13,V13_14,V13_15,V13_16,V13_17,V13_18,hO⟩ := hI
      simp only [Act.put,List.setIfInBounds_toArray,List.set_cons_zero,List.set_cons_succ] at ha
      subst ha
      go_simp
      refine hK.out _ _ ⟨_,_,_,_,_,_,_,_,_,_,_,_,_,_,_,_,_,_,_,v61,?_,s0.keep rfl,s1.keep rfl,s2.keep rfl,s3.keep rfl,s4.keep rfl,s5.keep rfl,s6.keep rfl,s7.keep rfl,Slot.new _ _ _,s9.keep rfl,s10.keep rfl,s11.keep rfl,s12.keep rfl,s13.keep rfl,s14.keep rfl,s15.keep rfl,s16.keep rfl,s17.keep rfl,s18.keep rfl,M13.keep (Off.refl _ wr) rfl,V13_14.keep rfl,V13_15.keep rfl,V13_16.keep rfl,V13_17.keep rfl,V13_18.keep rfl,hO⟩
      simp only [Act.put,List.setIfInBounds_toArray,List.set_cons_zero,List.set_cons_succ]
     ·intro l a wr hI hl hd K' hK
      obtain ⟨u48,u49,u50,u51,u52,u53,u54,u55,u56,u57,u58,u59,u60,u61,u47,u62,u63,u14,u15,v61,ha,s0,s1,s2,s3,s4,s5,s6,s7,s8,s9,s10,s11,s12,s13,s14,s15,s16,s17,s18,M13,V13_14,V13_15,V13_16,V13_17,V13_18,hO⟩ := hI
      simp only [Act.put,List.setIfInBounds_toArray,List.set_cons_zero,List.set_cons_succ] at ha
      have q8 := s8 (hd 8 (by decide))
      subst ha q8
      have hc := HK.out wr hO
      have p0 := hc.2.1.1
      have p1 := hc.2.1.2
      clear hc
      go_simp
      refine hK.out _ _ ⟨_,_,_,_,_,_,_,_,_,_,_,_,_,_,_,_,_,_,_,v61,?_,s0.keep rfl,s1.keep rfl,s2.keep rfl,s3.keep rfl,s4.keep rfl,s5.keep rfl,s6.keep rfl,s7.keep rfl,s8.keep rfl,Slot.new _ _ _,s10.keep rfl,s11.keep rfl,s12.keep rfl,s13.keep rfl,s14.keep rfl,s15.keep rfl,s16.keep rfl,s17.keep rfl,s18.keep rfl,M13.keep (Off.refl _ wr) rfl,V13_14.keep rfl,V13_15.keep rfl,V13_16.keep rfl,V13_17.keep rfl,V13_18.keep rfl,hO⟩
      simp only [Act.put,List.setIfInBounds_toArray,List.set_cons_zero,List.set_cons_succ]
     ·intro l a wr hI hl hd K' hK
      obtain ⟨u48,u49,u50,u51,u52,u53,u54,u55,u56,u57,u58,u59,u60,u61,u47,u62,u63,u14,u15,v61,ha,s0,s1,s2,s3,s4,s5,s6,s7,s8,s9,s10,s11,s12,s13,s14,s15,s16,s17,s18,M13,V13_14,V13_15,V13_16,V13_17,V13_18,hO⟩ := hI
      simp only [Act.put,List.setIfInBounds_toArray,List.set_cons_zero,List.set_cons_succ] at ha
      have q9 := s9 (hd 9 (by decide))
      subst ha q9
      go_simp
      refine hK.out _ _ ⟨_,_,_,_,_,_,_,_,_,_,_,_,_,_,_,_,_,_,_,v61,?_,s0.keep rfl,s1.keep rfl,s2.keep rfl,s3.keep rfl,s4.keep rfl,s5.keep rfl,s6.keep rfl,s7.keep rfl,s8.keep rfl,s9.keep rfl,Slot.new _ _ _,s11.keep rfl,s12.keep rfl,s13.keep rfl,s14.keep rfl,s15.keep rfl,s16.keep rfl,s17.keep rfl,s18.keep rfl,M13.keep (Off.refl _ wr) rfl,V13_14.keep rfl,V13_15.keep rfl,V13_16.keep rfl,V13_17.keep rfl,V13_18.keep rfl,hO⟩
      simp only [Act.put,List.setIfInBounds_toArray,List.set_cons_zero,List.set_cons_succ]
     ·intro l a wr hI hl hd K' hK
      obtain ⟨u48,u49,u50,u51,u52,u53,u54,u55,u56,u57,u58,u59,u60,u61,u47,u62,u63,u14,u15,v61,ha,s0,s1,s2,s3,s4,s5,s6,s7,s8,s9,s10,s11,s12,s13,s14,s15,s16,s17,s18,M13,V13_14,V13_15,V13_16,V13_17,V13_18,hO⟩ := hI
      simp only [Act.put,List.setIfInBounds_toArray,List.set_cons_zero,List.set_cons_succ] at ha
      have q7 := s7 (hd 7 (by decide))
      have q10 := s10 (hd 10 (by decide))
      subst ha q7 q10
      go_simp
      refine hK.out _ _ ⟨_,_,_,_,_,_,_,_,_,_,_,_,_,_,_,_,_,_,_,v61,?_,s0.keep rfl,s1.keep rfl,s2.keep rfl,s3.keep rfl,s4.keep rfl,s5.keep rfl,s6.keep rfl,s7.keep rfl,s8.keep rfl,s9.keep rfl,s10.keep rfl,Slot.new _ _ _,s12.keep rfl,s13.keep rfl,s14.keep rfl,s15.keep rfl,s16.keep rfl,s17.keep rfl,s18.keep rfl,M13.keep (Off.refl _ wr) rfl,V13_14.keep rfl,V13_15.keep rfl,V13_16.keep rfl,V13_17.keep rfl,V13_18.keep rfl,hO⟩
      simp only [Act.put,List.setIfInBounds_toArray,List.set_cons_zero,List.set_cons_succ]
     ·intro l a wr hI hl hd K' hK
      obtain ⟨u48,u49,u50,u51,u52,u53,u54,u55,u56,u57,u58,u59,u60,u61,u47,u62,u63,u14,u15,v61,ha,s0,s1,s2,s3,s4,s5,s6,s7,s8,s9,s10,s11,s12,s13,s14,s15,s16,s17,s18,M13,V13_14,V13_15,V13_16,V13_17,V13_18,hO⟩ := hI
      simp only [Act.put,List.setIfInBounds_toArray,List.set_cons_zero,List.set_cons_succ] at ha
      have q2 := s2 (hd 2 (by decide))
      have q3 := s3 (hd 3 (by decide))
      have q11 := s11 (hd 11 (by decide))
      subst ha q2 q3 q11
      go_simp
      refine hK.out _ _ ⟨_,_,_,_,_,_,_,_,_,_,_,_,_,_,_,_,_,_,_,v61,?_,s0.keep rfl,s1.keep rfl,s2.keep rfl,s3.keep rfl,s4.keep rfl,s5.keep rfl,s6.keep rfl,s7.keep rfl,s8.keep rfl,s9.keep rfl,s10.keep rfl,s11.keep rfl,Slot.new _ _ _,s13.keep rfl,s14.keep rfl,s15.keep rfl,s16.keep rfl,s17.keep rfl,s18.keep rfl,M13.keep (Off.refl _ wr) rfl,V13_14.keep rfl,V13_15.keep rfl,V13_16.keep rfl,V13_17.keep rfl,V13_18.keep rfl,hO⟩
      simp only [Act.put,List.setIfInBounds_toArray,List.set_cons_zero,List.set_cons_succ]
     ·intro l a wr hI hl hd K' hK
      obtain ⟨u48,u49,u50,u51,u52,u53,u54,u55,u56,u57,u58,u59,u60,u61,u47,u62,u63,u14,u15,v61,ha,s0,s1,s2,s3,s4,s5,s6,s7,s8,s9,s10,s11,s12,s13,s14,s15,s16,s17,s18,M13,V13_14,V13_15,V13_16,V13_17,V13_18,hO⟩ := hI
      simp only [Act.put,List.setIfInBounds_toArray,List.set_cons_zero,List.set_cons_succ] at ha
      have q0 := s0 (hd 0 (by decide))
      have q12 := s12 (hd 12 (by decide))
      subst ha q0 q12
      go_simp
      refine (FVr.out wr hO).mono ?_
      rintro e w1 ⟨uv,rfl,hm,hOW⟩
      have hO1 := hO.trans hOW (fun _ _ c => c.elim)
      go_wp2_with fail
      refine hK.out _ _ ⟨_,_,_,_,_,_,_,_,_,_,_,_,_,_,_,_,_,_,_,uv,?_,s0.keep rfl,s1.keep rfl,s2.keep rfl,s3.keep rfl,s4.keep rfl,s5.keep rfl,s6.keep rfl,s7.keep rfl,s8.keep rfl,s9.keep rfl,s10.keep rfl,s11.keep rfl,s12.keep rfl,Slot.new _ _ _,Slot.void (u := u47) (V13_14 hl) rfl,Slot.void (u := u62) (V13_15 hl) rfl,Slot.void (u := u63) (V13_16 hl) rfl,Slot.void (u := u14) (V13_17 hl) rfl,Slot.void (u := u15) (V13_18 hl) rfl,PrT.new hm,V13_14.keep rfl,V13_15.keep rfl,V13_16.keep rfl,V13_17.keep rfl,V13_18.keep rfl,hO1⟩
      simp only [Act.put,List.setIfInBounds_toArray,List.set_cons_zero,List.set_cons_succ]
     ·intro l a wr hI hl hd K' hK
      obtain ⟨u48,u49,u50,u51,u52,u53,u54,u55,u56,u57,u58,u59,u60,u61,u47,u62,u63,u14,u15,v61,ha,s0,s1,s2,s3,s4,s5,s6,s7,s8,s9,s10,s11,s12,s13,s14,s15,s16,s17,s18,M13,V13_14,V13_15,V13_16,V13_17,V13_18,hO⟩ := hI
      simp only [Act.put,List.setIfInBounds_toArray,List.set_cons_zero,List.set_cons_succ] at ha
      have q13 := s13 (hd 13 (by decide))
      subst ha q13
      go_simp
      refine hK.out _ _ ⟨_,_,_,_,_,_,_,_,_,_,_,_,_,_,_,_,_,_,_,v61,?_,s0.keep rfl,s1.keep rfl,s2.keep rfl,s3.keep rfl,s4.keep rfl,s5.keep rfl,s6.keep rfl,s7.keep rfl,s8.keep rfl,s9.keep rfl,s10.keep rfl,s11.keep rfl,s12.keep rfl,s13.keep rfl,Slot.new _ _ _,s15.keep rfl,s16.keep rfl,s17.keep rfl,s18.keep rfl,M13.keep (Off.refl _ wr) rfl,Dep.at (hd 13 (by decide)),V13_15.keep rfl,V13_16.keep rfl,V13_17.keep rfl,V13_18.keep rfl,hO⟩
      simp only [Act.put,List.setIfInBounds_toArray,List.set_cons_zero,List.set_cons_succ]
     ·intro l a wr hI hl hd K' hK
      obtain ⟨u48,u49,u50,u51,u52,u53,u54,u55,u56,u57,u58,u59,u60,u61,u47,u62,u63,u14,u15,v61,ha,s0,s1,s2,s3,s4,s5,s6,s7,s8,s9,s10,s11,s12,s13,s14,s15,s16,s17,s18,M13,V13_14,V13_15,V13_16,V13_17,V13_18,hO⟩ := hI
      simp only [Act.put,List.setIfInBounds_toArray,List.set_cons_zero,List.set_cons_succ] at ha
      have q14 := s14 (hd 14 (by decide))
      subst ha q14
      go_simp
      refine hK.out _ _ ⟨_,_,_,_,_,_,_,_,_,_,_,_,_,_,_,_,_,_,_,v61,?_,s0.keep rfl,s1.keep rfl,s2.keep rfl,s3.keep rfl,s4.keep rfl,s5.keep rfl,s6.keep rfl,s7.keep rfl,s8.keep rfl,s9.keep rfl,s10.keep rfl,s11.keep rfl,s12.keep rfl,s13.keep rfl,s14.keep rfl,Slot.new _ _ _,s16.keep rfl,s17.keep rfl,s18.keep rfl,M13.keep (Off.refl _ wr) rfl,V13_14.keep rfl,Dep.at (V13_14.via (hd 14 (by decide))),V13_16.keep rfl,V13_17.keep rfl,V13_18.keep rfl,hO⟩
      simp only [Act.put,List.setIfInBounds_toArray,List.set_cons_zero,List.set_cons_succ]
     ·intro l a wr hI hl hd K' hK
      obtain ⟨u48,u49,u50,u51,u52,u53,u54,u55,u56,u57,u58,u59,u60,u61,u47,u62,u63,u14,u15,v61,ha,s0,s1,s2,s3,s4,s5,s6,s7,s8,s9,s10,s11,s12,s13,s14,s15,s16,s17,s18,M13,V13_14,V13_15,V13_16,V13_17,V13_18,hO⟩ := hI
      simp only [Act.put,List.setIfInBounds_toArray,List.set_cons_zero,List.set_cons_succ] at ha
      have q14 := s14 (hd 14 (by decide))
      subst ha q14
      go_simp
      refine hK.out _ _ ⟨_,_,_,_,_,_,_,_,_,_,_,_,_,_,_,_,_,_,_,v61,?_,s0.keep rfl,s1.keep rfl,s2.keep rfl,s3.keep rfl,s4.keep rfl,s5.keep rfl,s6.keep rfl,s7.keep rfl,s8.keep rfl,s9.keep rfl,s10.keep rfl,s11.keep rfl,s12.keep rfl,s13.keep rfl,s14.keep rfl,s15.keep rfl,Slot.new _ _ _,s17.keep rfl,s18.keep rfl,M13.keep (Off.refl _ wr) rfl,V13_14.keep rfl,V13_15.keep rfl,Dep.at (V13_14.via (hd 14 (by decide))),V13_17.keep rfl,V13_18.keep rfl,hO⟩
      simp only [Act.put,List.setIfInBounds_toArray,List.set_cons_zero,List.set_cons_succ]
     ·intro l a wr hI hl hd K' hK
      obtain ⟨u48,u49,u50,u51,u52,u53,u54,u55,u56,u57,u58,u59,u60,u61,u47,u62,u63,u14,u15,v61,ha,s0,s1,s2,s3,s4,s5,s6,s7,s8,s9,s10,s11,s12,s13,s14,s15,s16,s17,s18,M13,V13_14,V13_15,V13_16,V13_17,V13_18,hO⟩ := hI
      simp only [Act.put,List.setIfInBounds_toArray,List.set_cons_zero,List.set_cons_succ] at ha
      have q15 := s15 (hd 15 (by decide))
      subst ha q15
      go_simp
      refine hK.out _ _ ⟨_,_,_,_,_,_,_,_,_,_,_,_,_,_,_,_,_,_,_,v61,?_,s0.keep rfl,s1.keep rfl,s2.keep rfl,s3.keep rfl,s4.keep rfl,s5.keep rfl,s6.keep rfl,s7.keep rfl,s8.keep rfl,s9.keep rfl,s10.keep rfl,s11.keep rfl,s12.keep rfl,s13.keep rfl,s14.keep rfl,s15.keep rfl,s16.keep rfl,Slot.new _ _ _,s18.keep rfl,M13.keep (Off.refl _ wr) rfl,V13_14.keep rfl,V13_15.keep rfl,V13_16.keep rfl,Dep.at (V13_15.via (hd 15 (by decide))),V13_18.keep rfl,hO⟩
      simp only [Act.put,List.setIfInBounds_toArray,List.set_cons_zero,List.set_cons_succ]
     ·intro l a wr hI hl hd K' hK
      obtain ⟨u48,u49,u50,u51,u52,u53,u54,u55,u56,u57,u58,u59,u60,u61,u47,u62,u63,u14,u15,v61,ha,s0,s1,s2,s3,s4,s5,s6,s7,s8,s9,s10,s11,s12,s13,s14,s15,s16,s17,s18,M13,V13_14,V13_15,V13_16,V13_17,V13_18,hO⟩ := hI
      simp only [Act.put,List.setIfInBounds_toArray,List.set_cons_zero,List.set_cons_succ] at ha
      have q16 := s16 (hd 16 (by decide))
      subst ha q16
      go_simp
      refine hK.out _ _ ⟨_,_,_,_,_,_,_,_,_,_,_,_,_,_,_,_,_,_,_,v61,?_,s0.keep rfl,s1.keep rfl,s2.keep rfl,s3.keep rfl,s4.keep rfl,s5.keep rfl,s6.keep rfl,s7.keep rfl,s8.keep rfl,s9.keep rfl,s10.keep rfl,s11.keep rfl,s12.keep rfl,s13.keep rfl,s14.keep rfl,s15.keep rfl,s16.keep rfl,s17.keep rfl,Slot.new _ _ _,M13.keep (Off.refl _ wr) rfl,V13_14.keep rfl,V13_15.keep rfl,V13_16.keep rfl,V13_17.keep rfl,Dep.at (V13_16.via (hd 16 (by decide))),hO⟩
      simp only [Act.put,List.setIfInBounds_toArray,List.set_cons_zero,List.set_cons_succ]
     ·intro l a wc hI hd
      obtain ⟨u48,u49,u50,u51,u52,u53,u54,u55,u56,u57,u58,u59,u60,u61,u47,u62,u63,u14,u15,v61,ha,s0,s1,s2,s3,s4,s5,s6,s7,s8,s9,s10,s11,s12,s13,s14,s15,s16,s17,s18,M13,V13_14,V13_15,V13_16,V13_17,V13_18,hO⟩ := hI
      simp only [Act.put,List.setIfInBounds_toArray,List.set_cons_zero,List.set_cons_succ] at ha
      have q0 := s0 (hd 0 (by decide))
      have q1 := s1 (hd 1 (by decide))
      have q2 := s2 (hd 2 (by decide))
      have q3 := s3 (hd 3 (by decide))
      have q4 := s4 (hd 4 (by decide))
      have q5 := s5 (hd 5 (by decide))
      have q6 := s6 (hd 6 (by decide))
      have q7 := s7 (hd 7 (by decide))
      have q8 := s8 (hd 8 (by decide))
      have q9 := s9 (hd 9 (by decide))
      have q10 := s10 (hd 10 (by decide))
      have q11 := s11 (hd 11 (by decide))
      have q12 := s12 (hd 12 (by decide))
      have q13 := s13 (hd 13 (by decide))
      have q14 := s14 (hd 14 (by decide))
      have q15 := s15 (hd 15 (by decide))
      have q16 := s16 (hd 16 (by decide))
      have q17 := s17 (hd 17 (by decide))
      have q18 := s18 (hd 18 (by decide))
      have m61 := M13 (hd 13 (by decide))
      subst ha q0 q1 q2 q3 q4 q5 q6 q7 q8 q9 q10 q11 q12 q13 q14 q15 q16 q17 q18
      clear hd s0 s1 s2 s3 s4 s5 s6 s7 s8 s9 s10 s11 s12 s13 s14 s15 s16 s17 s18 M13 V13_14 V13_15 V13_16 V13_17 V13_18
      obtain ⟨za,zc,ca,cc,rfl,hqc,hz1,hz2⟩ := m61
      simp only [fst_t,snd_t]
      obtain ⟨xv,hown,hzl,hx4⟩ := HSv.out.off hO
      have hgl : ∀ g,(Value.slice va j vc).ownBlock = some g -> g < wr.heap.size := by
       obtain ⟨xv0,hown0,_⟩ := HSv.out
       exact fun g e => (hown0.lt g e).2
      have HGl := Lib.hid hgl
      have H_z1 := Lib.hid hz1
      have H_z2 := Lib.hid hz2
      have HQc := Lib.hid hqc
      have HO1 := Lib.hid (HOr.out.trans hO (fun _ _ c => c))
      have HWr := Lib.hid hO.size
      have HW3 := Lib.hid hown
      have Hzl := Lib.hid hzl
      have HX4 := Lib.hid hx4
      clear hz1 hz2 hqc hO hown hzl hx4 hgl HSv HOr
      go_wp2_with (at_builtin; refine wpList_append_own_at _ rfl _ _ 44 rfl u1.heap.size 34 i0' _ 1 24 Tryd.underlying44 hif hi0 hi1 hi2 rfl (by decide) _ j _ rfl (HW3.out.alloc _) ⟨wc.heap.size,0,none⟩ 1 1 [.slice ca q cc] rfl rfl ?q1 (one_cell _ _ _) ?q2 ?q3 ?q4 ?_)
      case q2 => unfold maxLen; omega
      case q3 => omega
      case q4 => have := HO1.out.size; simp; omega
      intro v' w1 hown' hgrow hnil hblk
      have hA : Off (fun _ => False) wc (wc.alloc (.cells #[.slice ca q cc] 34)) := (Off.refl _ wc).alloc _
      have hsv2 : SV w1 u1.heap.size v' (j + 1) (yss.map (·.map (fm p)) ++ [ch.map (fm p)]) := SV.more (own_off HW3.out hA) hown' Hzl.out (fun t u ht => by
       obtain ⟨zs,e1,e2⟩ := HX4.out t u ht
       exact ⟨zs,e1,e2.off hA (fun _ _ _ c => c)⟩) hgrow (by rw [show (wc.alloc (.cells #[.slice ca q cc] 34)).heap.size = wc.heap.size + 1 by simp]; exact hblk) ((H_z2.out.off hA (fun _ _ _ c => c)).mono (fun k _ c e => by have := HGl.out k e; omega))
      have hz1' := (H_z1.out.off hA (fun _ _ _ c => c)).off (row_off (own_off HW3.out hA) hgrow) (fun k _ c e => by have := HGl.out k e; have c : wr.heap.size <= k := c; omega)
      have hO1 : Off (fun _ => False) u1 w1 := grown_off (HO1.out.alloc _) (Nat.le_refl _) (HW3.out.alloc _) hgrow
      obtain ⟨g',cap',rfl⟩ := ownsRow_succ hown'
      rw [show yss.map (·.map (fm p)) ++ [ch.map (fm p)] = (yss ++ [ch]).map (·.map (fm p)) by rw [List.map_append]; rfl] at hsv2
      have HS2 := Lib.hid hsv2
      have HZ1 := Lib.hid (Ls.of hz1')
      have HO2 := Lib.hid hO1
      clear hA hsv2 hz1' hO1 hown' hgrow hnil hblk HW3 Hzl HX4 HGl H_z1 H_z2 HO1 HWr
      by_cases hD : D = 0
      ·subst hD
       by_cases hqn : q = n1
       ·have hqb : ((q : Int) != (n1 : Int)) = false := by simp [hqn]
        have hqi : decide ((q : Int) ≠ (n1 : Int)) = false := by simp [hqn]
        cases A with
        | false =>
         have HG2 := Lib.hid (show AllG p n1 is1 i2.toNat cv 0 false (yss ++ [ch]) from HG.out.good ch HCp.out (by rw [HCl.out,hqn]))
         clear HG
         go_wp2
         go_roundw
         case rel => exact ⟨j + 1,fr + c,false,0,yss ++ [ch],by omega,by omega,by simp,rfl,rfl,HG2,⟨_,_,rfl⟩,HS2.out,HO2.out⟩
         case measure => simp [intOf] <;> omega
        | true =>
         have hcl : ch.length = n1 := by rw [HCl.out,hqn]
         have HG2 := Lib.hid (show AllG p n1 is1 i2.toNat cv 0 (fitV p (ptV is1) ch i2.toNat) (yss ++ [ch]) from HG.out.good ch HCp.out hcl)
         have hcv0 := HG.out.zero.1
         have hz := HZ1.out
         have hqc := HQc.out
         subst hqn
         have FRr := Lib.hid (FR.out hcv0 ch hcl HCp.out w1 za zc hqc (HL1.out.off ((HW.out _ HO.out).2.2.2.trans HO2.out (fun _ _ c => c))) hz)
         obtain ⟨g_F,g_P,g_X,hOw⟩ := HW.out _ (HO.out.trans HO2.out (fun _ _ c => c))
         obtain ⟨p0,p1,p2,p3⟩ := cells4 g_P
         have hlp := heap_lt g_P
         obtain ⟨x0,x1⟩ := two_cells g_X
         have hlx := heap_lt g_X
         clear g_F g_P g_X hOw hcl hcv0 hz hqc HG
         go_wp2_with fail
         clear p0 p1 p2 p3 hlp x0 x1 hlx
         refine FRr.out.mono ?_
         rintro e w2 ⟨rfl,hO⟩
         have HS3 := Lib.hid (HS2.out.off hO)
         have HO3 := Lib.hid (HO2.out.trans hO (fun _ _ c => c))
         clear hO
         go_wp2
         go_roundw
         case rel => exact ⟨j + 1,fr + c,_,0,yss ++ [ch],by omega,by omega,by simp,rfl,rfl,HG2,⟨_,_,rfl⟩,HS3.out,HO3.out⟩
         case measure => simp [intOf] <;> omega
       ·have hqb : ((q : Int) != (n1 : Int)) = true := by simp; omega
        have hqi : decide ((q : Int) ≠ (n1 : Int)) = true := by simp; omega
        have HG2 := Lib.hid (show AllG p n1 is1 i2.toNat cv 8 A (yss ++ [ch]) from HG.out.bad ch HCp.out (by rw [HCl.out]; exact hqn))
        clear HG
        go_wp2
        go_roundw
        case rel => exact ⟨j + 1,fr + c,A,8,yss ++ [ch],by omega,by omega,by simp,rfl,rfl,HG2,⟨_,_,rfl⟩,HS2.out,HO2.out⟩
        case measure => simp [intOf] <;> omega
      ·have hDb : (D == 0) = false := by simp [hD]
       have hDi : decide (D = 0) = false := by simp [hD]
       have HG2 := Lib.hid (show AllG p n1 is1 i2.toNat cv D A (yss ++ [ch]) from HG.out.keep hD ch HCp.out)
       clear HG
       go_wp2
       go_roundw
       case rel => exact ⟨j + 1,fr + c,A,D,yss ++ [ch],by omega,by omega,by simp,rfl,rfl,HG2,⟨_,_,rfl⟩,HS2.out,HO2.out⟩
       case measure => simp [intOf] <;> omega
    ·have hfrm : ¬ (fr : Int) < (m1 : Int) := by omega
     have HLl := Lib.hid (hsv.toLLs (by omega))
     have HO2 := Lib.hid (HO.out.trans hO (fun _ _ c => c))
     clear hsv hO
     obtain ⟨g_F,g_P,g_X,hOw⟩ := HW.out _ HO2.out
     obtain ⟨f0,f1,f2,f3,f4,f5,f6,f7,f8,f9,f10,f11,f12,f13⟩ := fv_cells g_F
     have hlf := heap_lt g_F
     obtain ⟨x0,x1⟩ := two_cells g_X
     have hlx := heap_lt g_X
     clear g_F g_P g_X hOw
     by_cases hD : D = 0
     ·subst hD
      have FAr := Lib.hid (FA.out A yss HG.out wr _ (HL1.out.off (HW.out _ HO2.out).2.2.2) HLl.out)
      obtain ⟨M,hM⟩ : ∃ M,M = Go.Proofs.YtggebccgiigboaaDoor.mk A := ⟨_,rfl⟩
      have FMr := Lib.hid (FMk.out A)
      rw [<- hM] at FAr FMr
      clear hM HG HLl
      go_wp2_with fail
      clear f0 f1 f2 f3 f4 f5 f6 f7 f8 f9 f10 f11 f12 f13 hlf x0 x1 hlx
      refine FAr.out.mono ?_
      rintro e u2 ⟨rfl,hO⟩
      have HO3 := Lib.hid (HO2.out.trans hO (fun _ _ c => c))
      clear hO
      go_wp2_with fail
      refine (FAL.out _ (HTw.out.off (HW.out _ HO3.out).2.2.2)).mono ?_
      rintro e u3 ⟨rfl,hO⟩
      have HO4 := Lib.hid (HO3.out.trans hO (fun _ _ c => c))
      clear hO
      go_wp2_with fail
      refine (FMr.out _).mono ?_
      rintro e u4 ⟨rfl,rfl⟩
      go_wp2
      go_ret
      exact ⟨rfl,(HW.out _ HO4.out).2.2.2⟩
     ·have hDb : (D == 0) = false := by simp [hD]
      have hDn : (D != 0) = true := by simp [hD]
      have hDi : decide (D = 0) = false := by simp [hD]
      have hDj : decide (D ≠ 0) = true := by simp [hD]
      have FBr := Lib.hid (FB.out D A yss hD HG.out wr _ _ _ (HL1.out.off (HW.out _ HO2.out).2.2.2) HLl.out)
      clear HG HLl
      go_wp2_with fail
      clear f0 f1 f2 f3 f4 f5 f6 f7 f8 f9 f10 f11 f12 f13 hlf x0 x1 hlx
      refine FBr.out.mono ?_
      rintro e u2 ⟨rfl,hO⟩
      have HO3 := Lib.hid (HO2.out.trans hO (fun _ _ c => c))
      clear hO
      go_wp2_with fail
      refine (FAL.out _ (HTw.out.off (HW.out _ HO3.out).2.2.2)).mono ?_
      rintro e u3 ⟨rfl,hO⟩
      have HO4 := Lib.hid (HO3.out.trans hO (fun _ _ c => c))
      clear hO
      go_wp2
      go_ret
      exact ⟨rfl,(HW.out _ HO4.out).2.2.2⟩

theorem door_met (os : Os) (args : Array Value) : laidMetH Tryd.prog [("sharecore/field.fields",Rows.laid_sharecore_field_fields)] ((World.doorLaid Tryd.prog 400 os).forCall (fun _ _ => 0) ⟨#[],args,[]⟩).memory :=
 laidMetH_of_parts3 (fuel := 8) (laidMet_of_run' 8 (by kernel_rfl) (by kernel_rfl)) (by kernel_rfl) (by kernel_rfl)

set_option maxRecDepth 100000 in
theorem lifted (os : Os) (started : os.Started) (H : Type) (enc : TypeId × Value -> H) :
  ReturnsInHanded {} Tryd.checked os 4 .any (fun w args => (Rows.degreeAllSpec.pre enc Tryd.prog Tryd.f4 [] false w args /\ laidMetH Tryd.prog [("sharecore/field.fields",Rows.laid_sharecore_field_fields)] w) /\ sizedMet enc Tryd.prog Tryd.f4 (OpenSpec.ofChange Rows.degreeAllSpec) false w args)
   (Rows.degreeAllSpec.post enc Tryd.prog Tryd.f4 false true false false) := by
 refine returnsInHanded_of_change_and (C := Tryd.checked) (X := fun w _ => laidMetH Tryd.prog [("sharecore/field.fields",Rows.laid_sharecore_field_fields)] w) (fun _ _ _ hh h => h.of_heap hh) own started (by kernel_rfl) Tryd.func4
  (ChangeSpec.witness_shaped (enc := enc) (C := Tryd.checked) (os := os) (X := fun w _ => laidMetH Tryd.prog [("sharecore/field.fields",Rows.laid_sharecore_field_fields)] w) false (World.doorLaid Tryd.prog 400 os) #[.bool false,.agg #[.slice none 0 0,.slice none 0 0],.int .i64 0] 8 rfl (World.shaped_of_RefB (by kernel_rfl) (by kernel_rfl)) (by kernel_rfl) (by kernel_rfl) (by kernel_rfl) (door_met os _)) ?_
 intro W base args ds gs before hval0 hW _ _ hL _
 have hval : ∀ (j : Nat) t v,Tryd.f4.params[j]? = some t -> args[j]? = some v -> Value.okWide Tryd.prog W .any base t v := hval0
 have hW' := hW
 obtain ⟨p,q,hA0,hV,rfl,hfz,hnd⟩ := hW
 have hA : DataW.TrodAll enc Tryd.prog W 0 (fun _ => true) true Tryd.f4.params.toList args.toList ds p := hA0
 rw [Tryd.params4] at hA hval
 obtain ⟨v0,vs0,d0,ds0,p0,q0,hargs,rfl,rfl,h0,r0⟩ := trodAll_cons hA
 obtain ⟨v1,vs1,d1,ds1,p1,q1,rfl,rfl,rfl,h1,r1⟩ := trodAll_cons r0
 obtain ⟨v2,vs2,d2,ds2,p2,q2,rfl,rfl,rfl,h2,r2⟩ := trodAll_cons r1
 obtain ⟨rfl,rfl,rfl⟩ := trodAll_nil r2
 obtain rfl : args = #[v0,v1,v2] := by cases args; simp_all
 obtain ⟨rfl,rfl⟩ := trodVars_none hV
 obtain ⟨i0,rfl,rfl,rfl⟩ := open_bool Tryd.underlying4 (hval 0 4 v0 rfl rfl) h0
 have w0 := trivial
 have k1 := h1
 have lt1 : ∀ x ∈ p1,x.block < W.heap.size := by obtain ⟨m,hm⟩ := k1; exact DataW.trod_lt m _ _ _ hm
 obtain ⟨a1,n1,cap1,xs1,b1,m1,dap1,ys1,w1,rfl⟩ := open_points (hval 1 25 v1 rfl rfl) h1
 obtain ⟨i2,rfl,rfl,rfl,w2⟩ := open_int Tryd.underlying3 (hval 2 3 v2 rfl rfl) h2
 have hT := tab_of_laid hL
 clear hA0 hval0
 refine (walk i0 a1 n1 cap1 xs1 b1 m1 dap1 ys1 i2 W w0 w1 w2 hT).mono fun e W' ⟨he,hoff⟩ => ?_
 have bel : Below W.heap.size W W' := hoff.below (Nat.le_refl _) (fun _ _ c => c)
 subst he
 exact ⟨_,rfl,_,_,_,[],_,[],hW',trodAll_mk1 (shut_bool Tryd.underlying4 _),(trodAll_cons_mk (shut_bool Tryd.underlying4 _) (trodAll_cons_mk (Below.trod laidOut (by kernel_rfl) (of_decide_eq_true (by kernel_rfl)) k1 bel lt1) (trodAll_cons_mk (shut_int Tryd.underlying3 w2) trodAll_mk0))),rfl,bel.frame _,fun h => by cases h⟩

theorem over : Rows.degreeAllRow.holds Tryd.pinned (OpenSpec.ofChange Rows.degreeAllSpec) :=
 OpenClaim.holds_of_wide 4 Tryd.f4 rfl rfl rfl rfl rfl rfl rfl ⟨rfl,rfl,rfl,rfl,rfl⟩ rfl rfl rfl rfl rfl (by kernel_rfl) Tryd.func4 (by kernel_rfl)
  (of_decide_eq_true (by kernel_rfl)) (by unfold Func.isWrapper; first | (rw [if_pos (by decide +kernel)]; kernel_rfl) | (rw [if_neg (by decide +kernel)]; exact ⟨rfl,rfl⟩))
  (fun os started H enc _ => lifted os started H enc)

theorem proved : Rows.DegreeAllCardSaid :=
 Claim7.holds_tied_plain_at .later [] [.data] true (true,"427388ff9568da068c566f01fbebe31ca7ddb5823de2019176b8fd8e2e10c0e0") false
  over (fun _ h => by cases h) (by kernel_rfl) (fun _ h => by cases h) degreeAll_row_tie rfl ⟨rfl,rfl⟩ (by kernel_rfl) rfl
  (fun f fn hf hfn => by
   obtain rfl : f = 4 := Option.some.inj ((show Tryd.prog.funcNamed "sharecore/sharecorelaw10.DegreeAll" = some 4 by kernel_rfl).symm.trans hf) |>.symm
   obtain rfl : fn = Tryd.f4 := (Option.some.inj (Tryd.func4.symm.trans hfn)).symm
   exact ⟨by kernel_rfl,fun j t ht => by
    rw [Tryd.params4] at ht
    have hm : t ∈ [4,25,3] := by simpa using Array.mem_of_getElem? ht
    have hall : ([4,25,3].all fun u => !Tryd.prog.wantsStandIn u) = true := by kernel_rfl
    exact (show Tryd.prog.wantsStandIn t = false by simpa using List.all_eq_true.1 hall t hm)⟩)
  (by kernel_rfl)
#print axioms proved
end Go.Proofs.YtggebccgiigboaaDoor.degreeAll
-- squeezed
