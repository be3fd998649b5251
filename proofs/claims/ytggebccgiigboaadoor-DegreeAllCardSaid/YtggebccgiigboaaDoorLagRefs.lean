/-
  The contracts of the reference's Point and Weights of layer 9. Conditions: the modulus is a number of four words above 255, the ints lie from 1 to 255.
  The contract of the reference's Zero of layer 9. Conditions: the modulus is a number of four words above 255, the ints lie from 1 to 255.
  The contract of the reference's Interpolate of layer 9. Conditions: the modulus is a number of four words above 255, the ints lie from 1 to 255, there are as many values, below the modulus.
  The statements' own form, get and same of layer 9 over this seat's translation. Conditions: the table of fields lies in memory as it was laid; the numbers are numbers of four words.
-/
import Derived.Test.YtggebccgiigboaaDoorIntAll
import Derived.Test.YtggebccgiigboaaDoorLagMath
import Derived.Test.YtggebccgiigboaaDoorLagBase
import Derived.Test.YtggebccgiigboaaDoorPolLists
import Derived.Test.YtggebccgiigboaaDoorModDiff
import Derived.Test.YtggebccgiigboaaDoorModAll
import Derived.Test.YtggebccgiigboaaDoorInvAll
import Derived.Test.YtggebccgiigboaaDoorLagProg
import Derived.Test.YtggebccgiigboaaDoorPolNil
import Derived.Test.YtggebccgiigboaaDoorPolRefM
import Derived.Test.YtggebccgiigboaaDoorPolRefer
import Derived.Test.YtggebccgiigboaaDoorFieldGet
import Derived.Test.YtggebccgiigboaaDoorMontRef
namespace Go.Proofs.YtggebccgiigboaaDoor
section
open Go.RowKit
attribute [local go_sem ↓] Go.wp_at_zero Go.wp_at_succ
theorem point_any (m : Nat) (hm : m < 256) (w : World) :
  Calls Tryd.prog 26 #[.int .i64 (m : Int)] w fun e w' => e = .returned (V m) /\ Off (fun _ => False) w w' := by
 have hwm : IntKind.u64.wrap (m : Int) = (m : Int) := by rw [IntKind.wrap_u64]; omega
 have hs := lit_small m (by omega)
 go_enter Tryd.func26,Tryd.ntmps26
 go_wp2
 rw [hs]
 refine bodyPost_ret (v := .agg #[.int .u64 (m : Int),.int .u64 0,.int .u64 0,.int .u64 0]) (by simp [results,Tryd.results26,go_sem]) rfl ⟨rfl,?_⟩
 exact (Off.refl _ w).alloc _
/-- What the loops of the reference know of its ints. -/
theorem ints_at {xs : List Int} {a2 : Option Addr} {n cap2 : Nat} {W : World} {S : Nat -> Prop} (hL : IvAt W (.slice a2 n cap2) xs S) (hr : ∀ x ∈ xs,1 <= x /\ x <= 255) {k : Nat} (hk : k < n) :
  ∃ b off m,a2 = some ⟨b,off,none⟩ /\ W.cell? ⟨b,off + k,none⟩ = some (.int .i64 ((m : Nat) : Int)) /\ m < 256 /\ (ptV xs).getD k 0 = m := by
 obtain ⟨x,b,off,hx,ha,hc,_,_⟩ := hL.at hk
 have h := hr x (List.mem_of_getElem? hx)
 refine ⟨b,off,x.toNat,ha,?_,by omega,ptV_at hx⟩
 rw [show ((x.toNat : Nat) : Int) = x by omega]; exact hc
theorem own_new {w : World} {base size n : Nat} {T : TypeId} {v : Value} {xs : List Value} (h : w.ownsRow base T size v n xs) {b : Nat} (hb : w.heap.size <= b) : v.ownBlock = none ∨ v.ownBlock ≠ some b := by
 rcases h.2 with ⟨rfl,_⟩ | ⟨g,cap,cur,rfl,_,hg,_⟩
 ·exact .inl rfl
 ·exact .inr (fun e => by have : g = b := (by simpa [Value.ownBlock] using e); have := heap_lt hg; omega)
theorem off_grown {w w' : World} {b : Nat} (h : Off (fun k => k = b) w w') : w.grownBy w' (some b) := ⟨h.os,h.tape,h.output,h.size,fun k hk hne => h.block k hk (fun e => hne (by rw [e]))⟩
theorem own_put {w w' : World} {base size n b : Nat} {T : TypeId} {v : Value} {xs : List Value} (h : w.ownsRow base T size v n xs) (ho : Off (fun k => k = b) w w') (hne : v.ownBlock = none ∨ v.ownBlock ≠ some b) : w'.ownsRow base T size v n xs := h.kept (off_grown ho) hne
set_option maxRecDepth 100000 in
set_option maxHeartbeats 4000000 in
theorem refwts_any {p : Nat} (hp : p < R256) (hbig : 256 <= p) (xs : List Int) (hr : ∀ x ∈ xs,1 <= x /\ x <= 255) (hl : xs.length <= 10000) (v : Value) (w : World) (hV : Iv w v xs) :
  Calls Tryd.prog 56 #[V p,v] w fun e w' => ∃ a c B,e = .returned (.slice a xs.length c) /\ w.heap.size <= B /\ w'.ownsRow B 28 4 (.slice a xs.length c) xs.length (flat4 (wgtL p (ptV xs))) /\ Off (fun _ => False) w w' := by
 have hmx : Tryd.prog.follows .mixedOrders = true := by kernel_rfl
 have h1 : 1 < p := by omega
 obtain ⟨a2,cap2,rfl,hL⟩ := hV.open
 obtain ⟨ps,hps⟩ : ∃ ps,ps = ptV xs := ⟨_,rfl⟩
 have hpp : ∀ x ∈ ps,x < p := by rw [hps]; exact ptV_lt hbig hr
 obtain ⟨n,hn⟩ : ∃ n,n = xs.length := ⟨_,rfl⟩
 have hpn : ps.length = n := by rw [hps,ptV_length,hn]
 have HAt := Lib.hid (fun W h k hk => by have g := ints_at (IvAt.off hL h (fun _ _ _ c => c)) hr hk; rw [<- hps] at g; exact g : ∀ W,Off (fun _ => False) w W -> ∀ k,k < xs.length -> ∃ b off m,a2 = some ⟨b,off,none⟩ /\ W.cell? ⟨b,off + k,none⟩ = some (.int .i64 ((m : Nat) : Int)) /\ m < 256 /\ ps.getD k 0 = m)
 rw [<- hn] at HAt hl ⊢
 rw [<- hps]
 obtain ⟨Ys,hYs⟩ : ∃ Y,Y = wgtL p ps := ⟨_,rfl⟩
 have hYn : Ys.length = n := by rw [hYs,wgtL_length,hpn]
 rw [<- hYs]
 have HSu := Lib.hid (fun a b ha hb W => mod_diff p a b hp ha hb W : ∀ a b,a < p -> b < p -> ∀ W,_)
 have HMl := Lib.hid (fun a b ha hb W => mod_mul p a b hp h1 ha (Nat.lt_trans hb hp) W : ∀ a b,a < p -> b < p -> ∀ W,_)
 have HIn := Lib.hid (fun a ha W => mod_inverse p a hp h1 ha W : ∀ a,a < p -> ∀ W,_)
 have HOne := Lib.hid (fun W => mod_one W)
 obtain ⟨j0,hj0',hj0,hj1,hj2⟩ := info_parts vec_info
 have HYs := Lib.hid hYs
 have HYn := Lib.hid hYn
 have HPn := Lib.hid hpn
 have HPp := Lib.hid hpp
 clear hV hL hr hn hps hYs hYn hpn hpp
 go_enter Tryd.func56,Tryd.ntmps56
 go_wp2_with fail
 obtain ⟨W0,hW0⟩ : ∃ W0,W0 = w.alloc (.cells #[.int .u64 (wd p 0 : Int),.int .u64 (wd p 1 : Int),.int .u64 (wd p 2 : Int),.int .u64 (wd p 3 : Int)] 28) := ⟨_,rfl⟩
 obtain ⟨pb,hpb⟩ : ∃ pb,pb = w.heap.size := ⟨_,rfl⟩
 rw [<- hW0,<- hpb]
 have hO0 : Off (fun _ => False) w W0 := by rw [hW0]; exact (Off.refl _ w).alloc _
 have hP0 : W0.heap[pb]? = some (.cells #[.int .u64 (wd p 0 : Int),.int .u64 (wd p 1 : Int),.int .u64 (wd p 2 : Int),.int .u64 (wd p 3 : Int)] 28 (0,0)) := by rw [hW0,hpb]; exact heap_new' rfl _
 have HO0 := Lib.hid hO0
 have HP0 := Lib.hid hP0
 have hw0 : w.heap.size <= W0.heap.size := hO0.size
 clear hW0 hpb hO0 hP0
 go_loopw [5,6] (fun v i wr => ∃ k : Nat,k <= n /\ i = .int .i64 (k : Int) /\ (∃ a c,v = .slice a k c /\ wr.ownsRow W0.heap.size 28 4 v k (flat4 (Ys.take k))) /\ Off (fun _ => False) W0 wr) (fun _ i _ => n - (intOf i).toNat)
 case atStart => exact ⟨0,Nat.zero_le _,rfl,⟨none,0,rfl,World.ownsRow_nil _ _ _ _⟩,Off.refl _ _⟩
 case round =>
  obtain ⟨k,hk,rfl,⟨va,vc,rfl,hown⟩,hO⟩ := hrel
  by_cases hlt : k < n
  ·have hkn : (k : Int) < (n : Int) := by omega
   have H1 := Lib.hid hown
   have H3 := Lib.hid hO
   clear hown hO
   go_wp2_with fail
   refine (HOne.out _).mono ?_
   rintro e u0 ⟨rfl,hOu⟩
   have H1u := Lib.hid (own_off H1.out hOu)
   have H3u := Lib.hid (H3.out.trans hOu (fun _ _ c => c))
   clear hOu H1 H3
   go_wp2_with fail
   obtain ⟨W1,hW1⟩ : ∃ W1,W1 = u0.alloc (.cells #[.int .u64 (wd 1 0 : Int),.int .u64 (wd 1 1 : Int),.int .u64 (wd 1 2 : Int),.int .u64 (wd 1 3 : Int)] 28) := ⟨_,rfl⟩
   obtain ⟨db,hdb⟩ : ∃ db,db = u0.heap.size := ⟨_,rfl⟩
   rw [<- hW1,<- hdb]
   have ho1 : Off (fun _ => False) u0 W1 := by rw [hW1]; exact (Off.refl _ u0).alloc _
   have hD1 : W1.heap[db]? = some (.cells #[.int .u64 (wd 1 0 : Int),.int .u64 (wd 1 1 : Int),.int .u64 (wd 1 2 : Int),.int .u64 (wd 1 3 : Int)] 28 (0,0)) := by rw [hW1,hdb]; exact heap_new' rfl _
   have hne := own_new H1u.out (show u0.heap.size <= db by omega)
   have hw0db : W0.heap.size <= db := by rw [hdb]; exact H3u.out.size
   have HD1 := Lib.hid hD1
   have HR1 := Lib.hid (own_off H1u.out ho1)
   have HO1 := Lib.hid (H3u.out.trans ho1 (fun _ _ c => c))
   clear hD1 ho1 hW1 hdb H1u H3u
   go_loopw [8] (fun jx wr => ∃ j : Nat,j <= n /\ jx = .int .i64 (j : Int) /\ wr.heap[db]? = some (.cells #[.int .u64 (wd (dfF p ps k 1 (oth j k)) 0 : Int),.int .u64 (wd (dfF p ps k 1 (oth j k)) 1 : Int),.int .u64 (wd (dfF p ps k 1 (oth j k)) 2 : Int),.int .u64 (wd (dfF p ps k 1 (oth j k)) 3 : Int)] 28 (0,0)) /\ wr.ownsRow W0.heap.size 28 4 (.slice va k vc) k (flat4 (Ys.take k)) /\ Off (fun _ => False) W0 wr) (fun jx _ => n - (intOf jx).toNat)
   case atStart => exact ⟨0,Nat.zero_le _,rfl,HD1.out,HR1.out,HO1.out⟩
   case round =>
    obtain ⟨j,hj,rfl,hD,hR,hO⟩ := hrel
    by_cases hlt2 : j < n
    ·have hjn : (j : Int) < (n : Int) := by omega
     by_cases hjk : j = k
     ·have HD := Lib.hid (show wr.heap[db]? = some (.cells #[.int .u64 (wd (dfF p ps k 1 (oth (j + 1) k)) 0 : Int),.int .u64 (wd (dfF p ps k 1 (oth (j + 1) k)) 1 : Int),.int .u64 (wd (dfF p ps k 1 (oth (j + 1) k)) 2 : Int),.int .u64 (wd (dfF p ps k 1 (oth (j + 1) k)) 3 : Int)] 28 (0,0)) by rw [oth_next,if_pos hjk]; exact hD)
      have HR := Lib.hid hR
      have HO := Lib.hid hO
      clear hD hR hO
      subst hjk
      go_wp2
      go_roundw
      case rel => exact ⟨j + 1,by omega,by simp,HD.out,HR.out,HO.out⟩
      case measure => simp [intOf] <;> omega
     ·have hne1 : ((j : Int) != (k : Int)) = true := by simp; omega
      obtain ⟨A0,rfl⟩ : ∃ A0,A0 = wr := ⟨_,rfl⟩
      have hOw := HO0.out.trans hO (fun _ _ c => c)
      obtain ⟨b,off,m,hab,ck,hm,hpk⟩ := HAt.out A0 hOw k hlt
      obtain ⟨b',off',t,hab',cj,ht,hpj⟩ := HAt.out A0 hOw j hlt2
      obtain ⟨b3,off3,m3,hab3,ck3,_,_⟩ := HAt.out w (Off.refl _ w) k hlt
      subst hab
      cases hab'
      cases hab3
      have hbw : b < w.heap.size := World.block_lt_of_cell? w _ ck3
      obtain ⟨d,hd⟩ : ∃ d,d = dfF p ps k 1 (oth j k) := ⟨_,rfl⟩
      have hdp : d < p := by rw [hd]; exact dfF_lt (by omega) ps k h1 _
      obtain ⟨s,hs⟩ : ∃ s,s = (m + (p - t)) % p := ⟨_,rfl⟩
      have hsp : s < p := by rw [hs]; exact Nat.mod_lt _ (by omega)
      obtain ⟨z,hz⟩ : ∃ z,z = d * s % p := ⟨_,rfl⟩
      have hzn : dfF p ps k 1 (oth (j + 1) k) = z := by rw [oth_next,if_neg hjk,dfF_snoc,<- hd,hpk,hpj,hz,hs]
      have HPm := Lib.hid (fun W => point_any m hm W)
      have HPt2 := Lib.hid (fun W => point_any t ht W)
      have HSb := Lib.hid (show ∀ W,Calls Tryd.prog 58 #[V p,V m,V t] W fun e w' => e = .returned (V s) /\ Off (fun _ => False) W w' from fun W => by rw [hs]; exact HSu.out m t (by omega) (by omega) W)
      have HMu := Lib.hid (show ∀ W,Calls Tryd.prog 43 #[V p,V d,V s] W fun e w' => e = .returned (V z) /\ Off (fun _ => False) W w' from fun W => by rw [hz]; exact HMl.out d s hdp hsp W)
      rw [<- hd] at hD
      have hpbl := heap_lt HP0.out
      have HDb := Lib.hid hD
      have HK : Hid (∀ B,Off (fun k => k = db) A0 B -> (B.cell? ⟨pb,0,none⟩ = some (.int .u64 (wd p 0 : Int)) /\ B.cell? ⟨pb,1,none⟩ = some (.int .u64 (wd p 1 : Int)) /\ B.cell? ⟨pb,2,none⟩ = some (.int .u64 (wd p 2 : Int)) /\ B.cell? ⟨pb,3,none⟩ = some (.int .u64 (wd p 3 : Int))) /\ B.cell? ⟨b,off + k,none⟩ = some (.int .i64 (m : Int)) /\ B.cell? ⟨b,off + j,none⟩ = some (.int .i64 (t : Int)) /\ Off (fun k => k = db) A0 B) := Lib.hid (fun B h => ⟨cells4 (h.heap (hO.heap HP0.out (fun c => c)) (by omega)),h.cell ck (by show ¬ b = db; omega),h.cell cj (by show ¬ b = db; omega),h⟩)
      have HR := Lib.hid hR
      have HO := Lib.hid hO
      have Hzn := Lib.hid hzn
      have hkn2 : (k : Int) < (n : Int) := hkn
      clear hD hR hO hOw ck cj ck3 hd hdp hs hsp hz hzn hpk hpj
      go_upto_region 10 with fail
      refine wp_region_inv (fun a0 l a' w' => ∃ (u25 : Value) (u26 : Value) (u27 : Value) (u28 : Value) (u29 : Value) (u30 : Value) (u31 : Value) (u32 : Value) (u33 : Value) (u34 : Value) (u35 : Value) (u36 : Value) (u37 : Value) (u38 : Value) (u39 : Value),a' = (Act.put (Act.put (Act.put (Act.put (Act.put (Act.put (Act.put (Act.put (Act.put (Act.put (Act.put (Act.put (Act.put (Act.put (Act.put a0 (some 25) u25) (some 26) u26) (some 27) u27) (some 28) u28) (some 29) u29) (some 30) u30) (some 31) u31) (some 32) u32) (some 33) u33) (some 34) u34) (some 35) u35) (some 36) u36) (some 37) u37) (some 38) u38) (some 39) u39) /\ Slot l 0 u25 (V p) /\ Slot l 1 u26 (V d) /\ Slot l 2 u27 (V p) /\ Slot l 3 u28 (.slice (some ⟨b,off,none⟩) n cap2) /\ Slot l 4 u29 (.int .i64 (k : Int)) /\ Slot l 5 u30 (.pointer (some ⟨b,off + k,none⟩)) /\ Slot l 6 u31 (.int .i64 (m : Int)) /\ Slot l 7 u32 (V m) /\ Slot l 8 u33 (.slice (some ⟨b,off,none⟩) n cap2) /\ Slot l 9 u34 (.int .i64 (j : Int)) /\ Slot l 10 u35 (.pointer (some ⟨b,off + j,none⟩)) /\ Slot l 11 u36 (.int .i64 (t : Int)) /\ Slot l 12 u37 (V t) /\ Slot l 13 u38 (V s) /\ Slot l 14 u39 (V z) /\ Old l 15 db A0 w' (.cells #[.int .u64 (wd d 0 : Int),.int .u64 (wd d 1 : Int),.int .u64 (wd d 2 : Int),.int .u64 (wd d 3 : Int)] 28) (.cells #[.int .u64 (wd z 0 : Int),.int .u64 (wd z 1 : Int),.int .u64 (wd z 2 : Int),.int .u64 (wd z 3 : Int)] 28) /\ Dep l 1 15 /\ Off (fun k => k = db) A0 w') (by kernel_rfl) (by kernel_rfl) ?_ ⟨?_,?_,?_,?_,?_,?_,?_,?_,?_,?_,?_,?_,?_,?_,?_,?_,trivial⟩ ?_
      ·refine ⟨?z25,?z26,?z27,?z28,?z29,?z30,?z31,?z32,?z33,?z34,?z35,?z36,?z37,?z38,?z39,?fr,Slot.start _ _ _,Slot.start _ _ _,Slot.start _ _ _,Slot.start _ _ _,Slot.start _ _ _,Slot.start _ _ _,Slot.start _ _ _,Slot.start _ _ _,Slot.start _ _ _,Slot.start _ _ _,Slot.start _ _ _,Slot.start _ _ _,Slot.start _ _ _,Slot.start _ _ _,Slot.start _ _ _,Old.start HDb.out _ _,Dep.start _ _,(Off.refl _ A0).drew⟩
       case fr => first | (simp only [Act.put,List.setIfInBounds_toArray,List.set_cons_zero,List.set_cons_succ]; rfl) | simp only [Act.put,List.setIfInBounds_toArray,List.set_cons_zero,List.set_cons_succ]
      ·intro l a wr hI hl hd K' hK
       obtain ⟨u25,u26,u27,u28,u29,u30,u31,u32,u33,u34,u35,u36,u37,u38,u39,ha,s0,s1,s2,s3,s4,s5,s6,s7,s8,s9,s10,s11,s12,s13,s14,O0,P1_15,hO⟩ := hI
       simp only [Act.put,List.setIfInBounds_toArray,List.set_cons_zero,List.set_cons_succ] at ha
       subst ha
       have hc := HK.out wr hO
       have p0 := hc.1.1
       have p1 := hc.1.2.1
       have p2 := hc.1.2.2.1
       have p3 := hc.1.2.2.2
       clear hc
       go_simp
       refine hK.out _ _ ⟨_,_,_,_,_,_,_,_,_,_,_,_,_,_,_,?_,Slot.new _ _ _,s1.keep rfl,s2.keep rfl,s3.keep rfl,s4.keep rfl,s5.keep rfl,s6.keep rfl,s7.keep rfl,s8.keep rfl,s9.keep rfl,s10.keep rfl,s11.keep rfl,s12.keep rfl,s13.keep rfl,s14.keep rfl,O0.keep (Off.refl _ wr) rfl,P1_15.keep rfl,hO⟩
       simp only [Act.put,List.setIfInBounds_toArray,List.set_cons_zero,List.set_cons_succ]
      ·intro l a wr hI hl hd K' hK
       obtain ⟨u25,u26,u27,u28,u29,u30,u31,u32,u33,u34,u35,u36,u37,u38,u39,ha,s0,s1,s2,s3,s4,s5,s6,s7,s8,s9,s10,s11,s12,s13,s14,O0,P1_15,hO⟩ := hI
       simp only [Act.put,List.setIfInBounds_toArray,List.set_cons_zero,List.set_cons_succ] at ha
       subst ha
       have hZ := O0.was (P1_15 hl)
       obtain ⟨p0,p1,p2,p3⟩ := cells4 hZ
       clear hZ
       go_simp
       refine hK.out _ _ ⟨_,_,_,_,_,_,_,_,_,_,_,_,_,_,_,?_,s0.keep rfl,Slot.new _ _ _,s2.keep rfl,s3.keep rfl,s4.keep rfl,s5.keep rfl,s6.keep rfl,s7.keep rfl,s8.keep rfl,s9.keep rfl,s10.keep rfl,s11.keep rfl,s12.keep rfl,s13.keep rfl,s14.keep rfl,O0.keep (Off.refl _ wr) rfl,P1_15.keep rfl,hO⟩
       simp only [Act.put,List.setIfInBounds_toArray,List.set_cons_zero,List.set_cons_succ]
      ·intro l a wr hI hl hd K' hK
       obtain ⟨u25,u26,u27,u28,u29,u30,u31,u32,u33,u34,u35,u36,u37,u38,u39,ha,s0,s1,s2,s3,s4,s5,s6,s7,s8,s9,s10,s11,s12,s13,s14,O0,P1_15,hO⟩ := hI
       simp only [Act.put,List.setIfInBounds_toArray,List.set_cons_zero,List.set_cons_succ] at ha
       subst ha
       have hc := HK.out wr hO
       have p0 := hc.1.1
       have p1 := hc.1.2.1
       have p2 := hc.1.2.2.1
       have p3 := hc.1.2.2.2
       clear hc
       go_simp
       refine hK.out _ _ ⟨_,_,_,_,_,_,_,_,_,_,_,_,_,_,_,?_,s0.keep rfl,s1.keep rfl,Slot.new _ _ _,s3.keep rfl,s4.keep rfl,s5.keep rfl,s6.keep rfl,s7.keep rfl,s8.keep rfl,s9.keep rfl,s10.keep rfl,s11.keep rfl,s12.keep rfl,s13.keep rfl,s14.keep rfl,O0.keep (Off.refl _ wr) rfl,P1_15.keep rfl,hO⟩
       simp only [Act.put,List.setIfInBounds_toArray,List.set_cons_zero,List.set_cons_succ]
      ·intro l a wr hI hl hd K' hK
       obtain ⟨u25,u26,u27,u28,u29,u30,u31,u32,u33,u34,u35,u36,u37,u38,u39,ha,s0,s1,s2,s3,s4,s5,s6,s7,s8,s9,s10,s11,s12,s13,s14,O0,P1_15,hO⟩ := hI
       simp only [Act.put,List.setIfInBounds_toArray,List.set_cons_zero,List.set_cons_succ] at ha
       subst ha
       go_simp
       refine hK.out _ _ ⟨_,_,_,_,_,_,_,_,_,_,_,_,_,_,_,?_,s0.keep rfl,s1.keep rfl,s2.keep rfl,Slot.new _ _ _,s4.keep rfl,s5.keep rfl,s6.keep rfl,s7.keep rfl,s8.keep rfl,s9.keep rfl,s10.keep rfl,s11.keep rfl,s12.keep rfl,s13.keep rfl,s14.keep rfl,O0.keep (Off.refl _ wr) rfl,P1_15.keep rfl,hO⟩
       simp only [Act.put,List.setIfInBounds_toArray,List.set_cons_zero,List.set_cons_succ]
      ·intro l a wr hI hl hd K' hK
       obtain ⟨u25,u26,u27,u28,u29,u30,u31,u32,u33,u34,u35,u36,u37,u38,u39,ha,s0,s1,s2,s3,s4,s5,s6,s7,s8,s9,s10,s11,s12,s13,s14,O0,P1_15,hO⟩ := hI
       simp only [Act.put,List.setIfInBounds_toArray,List.set_cons_zero,List.set_cons_succ] at ha
       subst ha
       go_simp
       refine hK.out _ _ ⟨_,_,_,_,_,_,_,_,_,_,_,_,_,_,_,?_,s0.keep rfl,s1.keep rfl,s2.keep rfl,s3.keep rfl,Slot.new _ _ _,s5.keep rfl,s6.keep rfl,s7.keep rfl,s8.keep rfl,s9.keep rfl,s10.keep rfl,s11.keep rfl,s12.keep rfl,s13.keep rfl,s14.keep rfl,O0.keep (Off.refl _ wr) rfl,P1_15.keep rfl,hO⟩
       simp only [Act.put,List.setIfInBounds_toArray,List.set_cons_zero,List.set_cons_succ]
      ·intro l a wr hI hl hd K' hK
       obtain ⟨u25,u26,u27,u28,u29,u30,u31,u32,u33,u34,u35,u36,u37,u38,u39,ha,s0,s1,s2,s3,s4,s5,s6,s7,s8,s9,s10,s11,s12,s13,s14,O0,P1_15,hO⟩ := hI
       simp only [Act.put,List.setIfInBounds_toArray,List.set_cons_zero,List.set_cons_succ] at ha
       have q3 := s3 (hd 3 (by decide))
       have q4 := s4 (hd 4 (by decide))
       subst ha q3 q4
       go_simp
       refine hK.out _ _ ⟨_,_,_,_,_,_,_,_,_,_,_,_,_,_,_,?_,s0.keep rfl,s1.keep rfl,s2.keep rfl,s3.keep rfl,s4.keep rfl,Slot.new _ _ _,s6.keep rfl,s7.keep rfl,s8.keep rfl,s9.keep rfl,s10.keep rfl,s11.keep rfl,s12.keep rfl,s13.keep rfl,s14.keep rfl,O0.keep (Off.refl _ wr) rfl,P1_15.keep rfl,hO⟩
       simp only [Act.put,List.setIfInBounds_toArray,List.set_cons_zero,List.set_cons_succ]
      ·intro l a wr hI hl hd K' hK
       obtain ⟨u25,u26,u27,u28,u29,u30,u31,u32,u33,u34,u35,u36,u37,u38,u39,ha,s0,s1,s2,s3,s4,s5,s6,s7,s8,s9,s10,s11,s12,s13,s14,O0,P1_15,hO⟩ := hI
       simp only [Act.put,List.setIfInBounds_toArray,List.set_cons_zero,List.set_cons_succ] at ha
       have q5 := s5 (hd 5 (by decide))
       subst ha q5
       have hc := HK.out wr hO
       have p0 := hc.2.1
       clear hc
       go_simp
       refine hK.out _ _ ⟨_,_,_,_,_,_,_,_,_,_,_,_,_,_,_,?_,s0.keep rfl,s1.keep rfl,s2.keep rfl,s3.keep rfl,s4.keep rfl,s5.keep rfl,Slot.new _ _ _,s7.keep rfl,s8.keep rfl,s9.keep rfl,s10.keep rfl,s11.keep rfl,s12.keep rfl,s13.keep rfl,s14.keep rfl,O0.keep (Off.refl _ wr) rfl,P1_15.keep rfl,hO⟩
       simp only [Act.put,List.setIfInBounds_toArray,List.set_cons_zero,List.set_cons_succ]
      ·intro l a wr hI hl hd K' hK
       obtain ⟨u25,u26,u27,u28,u29,u30,u31,u32,u33,u34,u35,u36,u37,u38,u39,ha,s0,s1,s2,s3,s4,s5,s6,s7,s8,s9,s10,s11,s12,s13,s14,O0,P1_15,hO⟩ := hI
       simp only [Act.put,List.setIfInBounds_toArray,List.set_cons_zero,List.set_cons_succ] at ha
       have q6 := s6 (hd 6 (by decide))
       subst ha q6
       go_simp
       refine (held_inv (HPm.out wr) hO).mono ?_
       rintro e w1 ⟨rfl,hO1,hOW⟩
       go_wp2_with fail
       refine hK.out _ _ ⟨_,_,_,_,_,_,_,_,_,_,_,_,_,_,_,?_,s0.keep rfl,s1.keep rfl,s2.keep rfl,s3.keep rfl,s4.keep rfl,s5.keep rfl,s6.keep rfl,Slot.new _ _ _,s8.keep rfl,s9.keep rfl,s10.keep rfl,s11.keep rfl,s12.keep rfl,s13.keep rfl,s14.keep rfl,O0.keep hOW rfl,P1_15.keep rfl,hO1⟩
       simp only [Act.put,List.setIfInBounds_toArray,List.set_cons_zero,List.set_cons_succ]
      ·intro l a wr hI hl hd K' hK
       obtain ⟨u25,u26,u27,u28,u29,u30,u31,u32,u33,u34,u35,u36,u37,u38,u39,ha,s0,s1,s2,s3,s4,s5,s6,s7,s8,s9,s10,s11,s12,s13,s14,O0,P1_15,hO⟩ := hI
       simp only [Act.put,List.setIfInBounds_toArray,List.set_cons_zero,List.set_cons_succ] at ha
       subst ha
       go_simp
       refine hK.out _ _ ⟨_,_,_,_,_,_,_,_,_,_,_,_,_,_,_,?_,s0.keep rfl,s1.keep rfl,s2.keep rfl,s3.keep rfl,s4.keep rfl,s5.keep rfl,s6.keep rfl,s7.keep rfl,Slot.new _ _ _,s9.keep rfl,s10.keep rfl,s11.keep rfl,s12.keep rfl,s13.keep rfl,s14.keep rfl,O0.keep (Off.refl _ wr) rfl,P1_15.keep rfl,hO⟩
       simp only [Act.put,List.setIfInBounds_toArray,List.set_cons_zero,List.set_cons_succ]
      ·intro l a wr hI hl hd K' hK
       obtain ⟨u25,u26,u27,u28,u29,u30,u31,u32,u33,u34,u35,u36,u37,u38,u39,ha,s0,s1,s2,s3,s4,s5,s6,s7,s8,s9,s10,s11,s12,s13,s14,O0,P1_15,hO⟩ := hI
       simp only [Act.put,List.setIfInBounds_toArray,List.set_cons_zero,List.set_cons_succ] at ha
       subst ha
       go_simp
       refine hK.out _ _ ⟨_,_,_,_,_,_,_,_,_,_,_,_,_,_,_,?_,s0.keep rfl,s1.keep rfl,s2.keep rfl,s3.keep rfl,s4.keep rfl,s5.keep rfl,s6.keep rfl,s7.keep rfl,s8.keep rfl,Slot.new _ _ _,s10.keep rfl,s11.keep rfl,s12.keep rfl,s13.keep rfl,s14.keep rfl,O0.keep (Off.refl _ wr) rfl,P1_15.keep rfl,hO⟩
       simp only [Act.put,List.setIfInBounds_toArray,List.set_cons_zero,List.set_cons_succ]
      ·intro l a wr hI hl hd K' hK
       obtain ⟨u25,u26,u27,u28,u29,u30,u31,u32,u33,u34,u35,u36,u37,u38,u39,ha,s0,s1,s2,s3,s4,s5,s6,s7,s8,s9,s10,s11,s12,s13,s14,O0,P1_15,hO⟩ := hI
       simp only [Act.put,List.setIfInBounds_toArray,List.set_cons_zero,List.set_cons_succ] at ha
       have q8 := s8 (hd 8 (by decide))
       have q9 := s9 (hd 9 (by decide))
       subst ha q8 q9
       go_simp
       refine hK.out _ _ ⟨_,_,_,_,_,_,_,_,_,_,_,_,_,_,_,?_,s0.keep rfl,s1.keep rfl,s2.keep rfl,s3.keep rfl,s4.keep rfl,s5.keep rfl,s6.keep rfl,s7.keep rfl,s8.keep rfl,s9.keep rfl,Slot.new _ _ _,s11.keep rfl,s12.keep rfl,s13.keep rfl,s14.keep rfl,O0.keep (Off.refl _ wr) rfl,P1_15.keep rfl,hO⟩
       simp only [Act.put,List.setIfInBounds_toArray,List.set_cons_zero,List.set_cons_succ]
      ·intro l a wr hI hl hd K' hK
       obtain ⟨u25,u26,u27,u28,u29,u30,u31,u32,u33,u34,u35,u36,u37,u38,u39,ha,s0,s1,s2,s3,s4,s5,s6,s7,s8,s9,s10,s11,s12,s13,s14,O0,P1_15,hO⟩ := hI
       simp only [Act.put,List.setIfInBounds_toArray,List.set_cons_zero,List.set_cons_succ] at ha
       have q10 := s10 (hd 10 (by decide))
       subst ha q10
       have hc := HK.out wr hO
       have p0 := hc.2.2.1
       clear hc
       go_simp
       refine hK.out _ _ ⟨_,_,_,_,_,_,_,_,_,_,_,_,_,_,_,?_,s0.keep rfl,s1.keep rfl,s2.keep rfl,s3.keep rfl,s4.keep rfl,s5.keep rfl,s6.keep rfl,s7.keep rfl,s8.keep rfl,s9.keep rfl,s10.keep rfl,Slot.new _ _ _,s12.keep rfl,s13.keep rfl,s14.keep rfl,O0.keep (Off.refl _ wr) rfl,P1_15.keep rfl,hO⟩
       simp only [Act.put,List.setIfInBounds_toArray,List.set_cons_zero,List.set_cons_succ]
      ·intro l a wr hI hl hd K' hK
       obtain ⟨u25,u26,u27,u28,u29,u30,u31,u32,u33,u34,u35,u36,u37,u38,u39,ha,s0,s1,s2,s3,s4,s5,s6,s7,s8,s9,s10,s11,s12,s13,s14,O0,P1_15,hO⟩ := hI
       simp only [Act.put,List.setIfInBounds_toArray,List.set_cons_zero,List.set_cons_succ] at ha
       have q11 := s11 (hd 11 (by decide))
       subst ha q11
       go_simp
       refine (held_inv (HPt2.out wr) hO).mono ?_
       rintro e w1 ⟨rfl,hO1,hOW⟩
       go_wp2_with fail
       refine hK.out _ _ ⟨_,_,_,_,_,_,_,_,_,_,_,_,_,_,_,?_,s0.keep rfl,s1.keep rfl,s2.keep rfl,s3.keep rfl,s4.keep rfl,s5.keep rfl,s6.keep rfl,s7.keep rfl,s8.keep rfl,s9.keep rfl,s10.keep rfl,s11.keep rfl,Slot.new _ _ _,s13.keep rfl,s14.keep rfl,O0.keep hOW rfl,P1_15.keep rfl,hO1⟩
       simp only [Act.put,List.setIfInBounds_toArray,List.set_cons_zero,List.set_cons_succ]
      ·intro l a wr hI hl hd K' hK
       obtain ⟨u25,u26,u27,u28,u29,u30,u31,u32,u33,u34,u35,u36,u37,u38,u39,ha,s0,s1,s2,s3,s4,s5,s6,s7,s8,s9,s10,s11,s12,s13,s14,O0,P1_15,hO⟩ := hI
       simp only [Act.put,List.setIfInBounds_toArray,List.set_cons_zero,List.set_cons_succ] at ha
       have q2 := s2 (hd 2 (by decide))
       have q7 := s7 (hd 7 (by decide))
       have q12 := s12 (hd 12 (by decide))
       subst ha q2 q7 q12
       go_simp
       refine (held_inv (HSb.out wr) hO).mono ?_
       rintro e w1 ⟨rfl,hO1,hOW⟩
       go_wp2_with fail
       refine hK.out _ _ ⟨_,_,_,_,_,_,_,_,_,_,_,_,_,_,_,?_,s0.keep rfl,s1.keep rfl,s2.keep rfl,s3.keep rfl,s4.keep rfl,s5.keep rfl,s6.keep rfl,s7.keep rfl,s8.keep rfl,s9.keep rfl,s10.keep rfl,s11.keep rfl,s12.keep rfl,Slot.new _ _ _,s14.keep rfl,O0.keep hOW rfl,P1_15.keep rfl,hO1⟩
       simp only [Act.put,List.setIfInBounds_toArray,List.set_cons_zero,List.set_cons_succ]
      ·intro l a wr hI hl hd K' hK
       obtain ⟨u25,u26,u27,u28,u29,u30,u31,u32,u33,u34,u35,u36,u37,u38,u39,ha,s0,s1,s2,s3,s4,s5,s6,s7,s8,s9,s10,s11,s12,s13,s14,O0,P1_15,hO⟩ := hI
       simp only [Act.put,List.setIfInBounds_toArray,List.set_cons_zero,List.set_cons_succ] at ha
       have q0 := s0 (hd 0 (by decide))
       have q1 := s1 (hd 1 (by decide))
       have q13 := s13 (hd 13 (by decide))
       subst ha q0 q1 q13
       go_simp
       refine (held_inv (HMu.out wr) hO).mono ?_
       rintro e w1 ⟨rfl,hO1,hOW⟩
       go_wp2_with fail
       refine hK.out _ _ ⟨_,_,_,_,_,_,_,_,_,_,_,_,_,_,_,?_,s0.keep rfl,s1.keep rfl,s2.keep rfl,s3.keep rfl,s4.keep rfl,s5.keep rfl,s6.keep rfl,s7.keep rfl,s8.keep rfl,s9.keep rfl,s10.keep rfl,s11.keep rfl,s12.keep rfl,s13.keep rfl,Slot.new _ _ _,O0.keep hOW rfl,P1_15.keep rfl,hO1⟩
       simp only [Act.put,List.setIfInBounds_toArray,List.set_cons_zero,List.set_cons_succ]
      ·intro l a wr hI hl hd K' hK
       obtain ⟨u25,u26,u27,u28,u29,u30,u31,u32,u33,u34,u35,u36,u37,u38,u39,ha,s0,s1,s2,s3,s4,s5,s6,s7,s8,s9,s10,s11,s12,s13,s14,O0,P1_15,hO⟩ := hI
       simp only [Act.put,List.setIfInBounds_toArray,List.set_cons_zero,List.set_cons_succ] at ha
       have q14 := s14 (hd 14 (by decide))
       subst ha q14
       have hZ := (O0.was hl)
       obtain ⟨m0,m1,m2,m3⟩ := cells4 hZ
       have fz := fun j => frozen_of_heap hZ j
       have lt := heap_lt hZ
       clear hZ
       go_simp
       refine hK.out _ _ ⟨_,_,_,_,_,_,_,_,_,_,_,_,_,_,_,?_,s0.keep rfl,s1.keep rfl,s2.keep rfl,s3.keep rfl,s4.keep rfl,s5.keep rfl,s6.keep rfl,s7.keep rfl,s8.keep rfl,s9.keep rfl,s10.keep rfl,s11.keep rfl,s12.keep rfl,s13.keep rfl,s14.keep rfl,O0.put hl rfl,Dep.at (hd 1 (by decide)),setCells_in hO (fun _ => rfl) [.int .u64 (wd z 0 : Int),.int .u64 (wd z 1 : Int),.int .u64 (wd z 2 : Int),.int .u64 (wd z 3 : Int)]⟩
       simp only [Act.put,List.setIfInBounds_toArray,List.set_cons_zero,List.set_cons_succ]
      ·intro l a wc hI hd
       obtain ⟨u25,u26,u27,u28,u29,u30,u31,u32,u33,u34,u35,u36,u37,u38,u39,ha,s0,s1,s2,s3,s4,s5,s6,s7,s8,s9,s10,s11,s12,s13,s14,O0,P1_15,hO⟩ := hI
       simp only [Act.put,List.setIfInBounds_toArray,List.set_cons_zero,List.set_cons_succ] at ha
       have q0 := s0 (hd 0 (by decide))
       have q1 := s1 (hd 1 (by decide))
       have q2 := s2 (hd 2 (by decide))
       have q3 := s3 (hd 3 (by decide))
       have q4 := s4 (hd 4 (by decide))
       have q5 := s5 (hd 5 (by decide))
       have q6 := s6 (hd 6 (by decide))
       have q7 := s7 (hd 7 (by decide))
       have q8 := s8 (hd 8 (by decide))
       have q9 := s9 (hd 9 (by decide))
       have q10 := s10 (hd 10 (by decide))
       have q11 := s11 (hd 11 (by decide))
       have q12 := s12 (hd 12 (by decide))
       have q13 := s13 (hd 13 (by decide))
       have q14 := s14 (hd 14 (by decide))
       have r0 : wc.heap[db]? = some (.cells #[.int .u64 (wd z 0 : Int),.int .u64 (wd z 1 : Int),.int .u64 (wd z 2 : Int),.int .u64 (wd z 3 : Int)] 28) := O0.now (hd 15 (by decide))
       subst ha q0 q1 q2 q3 q4 q5 q6 q7 q8 q9 q10 q11 q12 q13 q14
       clear hd s0 s1 s2 s3 s4 s5 s6 s7 s8 s9 s10 s11 s12 s13 s14 O0 P1_15
       have hR2 := own_put HR.out hO hne
       have hO2 : Off (fun _ => False) W0 wc := HO.out.trans hO (fun k hk e => by omega)
       rw [<- Hzn.out] at r0
       have H1 := Lib.hid r0
       have H2 := Lib.hid hR2
       have H3 := Lib.hid hO2
       clear r0 hR2 hO2 hO
       go_wp2
       go_roundw
       case rel => exact ⟨j + 1,by omega,by simp,H1.out,H2.out,H3.out⟩
       case measure => simp [intOf] <;> omega
    ·obtain rfl : n = j := by omega
     obtain ⟨d,hd⟩ : ∃ d,d = dfF p ps k 1 (oth n k) := ⟨_,rfl⟩
     have hdp : d < p := by rw [hd]; exact dfF_lt (by omega) ps k h1 _
     obtain ⟨z,hz⟩ : ∃ z,z = d ^ (p - 2) % p := ⟨_,rfl⟩
     have hYk : Ys[k]? = some z := by
      rw [HYs.out,wgtL,List.getElem?_map,List.getElem?_range (by have := HPn.out; omega),hz,hd]
      unfold wgt; rw [HPn.out]; rfl
     have HFI := Lib.hid (show ∀ W,Calls Tryd.prog 82 #[V p,V d] W fun e w' => e = .returned (V z) /\ Off (fun _ => False) W w' from fun W => by rw [hz]; exact HIn.out d hdp W)
     rw [<- hd] at hD
     obtain ⟨d0,d1,d2,d3⟩ := cells4 hD
     obtain ⟨p0,p1,p2,p3⟩ := cells4 (hO.heap HP0.out (fun c => c))
     have ltd := heap_lt hD
     have HYt := Lib.hid (show flat4 (Ys.take k) ++ words4 z = flat4 (Ys.take (k + 1)) by
      obtain ⟨hlk,hxk⟩ := List.getElem?_eq_some_iff.1 hYk
      rw [List.take_succ_eq_append_getElem hlk,hxk,flat4_append]; rfl)
     have HR := Lib.hid hR
     have HO := Lib.hid hO
     clear hD hR hO hd hz hYk hdp
     go_wp2_with fail
     refine (HFI.out _).mono ?_
     rintro e u1 ⟨rfl,hO1⟩
     have HR2 := Lib.hid (own_off HR.out hO1)
     have HO2 := Lib.hid (HO.out.trans hO1 (fun _ _ c => c))
     clear d0 d1 d2 d3 p0 p1 p2 p3 ltd hO1
     go_wp2_with (at_builtin; refine wpList_append_own _ rfl _ _ 23 rfl W0.heap.size 28 j0 _ 4 32 Tryd.underlying23 hj0' hj0 hj1 hj2 rfl (by decide) _ k _ rfl (HR2.out.alloc _) ⟨u1.heap.size,0,none⟩ 1 1 (words4 z) rfl rfl ?q1 (words4_one _) ?q2 ?q3 ?q4 ?_)
     case q1 => exact words4_at (heap_new' rfl _)
     case q2 => unfold maxLen; omega
     case q3 => omega
     case q4 => have := HO2.out.size; simp; omega
     intro v' w1 hown' hgrow hnil
     obtain ⟨g6,c6,rfl⟩ := ownsRow_succ hown'
     have hO3 : Off (fun _ => False) W0 w1 := grown_off (HO2.out.alloc _) (Nat.le_refl _) (HR2.out.alloc _) hgrow
     rw [HYt.out] at hown'
     have H1 := Lib.hid hown'
     have H2 := Lib.hid hO3
     clear hown' hgrow hnil hO3
     go_wp2
     go_roundw
     case rel => exact ⟨k + 1,by omega,by simp,⟨_,_,rfl,H1.out⟩,H2.out⟩
     case measure => simp [intOf] <;> omega
  ·obtain rfl : n = k := by omega
   rw [List.take_of_length_le (by rw [HYn.out]; exact Nat.le_refl _)] at hown
   have H1 := Lib.hid hown
   have H3 := Lib.hid (HO0.out.trans hO (fun _ _ c => c))
   clear hown hO
   go_wp2_with fail
   refine bodyPost_ret (results_tmp rfl _ _ _) rfl ?_
   exact ⟨va,vc,W0.heap.size,rfl,hw0,H1.out,H3.out⟩
end
section
open Go.RowKit
attribute [local go_sem ↓] Go.wp_at_zero Go.wp_at_succ
/-- A block that begins with numbers. -/
def NumsR (w : World) (b : Nat) (T : TypeId) (xs : List Nat) (rest : List Value) : Prop := w.heap[b]? = some (.cells (flat4 xs ++ rest).toArray T (0,0))
theorem NumsR.cell {w : World} {b : Nat} {T : TypeId} {xs : List Nat} {rest : List Value} (h : NumsR w b T xs rest) {j x : Nat} (hj : xs[j]? = some x) : elAt w b (j * 4) x := by
 obtain ⟨h0,h1,h2,h3⟩ := flat4_get xs j x hj
 have a : ∀ {k : Nat} {v : Value},(flat4 xs)[k]? = some v -> w.cell? ⟨b,k,none⟩ = some v := fun {k v} hk => by
  rw [cell_of_heap h,List.getElem?_toArray,List.getElem?_append_left (List.getElem?_eq_some_iff.1 hk).1]; exact hk
 exact ⟨a h0,a h1,a h2,a h3⟩
theorem NumsR.store {w : World} {b : Nat} {T : TypeId} {xs : List Nat} {rest : List Value} (h : NumsR w b T xs rest) {j : Nat} (hj : j < xs.length) (v : Nat) : NumsR (w.setCells b (j * 4) (words4 v)) b T (xs.set j v) rest := by
 obtain ⟨pre,mid,post,h1,h2,h3,h4⟩ := flat4_set xs j v hj
 unfold NumsR at h ⊢
 rw [h1,List.append_assoc] at h
 rw [h4,List.append_assoc]
 exact setCells_mid (words4 v) pre mid (post ++ rest) w (j * 4) h2 (by rw [h3]; rfl) h
theorem NumsR.ls {w : World} {g n c : Nat} {T : TypeId} {xs : List Nat} {rest : List Value} (h : NumsR w g T xs rest) (hn : n = xs.length) (hl : n <= 100000) : Ls w (.slice (some ⟨g,0,none⟩) n c) xs :=
 ⟨some ⟨g,0,none⟩,c,by rw [hn],by omega,fun _ => ⟨g,0,rfl,trivial,fun j x hx => by have := h.cell hx; rw [Nat.zero_add]; exact this⟩⟩
end
section
open Go.RowKit
attribute [local go_sem ↓] Go.wp_at_zero Go.wp_at_succ
theorem built_x1 (w : World) (m : Nat) : Ls (w.alloc (.cells #[.int .u64 (wd m 0 : Int),.int .u64 (wd m 1 : Int),.int .u64 (wd m 2 : Int),.int .u64 (wd m 3 : Int),.int .u64 1,.int .u64 0,.int .u64 0,.int .u64 0] 28 (0,0))) (.slice (some ⟨w.heap.size,0,none⟩) 2 2) [m,1] := by
 have h := ls_build w [m,1] (by simp) 28
 rw [show (flat4 [m,1]).toArray = #[.int .u64 (wd m 0 : Int),.int .u64 (wd m 1 : Int),.int .u64 (wd m 2 : Int),.int .u64 (wd m 3 : Int),.int .u64 1,.int .u64 0,.int .u64 0,.int .u64 0] from by kernel_rfl] at h
 exact h
theorem built_1 (w : World) (m : Nat) : Ls (w.alloc (.cells #[.int .u64 (wd m 0 : Int),.int .u64 (wd m 1 : Int),.int .u64 (wd m 2 : Int),.int .u64 (wd m 3 : Int)] 28 (0,0))) (.slice (some ⟨w.heap.size,0,none⟩) 1 1) [m] := ls_build w [m] (by simp) 28
set_option maxRecDepth 100000 in
set_option maxHeartbeats 4000000 in
theorem refitp_any {p : Nat} (hp : p < R256) (hbig : 256 <= p) (xs : List Int) (hr : ∀ x ∈ xs,1 <= x /\ x <= 255) (hl : xs.length <= 90) (ys : List Nat) (hy : ∀ y ∈ ys,y < p) (hyl : ys.length = xs.length) (v u : Value) (w : World) (hV : Iv w v xs) (hU : Ls w u ys) :
  Calls Tryd.prog 34 #[V p,v,u] w fun e w' => ∃ z,e = .returned z /\ Ls w' z (itpL p (ptV xs) ys) /\ Off (fun _ => False) w w' := by
 have hmx : Tryd.prog.follows .mixedOrders = true := by kernel_rfl
 have h1 : 1 < p := by omega
 obtain ⟨a2,cap2,rfl,hL⟩ := hV.open
 obtain ⟨ya,yc,rfl,hY⟩ := hU.open
 rw [hyl] at hY ⊢
 obtain ⟨ps,hps⟩ : ∃ ps,ps = ptV xs := ⟨_,rfl⟩
 have HWt := Lib.hid (fun W h => by have g := refwts_any hp hbig xs hr (by omega) (.slice a2 xs.length cap2) W (hV.off h); rw [<- hps] at g; exact g : ∀ W,Off (fun _ => False) w W -> _)
 obtain ⟨n,hn⟩ : ∃ n,n = xs.length := ⟨_,rfl⟩
 have hpn : ps.length = n := by rw [hps,ptV_length,hn]
 have HAt := Lib.hid (fun W h k hk => by have g := ints_at (IvAt.off hL h (fun _ _ _ c => c)) hr hk; rw [<- hps] at g; exact g : ∀ W,Off (fun _ => False) w W -> ∀ k,k < xs.length -> ∃ b off m,a2 = some ⟨b,off,none⟩ /\ W.cell? ⟨b,off + k,none⟩ = some (.int .i64 ((m : Nat) : Int)) /\ m < 256 /\ ps.getD k 0 = m)
 rw [<- hn] at HAt HWt hl hyl hY ⊢
 rw [<- hps]
 have HSu := Lib.hid (fun b hb W => by have h := mod_diff p 0 b hp (by omega) hb W; rw [Nat.zero_add,lit_small 0 (by decide)] at h; exact h : ∀ b,b < p -> ∀ W,Calls Tryd.prog 58 #[V p,.agg #[.int .u64 0,.int .u64 0,.int .u64 0,.int .u64 0],V b] W fun e w' => e = .returned (V (ng p b)) /\ Off (fun _ => False) W w')
 have HMl := Lib.hid (fun a b ha hb W => mod_mul p a b hp h1 ha (Nat.lt_trans hb hp) W : ∀ a b,a < p -> b < p -> ∀ W,_)
 have HAd := Lib.hid (fun vs us h2 h3 h4 h5 v u W => refadd_any' hp h1 vs us h2 h3 h4 h5 v u W)
 have HMp := Lib.hid (fun vs us h2 h3 h4 h5 v u W => refmul_any hp h1 vs us h2 h3 h4 h5 v u W)
 have hmk := run_make_vec n (by omega)
 obtain ⟨ZZ,hZZ⟩ : ∃ Z,Z = itpL p ps ys := ⟨_,rfl⟩
 rw [<- hZZ]
 have HZZ := Lib.hid hZZ
 have HPn := Lib.hid hpn
 have HY := Lib.hid hY
 have HYl := Lib.hid hyl
 have HYp := Lib.hid hy
 clear hV hU hL hr hn hps hpn hY hyl hy hZZ
 go_enter Tryd.func34,Tryd.ntmps34
 go_wp2_with fail
 obtain ⟨W0,hW0⟩ : ∃ W0,W0 = w.alloc (.cells #[.int .u64 (wd p 0 : Int),.int .u64 (wd p 1 : Int),.int .u64 (wd p 2 : Int),.int .u64 (wd p 3 : Int)] 28) := ⟨_,rfl⟩
 obtain ⟨pb,hpb⟩ : ∃ pb,pb = w.heap.size := ⟨_,rfl⟩
 rw [<- hW0,<- hpb]
 have hO0 : Off (fun _ => False) w W0 := by rw [hW0]; exact (Off.refl _ w).alloc _
 have hP0 : W0.heap[pb]? = some (.cells #[.int .u64 (wd p 0 : Int),.int .u64 (wd p 1 : Int),.int .u64 (wd p 2 : Int),.int .u64 (wd p 3 : Int)] 28 (0,0)) := by rw [hW0,hpb]; exact heap_new' rfl _
 have HO0 := Lib.hid hO0
 have HP0 := Lib.hid hP0
 clear hW0 hpb hO0 hP0
 refine (HWt.out W0 HO0.out).mono ?_
 rintro e W1 ⟨wa,wc1,B,rfl,hB,hown,hO1⟩
 have hWl := Ls.of (ls_of_own hown (show n = (wgtL p ps).length by rw [wgtL_length,HPn.out]) (by omega))
 have HW1 := Lib.hid hWl
 have HO1 := Lib.hid hO1
 clear hown hB hO1 hWl
 go_wp2_with fail
 obtain ⟨W2,hW2⟩ : ∃ W2,W2 = W1.alloc (.cells (flat4 (List.replicate n 0)).toArray 28) := ⟨_,rfl⟩
 have ho2 : Off (fun _ => False) W1 W2 := by rw [hW2]; exact (Off.refl _ W1).alloc _
 have hz0 : Ls W2 (.slice (some ⟨W1.heap.size,0,none⟩) n n) (itpF p ps ys 0) := by
  have h := Ls.of_all (cap := n) (T := 28) (xs := List.replicate n 0) (show NumsAt W2 W1.heap.size 28 (List.replicate n 0) by rw [hW2]; exact heap_new' rfl _) (by rw [List.length_replicate]; omega)
  rw [List.length_replicate] at h
  rw [show itpF p ps ys 0 = List.replicate ps.length 0 from rfl,HPn.out]; exact h
 rw [<- hW2]
 obtain ⟨ob,hob⟩ : ∃ ob,ob = Value.slice (some ⟨W1.heap.size,0,none⟩) n n := ⟨_,rfl⟩
 rw [<- hob] at hz0 ⊢
 have HZ0 := Lib.hid hz0
 have HW2 := Lib.hid (HW1.out.off ho2)
 have HO2 := Lib.hid (HO1.out.trans ho2 (fun _ _ c => c))
 clear hz0 ho2 hW2 hob hmk HW1 HO1
 go_loopw [8,9] (fun z ix wr => ∃ i : Nat,i <= n /\ ix = .int .i64 (i : Int) /\ Ls wr z (itpF p ps ys i) /\ Ls wr (.slice wa n wc1) (wgtL p ps) /\ Off (fun _ => False) W0 wr) (fun _ ix _ => n - (intOf ix).toNat)
 case atStart => exact ⟨0,Nat.zero_le _,rfl,HZ0.out,HW2.out,HO2.out⟩
 case round =>
  obtain ⟨zo,rfl⟩ : ∃ zo,zo = u8 := ⟨_,rfl⟩
  obtain ⟨i,hi,rfl,hz,hW,hO⟩ := hrel
  by_cases hlt : i < n
  ·have hin : (i : Int) < (n : Int) := by omega
   obtain ⟨A0,rfl⟩ : ∃ A0,A0 = wr := ⟨_,rfl⟩
   have hOw := HO0.out.trans hO (fun _ _ c => c)
   obtain ⟨t,ht⟩ : ∃ t,t = wgt p ps i := ⟨_,rfl⟩
   have htp : t < p := by rw [ht]; exact wgt_lt (by omega) ps i
   obtain ⟨y,hy⟩ : ∃ y,y = ys.getD i 0 := ⟨_,rfl⟩
   have hyp : y < p := by rw [hy]; exact getD_lt (by omega) HYp.out i
   obtain ⟨f,hf⟩ : ∃ f,f = t * y % p := ⟨_,rfl⟩
   have hfp : f < p := by rw [hf]; exact Nat.mod_lt _ (by omega)
   have hwx : (wgtL p ps)[i]? = some t := by rw [wgtL,List.getElem?_map,List.getElem?_range (by have := HPn.out; omega),ht]; rfl
   have hyx : ys[i]? = some y := by rw [List.getElem?_eq_getElem (by have := HYl.out; omega),hy,List.getD_eq_getElem?_getD,List.getElem?_eq_getElem (by have := HYl.out; omega)]; rfl
   obtain ⟨wb,wo,hwa,_,w0c,w1c,w2c,w3c⟩ := LsAt.get hW hwx
   subst hwa
   obtain ⟨yb,yo,hya,_,y0,y1,y2,y3⟩ := (HY.out.off hOw (fun _ _ _ c => c)).get hyx
   subst hya
   have HMu := Lib.hid (show ∀ W,Calls Tryd.prog 43 #[V p,V t,V y] W fun e w' => e = .returned (V f) /\ Off (fun _ => False) W w' from fun W => by rw [hf]; exact HMl.out t y htp hyp W)
   have HK : Hid (∀ B,Off (fun _ => False) A0 B -> (B.cell? ⟨pb,0,none⟩ = some (.int .u64 (wd p 0 : Int)) /\ B.cell? ⟨pb,1,none⟩ = some (.int .u64 (wd p 1 : Int)) /\ B.cell? ⟨pb,2,none⟩ = some (.int .u64 (wd p 2 : Int)) /\ B.cell? ⟨pb,3,none⟩ = some (.int .u64 (wd p 3 : Int))) /\ elAt B wb (wo + i * 4) t /\ elAt B yb (yo + i * 4) y /\ Off (fun _ => False) A0 B) := Lib.hid (fun B h => ⟨cells4 (h.heap (hO.heap HP0.out (fun c => c)) (fun c => c)),elAt.off ⟨w0c,w1c,w2c,w3c⟩ h (fun c => c),elAt.off ⟨y0,y1,y2,y3⟩ h (fun c => c),h⟩)
   have Hff := Lib.hid (show f = wgt p ps i * ys.getD i 0 % p by rw [hf,ht,hy])
   have H1 := Lib.hid hz
   have H2 := Lib.hid hW
   have H3 := Lib.hid hO
   clear hz hW hO hOw hwx hyx w0c w1c w2c w3c y0 y1 y2 y3 ht hy hf htp hyp
   go_upto_region 6 with fail
   refine wp_region_inv (fun a0 l a' w' => ∃ (u24 : Value) (u25 : Value) (u26 : Value) (u27 : Value) (u28 : Value) (u29 : Value) (u30 : Value) (u31 : Value) (u32 : Value) (u33 : Value) (u34 : Value) (u10 : Value),a' = (Act.put (Act.put (Act.put (Act.put (Act.put (Act.put (Act.put (Act.put (Act.put (Act.put (Act.put (Act.put a0 (some 24) u24) (some 25) u25) (some 26) u26) (some 27) u27) (some 28) u28) (some 29) u29) (some 30) u30) (some 31) u31) (some 32) u32) (some 33) u33) (some 34) u34) (some 10) u10) /\ Slot l 0 u24 (V p) /\ Slot l 1 u25 (.slice (some ⟨wb,wo,none⟩) n wc1) /\ Slot l 2 u26 (.int .i64 (i : Int)) /\ Slot l 3 u27 (.pointer (some ⟨wb,wo + i * 4,none⟩)) /\ Slot l 4 u28 (V t) /\ Slot l 5 u29 (.slice (some ⟨yb,yo,none⟩) n yc) /\ Slot l 6 u30 (.int .i64 (i : Int)) /\ Slot l 7 u31 (.pointer (some ⟨yb,yo + i * 4,none⟩)) /\ Slot l 8 u32 (V y) /\ Slot l 9 u33 (V f) /\ Lk l 10 u34 w' ([f]) /\ Lk l 11 u10 w' ([f]) /\ Off (fun _ => False) A0 w') (by kernel_rfl) (by kernel_rfl) ?_ ⟨?_,?_,?_,?_,?_,?_,?_,?_,?_,?_,?_,?_,trivial⟩ ?_
   ·refine ⟨?z24,?z25,?z26,?z27,?z28,?z29,?z30,?z31,?z32,?z33,?z34,?z10,?fr,Slot.start _ _ _,Slot.start _ _ _,Slot.start _ _ _,Slot.start _ _ _,Slot.start _ _ _,Slot.start _ _ _,Slot.start _ _ _,Slot.start _ _ _,Slot.start _ _ _,Slot.start _ _ _,Lk.start _ _ _ _,Lk.start _ _ _ _,(Off.refl _ A0).drew⟩
    case fr => first | (simp only [Act.put,List.setIfInBounds_toArray,List.set_cons_zero,List.set_cons_succ]; rfl) | simp only [Act.put,List.setIfInBounds_toArray,List.set_cons_zero,List.set_cons_succ]
   ·intro l a wr hI hl hd K' hK
    obtain ⟨u24,u25,u26,u27,u28,u29,u30,u31,u32,u33,u34,u10,ha,s0,s1,s2,s3,s4,s5,s6,s7,s8,s9,M10,M11,hO⟩ := hI
    simp only [Act.put,List.setIfInBounds_toArray,List.set_cons_zero,List.set_cons_succ] at ha
    subst ha
    have hc := HK.out wr hO
    have p0 := hc.1.1
    have p1 := hc.1.2.1
    have p2 := hc.1.2.2.1
    have p3 := hc.1.2.2.2
    clear hc
    go_simp
    refine hK.out _ _ ⟨_,_,_,_,_,_,_,_,_,_,_,_,?_,Slot.new _ _ _,s1.keep rfl,s2.keep rfl,s3.keep rfl,s4.keep rfl,s5.keep rfl,s6.keep rfl,s7.keep rfl,s8.keep rfl,s9.keep rfl,M10.keep (Off.refl _ wr) rfl,M11.keep (Off.refl _ wr) rfl,hO⟩
    simp only [Act.put,List.setIfInBounds_toArray,List.set_cons_zero,List.set_cons_succ]
   ·intro l a wr hI hl hd K' hK
    obtain ⟨u24,u25,u26,u27,u28,u29,u30,u31,u32,u33,u34,u10,ha,s0,s1,s2,s3,s4,s5,s6,s7,s8,s9,M10,M11,hO⟩ := hI
    simp only [Act.put,List.setIfInBounds_toArray,List.set_cons_zero,List.set_cons_succ] at ha
    subst ha
    go_simp
    refine hK.out _ _ ⟨_,_,_,_,_,_,_,_,_,_,_,_,?_,s0.keep rfl,Slot.new _ _ _,s2.keep rfl,s3.keep rfl,s4.keep rfl,s5.keep rfl,s6.keep rfl,s7.keep rfl,s8.keep rfl,s9.keep rfl,M10.keep (Off.refl _ wr) rfl,M11.keep (Off.refl _ wr) rfl,hO⟩
    simp only [Act.put,List.setIfInBounds_toArray,List.set_cons_zero,List.set_cons_succ]
   ·intro l a wr hI hl hd K' hK
    obtain ⟨u24,u25,u26,u27,u28,u29,u30,u31,u32,u33,u34,u10,ha,s0,s1,s2,s3,s4,s5,s6,s7,s8,s9,M10,M11,hO⟩ := hI
    simp only [Act.put,List.setIfInBounds_toArray,List.set_cons_zero,List.set_cons_succ] at ha
    subst ha
    go_simp
    refine hK.out _ _ ⟨_,_,_,_,_,_,_,_,_,_,_,_,?_,s0.keep rfl,s1.keep rfl,Slot.new _ _ _,s3.keep rfl,s4.keep rfl,s5.keep rfl,s6.keep rfl,s7.keep rfl,s8.keep rfl,s9.keep rfl,M10.keep (Off.refl _ wr) rfl,M11.keep (Off.refl _ wr) rfl,hO⟩
    simp only [Act.put,List.setIfInBounds_toArray,List.set_cons_zero,List.set_cons_succ]
   ·intro l a wr hI hl hd K' hK
    obtain ⟨u24,u25,u26,u27,u28,u29,u30,u31,u32,u33,u34,u10,ha,s0,s1,s2,s3,s4,s5,s6,s7,s8,s9,M10,M11,hO⟩ := hI
    simp only [Act.put,List.setIfInBounds_toArray,List.set_cons_zero,List.set_cons_succ] at ha
    have q1 := s1 (hd 1 (by decide))
    have q2 := s2 (hd 2 (by decide))
    subst ha q1 q2
    go_simp
    refine hK.out _ _ ⟨_,_,_,_,_,_,_,_,_,_,_,_,?_,s0.keep rfl,s1.keep rfl,s2.keep rfl,Slot.new _ _ _,s4.keep rfl,s5.keep rfl,s6.keep rfl,s7.keep rfl,s8.keep rfl,s9.keep rfl,M10.keep (Off.refl _ wr) rfl,M11.keep (Off.refl _ wr) rfl,hO⟩
    simp only [Act.put,List.setIfInBounds_toArray,List.set_cons_zero,List.set_cons_succ]
   ·intro l a wr hI hl hd K' hK
    obtain ⟨u24,u25,u26,u27,u28,u29,u30,u31,u32,u33,u34,u10,ha,s0,s1,s2,s3,s4,s5,s6,s7,s8,s9,M10,M11,hO⟩ := hI
    simp only [Act.put,List.setIfInBounds_toArray,List.set_cons_zero,List.set_cons_succ] at ha
    have q3 := s3 (hd 3 (by decide))
    subst ha q3
    have hc := HK.out wr hO
    have p0 := hc.2.1.1
    have p1 := hc.2.1.2.1
    have p2 := hc.2.1.2.2.1
    have p3 := hc.2.1.2.2.2
    clear hc
    go_simp
    refine hK.out _ _ ⟨_,_,_,_,_,_,_,_,_,_,_,_,?_,s0.keep rfl,s1.keep rfl,s2.keep rfl,s3.keep rfl,Slot.new _ _ _,s5.keep rfl,s6.keep rfl,s7.keep rfl,s8.keep rfl,s9.keep rfl,M10.keep (Off.refl _ wr) rfl,M11.keep (Off.refl _ wr) rfl,hO⟩
    simp only [Act.put,List.setIfInBounds_toArray,List.set_cons_zero,List.set_cons_succ]
   ·intro l a wr hI hl hd K' hK
    obtain ⟨u24,u25,u26,u27,u28,u29,u30,u31,u32,u33,u34,u10,ha,s0,s1,s2,s3,s4,s5,s6,s7,s8,s9,M10,M11,hO⟩ := hI
    simp only [Act.put,List.setIfInBounds_toArray,List.set_cons_zero,List.set_cons_succ] at ha
    subst ha
    go_simp
    refine hK.out _ _ ⟨_,_,_,_,_,_,_,_,_,_,_,_,?_,s0.keep rfl,s1.keep rfl,s2.keep rfl,s3.keep rfl,s4.keep rfl,Slot.new _ _ _,s6.keep rfl,s7.keep rfl,s8.keep rfl,s9.keep rfl,M10.keep (Off.refl _ wr) rfl,M11.keep (Off.refl _ wr) rfl,hO⟩
    simp only [Act.put,List.setIfInBounds_toArray,List.set_cons_zero,List.set_cons_succ]
   ·intro l a wr hI hl hd K' hK
    obtain ⟨u24,u25,u26,u27,u28,u29,u30,u31,u32,u33,u34,u10,ha,s0,s1,s2,s3,s4,s5,s6,s7,s8,s9,M10,M11,hO⟩ := hI
    simp only [Act.put,List.setIfInBounds_toArray,List.set_cons_zero,List.set_cons_succ] at ha
    subst ha
    go_simp
    refine hK.out _ _ ⟨_,_,_,_,_,_,_,_,_,_,_,_,?_,s0.keep rfl,s1.keep rfl,s2.keep rfl,s3.keep rfl,s4.keep rfl,s5.keep rfl,Slot.new _ _ _,s7.keep rfl,s8.keep rfl,s9.keep rfl,M10.keep (Off.refl _ wr) rfl,M11.keep (Off.refl _ wr) rfl,hO⟩
    simp only [Act.put,List.setIfInBounds_toArray,List.set_cons_zero,List.set_cons_succ]
   ·intro l a wr hI hl hd K' hK
    obtain ⟨u24,u25,u26,u27,u28,u29,u30,u31,u32,u33,u34,u10,ha,s0,s1,s2,s3,s4,s5,s6,s7,s8,s9,M10,M11,hO⟩ := hI
    simp only [Act.put,List.setIfInBounds_toArray,List.set_cons_zero,List.set_cons_succ] at ha
    have q5 := s5 (hd 5 (by decide))
    have q6 := s6 (hd 6 (by decide))
    subst ha q5 q6
    go_simp
    refine hK.out _ _ ⟨_,_,_,_,_,_,_,_,_,_,_,_,?_,s0.keep rfl,s1.keep rfl,s2.keep rfl,s3.keep rfl,s4.keep rfl,s5.keep rfl,s6.keep rfl,Slot.new _ _ _,s8.keep rfl,s9.keep rfl,M10.keep (Off.refl _ wr) rfl,M11.keep (Off.refl _ wr) rfl,hO⟩
    simp only [Act.put,List.setIfInBounds_toArray,List.set_cons_zero,List.set_cons_succ]
   ·intro l a wr hI hl hd K' hK
    obtain ⟨u24,u25,u26,u27,u28,u29,u30,u31,u32,u33,u34,u10,ha,s0,s1,s2,s3,s4,s5,s6,s7,s8,s9,M10,M11,hO⟩ := hI
    simp only [Act.put,List.setIfInBounds_toArray,List.set_cons_zero,List.set_cons_succ] at ha
    have q7 := s7 (hd 7 (by decide))
    subst ha q7
    have hc := HK.out wr hO
    have p0 := hc.2.2.1.1
    have p1 := hc.2.2.1.2.1
    have p2 := hc.2.2.1.2.2.1
    have p3 := hc.2.2.1.2.2.2
    clear hc
    go_simp
    refine hK.out _ _ ⟨_,_,_,_,_,_,_,_,_,_,_,_,?_,s0.keep rfl,s1.keep rfl,s2.keep rfl,s3.keep rfl,s4.keep rfl,s5.keep rfl,s6.keep rfl,s7.keep rfl,Slot.new _ _ _,s9.keep rfl,M10.keep (Off.refl _ wr) rfl,M11.keep (Off.refl _ wr) rfl,hO⟩
    simp only [Act.put,List.setIfInBounds_toArray,List.set_cons_zero,List.set_cons_succ]
   ·intro l a wr hI hl hd K' hK
    obtain ⟨u24,u25,u26,u27,u28,u29,u30,u31,u32,u33,u34,u10,ha,s0,s1,s2,s3,s4,s5,s6,s7,s8,s9,M10,M11,hO⟩ := hI
    simp only [Act.put,List.setIfInBounds_toArray,List.set_cons_zero,List.set_cons_succ] at ha
    have q0 := s0 (hd 0 (by decide))
    have q4 := s4 (hd 4 (by decide))
    have q8 := s8 (hd 8 (by decide))
    subst ha q0 q4 q8
    go_simp
    refine (held_inv (HMu.out wr) hO).mono ?_
    rintro e w1 ⟨rfl,hO1,hOW⟩
    go_wp2_with fail
    refine hK.out _ _ ⟨_,_,_,_,_,_,_,_,_,_,_,_,?_,s0.keep rfl,s1.keep rfl,s2.keep rfl,s3.keep rfl,s4.keep rfl,s5.keep rfl,s6.keep rfl,s7.keep rfl,s8.keep rfl,Slot.new _ _ _,M10.keep hOW rfl,M11.keep hOW rfl,hO1⟩
    simp only [Act.put,List.setIfInBounds_toArray,List.set_cons_zero,List.set_cons_succ]
   ·intro l a wr hI hl hd K' hK
    obtain ⟨u24,u25,u26,u27,u28,u29,u30,u31,u32,u33,u34,u10,ha,s0,s1,s2,s3,s4,s5,s6,s7,s8,s9,M10,M11,hO⟩ := hI
    simp only [Act.put,List.setIfInBounds_toArray,List.set_cons_zero,List.set_cons_succ] at ha
    have q9 := s9 (hd 9 (by decide))
    subst ha q9
    go_simp
    refine hK.out _ _ ⟨_,_,_,_,_,_,_,_,_,_,_,_,?_,s0.keep rfl,s1.keep rfl,s2.keep rfl,s3.keep rfl,s4.keep rfl,s5.keep rfl,s6.keep rfl,s7.keep rfl,s8.keep rfl,s9.keep rfl,(fun _ => built_1 wr f),M11.keep ((Off.refl _ wr).alloc _) rfl,hO.alloc _⟩
    simp only [Act.put,List.setIfInBounds_toArray,List.set_cons_zero,List.set_cons_succ]
   ·intro l a wr hI hl hd K' hK
    obtain ⟨u24,u25,u26,u27,u28,u29,u30,u31,u32,u33,u34,u10,ha,s0,s1,s2,s3,s4,s5,s6,s7,s8,s9,M10,M11,hO⟩ := hI
    simp only [Act.put,List.setIfInBounds_toArray,List.set_cons_zero,List.set_cons_succ] at ha
    have m10 := M10 (hd 10 (by decide))
    subst ha
    go_simp
    refine hK.out _ _ ⟨_,_,_,_,_,_,_,_,_,_,_,_,?_,s0.keep rfl,s1.keep rfl,s2.keep rfl,s3.keep rfl,s4.keep rfl,s5.keep rfl,s6.keep rfl,s7.keep rfl,s8.keep rfl,s9.keep rfl,M10.keep (Off.refl _ wr) rfl,Lk.new (m10),hO⟩
    simp only [Act.put,List.setIfInBounds_toArray,List.set_cons_zero,List.set_cons_succ]
   ·intro l a wc hI hd
    obtain ⟨u24,u25,u26,u27,u28,u29,u30,u31,u32,u33,u34,u10,ha,s0,s1,s2,s3,s4,s5,s6,s7,s8,s9,M10,M11,hO⟩ := hI
    simp only [Act.put,List.setIfInBounds_toArray,List.set_cons_zero,List.set_cons_succ] at ha
    have q0 := s0 (hd 0 (by decide))
    have q1 := s1 (hd 1 (by decide))
    have q2 := s2 (hd 2 (by decide))
    have q3 := s3 (hd 3 (by decide))
    have q4 := s4 (hd 4 (by decide))
    have q5 := s5 (hd 5 (by decide))
    have q6 := s6 (hd 6 (by decide))
    have q7 := s7 (hd 7 (by decide))
    have q8 := s8 (hd 8 (by decide))
    have q9 := s9 (hd 9 (by decide))
    have m34 := M10 (hd 10 (by decide))
    have m10 := M11 (hd 11 (by decide))
    subst ha q0 q1 q2 q3 q4 q5 q6 q7 q8 q9
    clear hd s0 s1 s2 s3 s4 s5 s6 s7 s8 s9 M10 M11
    have h3 := H3.out.trans hO (fun _ _ c => c)
    have HZ := Lib.hid (H1.out.off hO)
    have HW := Lib.hid (H2.out.off hO)
    have HC := Lib.hid (show Ls wc u10 (tlF p ps [f] (oth 0 i)) from m10)
    have HO := Lib.hid h3
    have Hf := Lib.hid hfp
    clear m34 m10 h3 hO H1 H2 H3 HK
    go_wp2
    go_loopw [10,11] (fun zc jx wr => ∃ j : Nat,j <= n /\ jx = .int .i64 (j : Int) /\ Ls wr zc (tlF p ps [f] (oth j i)) /\ Ls wr zo (itpF p ps ys i) /\ Ls wr (.slice (some ⟨wb,wo,none⟩) n wc1) (wgtL p ps) /\ Off (fun _ => False) W0 wr) (fun _ jx _ => n - (intOf jx).toNat)
    case atStart => exact ⟨0,Nat.zero_le _,rfl,HC.out,HZ.out,HW.out,HO.out⟩
    case round =>
     obtain ⟨zc,rfl⟩ : ∃ zc,zc = u10 := ⟨_,rfl⟩
     obtain ⟨j,hj,rfl,hc,hz,hW,hO⟩ := hrel
     clear HC HZ HW HO
     obtain ⟨A0,rfl⟩ : ∃ A0,A0 = wr := ⟨_,rfl⟩
     have hcl : (tlF p ps [f] (oth j i)).length <= 100 := by rw [tlF_length p ps (show 0 < [f].length by simp)]; have := oth_le j i; simp; omega
     have hcp : ∀ u ∈ tlF p ps [f] (oth j i),u < p := tlF_lt (by omega) ps (by simpa using hfp) _
     by_cases hlt2 : j < n
     ·have hjn : (j : Int) < (n : Int) := by omega
      by_cases hjk : j = i
      ·have HC := Lib.hid (show Ls A0 zc (tlF p ps [f] (oth (j + 1) i)) by rw [oth_next,if_pos hjk]; exact hc)
       have HZ := Lib.hid hz
       have HW := Lib.hid hW
       have HO := Lib.hid hO
       clear hc hz hW hO hcl hcp
       subst hjk
       go_wp2
       go_roundw
       case rel => exact ⟨j + 1,by omega,by simp,HC.out,HZ.out,HW.out,HO.out⟩
       case measure => simp [intOf] <;> omega
      ·have hne1 : ((j : Int) != (i : Int)) = true := by simp; omega
       have hOw := HO0.out.trans hO (fun _ _ c => c)
       obtain ⟨b,off,m,hab,cj,hm,hpj⟩ := HAt.out A0 hOw j hlt2
       subst hab
       obtain ⟨s,hs⟩ : ∃ s,s = ng p m := ⟨_,rfl⟩
       have hsp : s < p := by rw [hs]; exact ng_lt (by omega) m
       obtain ⟨ml,hml⟩ : ∃ ml,ml = tlF p ps [f] (oth (j + 1) i) := ⟨_,rfl⟩
       have hml2 : ml = mulL p (tlF p ps [f] (oth j i)) [s,1] := by rw [hml,oth_next,if_neg hjk,tlF_snoc,hpj,hs]; rfl
       have HPt2 := Lib.hid (fun W => point_any m hm W)
       have HSb := Lib.hid (show ∀ W,Calls Tryd.prog 58 #[V p,.agg #[.int .u64 0,.int .u64 0,.int .u64 0,.int .u64 0],V m] W fun e w' => e = .returned (V s) /\ Off (fun _ => False) W w' from fun W => by rw [hs]; exact HSu.out m (by omega) W)
       have FM2 : Hid (∀ W u,Off (fun _ => False) A0 W -> Ls W u [s,1] -> Calls Tryd.prog 57 #[V p,zc,u] W fun e w' => ∃ z,e = .returned z /\ Ls w' z ml /\ Off (fun _ => False) W w') := Lib.hid (fun W u h hu => by
        rw [hml2]
        exact HMp.out _ _ hcp (by intro x hx; simp at hx; omega) (by omega) (by simp) zc u W (hc.off h) hu)
       have HK : Hid (∀ B,Off (fun _ => False) A0 B -> (B.cell? ⟨pb,0,none⟩ = some (.int .u64 (wd p 0 : Int)) /\ B.cell? ⟨pb,1,none⟩ = some (.int .u64 (wd p 1 : Int)) /\ B.cell? ⟨pb,2,none⟩ = some (.int .u64 (wd p 2 : Int)) /\ B.cell? ⟨pb,3,none⟩ = some (.int .u64 (wd p 3 : Int))) /\ B.cell? ⟨b,off + j,none⟩ = some (.int .i64 (m : Int)) /\ Off (fun _ => False) A0 B) := Lib.hid (fun B h => ⟨cells4 (h.heap (hO.heap HP0.out (fun c => c)) (fun c => c)),h.cell cj (fun c => c),h⟩)
       have HZ := Lib.hid hz
       have HW := Lib.hid hW
       have HO := Lib.hid hO
       have Hml := Lib.hid hml
       clear hc hz hW hO hOw cj hs hsp hml hml2 hpj hcl hcp hfp
       go_upto_region 11 with fail
       refine wp_region_inv (fun a0 l a' w' => ∃ (u44 : Value) (u45 : Value) (u46 : Value) (u47 : Value) (u48 : Value) (u49 : Value) (u50 : Value) (u51 : Value) (u52 : Value) (u53 : Value) (u54 : Value) (u55 : Value) (u56 : Value) (u10 : Value),a' = (Act.put (Act.put (Act.put (Act.put (Act.put (Act.put (Act.put (Act.put (Act.put (Act.put (Act.put (Act.put (Act.put (Act.put a0 (some 44) u44) (some 45) u45) (some 46) u46) (some 47) u47) (some 48) u48) (some 49) u49) (some 50) u50) (some 51) u51) (some 52) u52) (some 53) u53) (some 54) u54) (some 55) u55) (some 56) u56) (some 10) u10) /\ Slot l 0 u44 (V p) /\ Slot l 1 u45 (zc) /\ Slot l 2 u46 (V p) /\ Slot l 3 u47 (.agg #[.int .u64 0,.int .u64 0,.int .u64 0,.int .u64 0]) /\ Slot l 4 u48 (.slice (some ⟨b,off,none⟩) n cap2) /\ Slot l 5 u49 (.int .i64 (j : Int)) /\ Slot l 6 u50 (.pointer (some ⟨b,off + j,none⟩)) /\ Slot l 7 u51 (.int .i64 (m : Int)) /\ Slot l 8 u52 (V m) /\ Slot l 9 u53 (V s) /\ Slot l 10 u54 (.agg #[.int .u64 1,.int .u64 0,.int .u64 0,.int .u64 0]) /\ Lk l 11 u55 w' ([s,1]) /\ Lk l 12 u56 w' (ml) /\ Lk l 13 u10 w' (ml) /\ Dep l 1 12 /\ Dep l 1 13 /\ Was l 13 u10 (zc) /\ Off (fun _ => False) A0 w') (by kernel_rfl) (by kernel_rfl) ?_ ⟨?_,?_,?_,?_,?_,?_,?_,?_,?_,?_,?_,?_,?_,?_,trivial⟩ ?_
       ·refine ⟨?z44,?z45,?z46,?z47,?z48,?z49,?z50,?z51,?z52,?z53,?z54,?z55,?z56,zc,?fr,Slot.start _ _ _,Slot.start _ _ _,Slot.start _ _ _,Slot.start _ _ _,Slot.start _ _ _,Slot.start _ _ _,Slot.start _ _ _,Slot.start _ _ _,Slot.start _ _ _,Slot.start _ _ _,Slot.start _ _ _,Lk.start _ _ _ _,Lk.start _ _ _ _,Lk.start _ _ _ _,Dep.start _ _,Dep.start _ _,Was.start _ _,(Off.refl _ A0).drew⟩
        case fr => first | (simp only [Act.put,List.setIfInBounds_toArray,List.set_cons_zero,List.set_cons_succ]; rfl) | simp only [Act.put,List.setIfInBounds_toArray,List.set_cons_zero,List.set_cons_succ]
       ·intro l a wr hI hl hd K' hK
        obtain ⟨u44,u45,u46,u47,u48,u49,u50,u51,u52,u53,u54,u55,u56,u10,ha,s0,s1,s2,s3,s4,s5,s6,s7,s8,s9,s10,M11,M12,M13,V1_12,V1_13,W13,hO⟩ := hI
        simp only [Act.put,List.setIfInBounds_toArray,List.set_cons_zero,List.set_cons_succ] at ha
        subst ha
        have hc := HK.out wr hO
        have p0 := hc.1.1
        have p1 := hc.1.2.1
        have p2 := hc.1.2.2.1
        have p3 := hc.1.2.2.2
        clear hc
        go_simp
        refine hK.out _ _ ⟨_,_,_,_,_,_,_,_,_,_,_,_,_,_,?_,Slot.new _ _ _,s1.keep rfl,s2.keep rfl,s3.keep rfl,s4.keep rfl,s5.keep rfl,s6.keep rfl,s7.keep rfl,s8.keep rfl,s9.keep rfl,s10.keep rfl,M11.keep (Off.refl _ wr) rfl,M12.keep (Off.refl _ wr) rfl,M13.keep (Off.refl _ wr) rfl,V1_12.keep rfl,V1_13.keep rfl,W13.keep rfl,hO⟩
        simp only [Act.put,List.setIfInBounds_toArray,List.set_cons_zero,List.set_cons_succ]
       ·intro l a wr hI hl hd K' hK
        obtain ⟨u44,u45,u46,u47,u48,u49,u50,u51,u52,u53,u54,u55,u56,u10,ha,s0,s1,s2,s3,s4,s5,s6,s7,s8,s9,s10,M11,M12,M13,V1_12,V1_13,W13,hO⟩ := hI
        simp only [Act.put,List.setIfInBounds_toArray,List.set_cons_zero,List.set_cons_succ] at ha
        have qw := (W13 (V1_13 hl)).symm
        subst ha qw
        go_simp
        refine hK.out _ _ ⟨_,_,_,_,_,_,_,_,_,_,_,_,_,_,?_,s0.keep rfl,Slot.new _ _ _,s2.keep rfl,s3.keep rfl,s4.keep rfl,s5.keep rfl,s6.keep rfl,s7.keep rfl,s8.keep rfl,s9.keep rfl,s10.keep rfl,M11.keep (Off.refl _ wr) rfl,M12.keep (Off.refl _ wr) rfl,M13.keep (Off.refl _ wr) rfl,V1_12.keep rfl,V1_13.keep rfl,W13.keep rfl,hO⟩
        simp only [Act.put,List.setIfInBounds_toArray,List.set_cons_zero,List.set_cons_succ]
       ·intro l a wr hI hl hd K' hK
        obtain ⟨u44,u45,u46,u47,u48,u49,u50,u51,u52,u53,u54,u55,u56,u10,ha,s0,s1,s2,s3,s4,s5,s6,s7,s8,s9,s10,M11,M12,M13,V1_12,V1_13,W13,hO⟩ := hI
        simp only [Act.put,List.setIfInBounds_toArray,List.set_cons_zero,List.set_cons_succ] at ha
        subst ha
        have hc := HK.out wr hO
        have p0 := hc.1.1
        have p1 := hc.1.2.1
        have p2 := hc.1.2.2.1
        have p3 := hc.1.2.2.2
        clear hc
        go_simp
        refine hK.out _ _ ⟨_,_,_,_,_,_,_,_,_,_,_,_,_,_,?_,s0.keep rfl,s1.keep rfl,Slot.new _ _ _,s3.keep rfl,s4.keep rfl,s5.keep rfl,s6.keep rfl,s7.keep rfl,s8.keep rfl,s9.keep rfl,s10.keep rfl,M11.keep (Off.refl _ wr) rfl,M12.keep (Off.refl _ wr) rfl,M13.keep (Off.refl _ wr) rfl,V1_12.keep rfl,V1_13.keep rfl,W13.keep rfl,hO⟩
        simp only [Act.put,List.setIfInBounds_toArray,List.set_cons_zero,List.set_cons_succ]
       ·intro l a wr hI hl hd K' hK
        obtain ⟨u44,u45,u46,u47,u48,u49,u50,u51,u52,u53,u54,u55,u56,u10,ha,s0,s1,s2,s3,s4,s5,s6,s7,s8,s9,s10,M11,M12,M13,V1_12,V1_13,W13,hO⟩ := hI
        simp only [Act.put,List.setIfInBounds_toArray,List.set_cons_zero,List.set_cons_succ] at ha
        subst ha
        go_simp
        refine hK.out _ _ ⟨_,_,_,_,_,_,_,_,_,_,_,_,_,_,?_,s0.keep rfl,s1.keep rfl,s2.keep rfl,Slot.new _ _ _,s4.keep rfl,s5.keep rfl,s6.keep rfl,s7.keep rfl,s8.keep rfl,s9.keep rfl,s10.keep rfl,M11.keep (Off.refl _ wr) rfl,M12.keep (Off.refl _ wr) rfl,M13.keep (Off.refl _ wr) rfl,V1_12.keep rfl,V1_13.keep rfl,W13.keep rfl,hO⟩
        simp only [Act.put,List.setIfInBounds_toArray,List.set_cons_zero,List.set_cons_succ]
       ·intro l a wr hI hl hd K' hK
        obtain ⟨u44,u45,u46,u47,u48,u49,u50,u51,u52,u53,u54,u55,u56,u10,ha,s0,s1,s2,s3,s4,s5,s6,s7,s8,s9,s10,M11,M12,M13,V1_12,V1_13,W13,hO⟩ := hI
        simp only [Act.put,List.setIfInBounds_toArray,List.set_cons_zero,List.set_cons_succ] at ha
        subst ha
        go_simp
        refine hK.out _ _ ⟨_,_,_,_,_,_,_,_,_,_,_,_,_,_,?_,s0.keep rfl,s1.keep rfl,s2.keep rfl,s3.keep rfl,Slot.new _ _ _,s5.keep rfl,s6.keep rfl,s7.keep rfl,s8.keep rfl,s9.keep rfl,s10.keep rfl,M11.keep (Off.refl _ wr) rfl,M12.keep (Off.refl _ wr) rfl,M13.keep (Off.refl _ wr) rfl,V1_12.keep rfl,V1_13.keep rfl,W13.keep rfl,hO⟩
        simp only [Act.put,List.setIfInBounds_toArray,List.set_cons_zero,List.set_cons_succ]
       ·intro l a wr hI hl hd K' hK
        obtain ⟨u44,u45,u46,u47,u48,u49,u50,u51,u52,u53,u54,u55,u56,u10,ha,s0,s1,s2,s3,s4,s5,s6,s7,s8,s9,s10,M11,M12,M13,V1_12,V1_13,W13,hO⟩ := hI
        simp only [Act.put,List.setIfInBounds_toArray,List.set_cons_zero,List.set_cons_succ] at ha
        subst ha
        go_simp
        refine hK.out _ _ ⟨_,_,_,_,_,_,_,_,_,_,_,_,_,_,?_,s0.keep rfl,s1.keep rfl,s2.keep rfl,s3.keep rfl,s4.keep rfl,Slot.new _ _ _,s6.keep rfl,s7.keep rfl,s8.keep rfl,s9.keep rfl,s10.keep rfl,M11.keep (Off.refl _ wr) rfl,M12.keep (Off.refl _ wr) rfl,M13.keep (Off.refl _ wr) rfl,V1_12.keep rfl,V1_13.keep rfl,W13.keep rfl,hO⟩
        simp only [Act.put,List.setIfInBounds_toArray,List.set_cons_zero,List.set_cons_succ]
       ·intro l a wr hI hl hd K' hK
        obtain ⟨u44,u45,u46,u47,u48,u49,u50,u51,u52,u53,u54,u55,u56,u10,ha,s0,s1,s2,s3,s4,s5,s6,s7,s8,s9,s10,M11,M12,M13,V1_12,V1_13,W13,hO⟩ := hI
        simp only [Act.put,List.setIfInBounds_toArray,List.set_cons_zero,List.set_cons_succ] at ha
        have q4 := s4 (hd 4 (by decide))
        have q5 := s5 (hd 5 (by decide))
        subst ha q4 q5
        go_simp
        refine hK.out _ _ ⟨_,_,_,_,_,_,_,_,_,_,_,_,_,_,?_,s0.keep rfl,s1.keep rfl,s2.keep rfl,s3.keep rfl,s4.keep rfl,s5.keep rfl,Slot.new _ _ _,s7.keep rfl,s8.keep rfl,s9.keep rfl,s10.keep rfl,M11.keep (Off.refl _ wr) rfl,M12.keep (Off.refl _ wr) rfl,M13.keep (Off.refl _ wr) rfl,V1_12.keep rfl,V1_13.keep rfl,W13.keep rfl,hO⟩
        simp only [Act.put,List.setIfInBounds_toArray,List.set_cons_zero,List.set_cons_succ]
       ·intro l a wr hI hl hd K' hK
        obtain ⟨u44,u45,u46,u47,u48,u49,u50,u51,u52,u53,u54,u55,u56,u10,ha,s0,s1,s2,s3,s4,s5,s6,s7,s8,s9,s10,M11,M12,M13,V1_12,V1_13,W13,hO⟩ := hI
        simp only [Act.put,List.setIfInBounds_toArray,List.set_cons_zero,List.set_cons_succ] at ha
        have q6 := s6 (hd 6 (by decide))
        subst ha q6
        have hc := HK.out wr hO
        have p0 := hc.2.1
        clear hc
        go_simp
        refine hK.out _ _ ⟨_,_,_,_,_,_,_,_,_,_,_,_,_,_,?_,s0.keep rfl,s1.keep rfl,s2.keep rfl,s3.keep rfl,s4.keep rfl,s5.keep rfl,s6.keep rfl,Slot.new _ _ _,s8.keep rfl,s9.keep rfl,s10.keep rfl,M11.keep (Off.refl _ wr) rfl,M12.keep (Off.refl _ wr) rfl,M13.keep (Off.refl _ wr) rfl,V1_12.keep rfl,V1_13.keep rfl,W13.keep rfl,hO⟩
        simp only [Act.put,List.setIfInBounds_toArray,List.set_cons_zero,List.set_cons_succ]
       ·intro l a wr hI hl hd K' hK
        obtain ⟨u44,u45,u46,u47,u48,u49,u50,u51,u52,u53,u54,u55,u56,u10,ha,s0,s1,s2,s3,s4,s5,s6,s7,s8,s9,s10,M11,M12,M13,V1_12,V1_13,W13,hO⟩ := hI
        simp only [Act.put,List.setIfInBounds_toArray,List.set_cons_zero,List.set_cons_succ] at ha
        have q7 := s7 (hd 7 (by decide))
        subst ha q7
        go_simp
        refine (held_inv (HPt2.out wr) hO).mono ?_
        rintro e w1 ⟨rfl,hO1,hOW⟩
        go_wp2_with fail
        refine hK.out _ _ ⟨_,_,_,_,_,_,_,_,_,_,_,_,_,_,?_,s0.keep rfl,s1.keep rfl,s2.keep rfl,s3.keep rfl,s4.keep rfl,s5.keep rfl,s6.keep rfl,s7.keep rfl,Slot.new _ _ _,s9.keep rfl,s10.keep rfl,M11.keep hOW rfl,M12.keep hOW rfl,M13.keep hOW rfl,V1_12.keep rfl,V1_13.keep rfl,W13.keep rfl,hO1⟩
        simp only [Act.put,List.setIfInBounds_toArray,List.set_cons_zero,List.set_cons_succ]
       ·intro l a wr hI hl hd K' hK
        obtain ⟨u44,u45,u46,u47,u48,u49,u50,u51,u52,u53,u54,u55,u56,u10,ha,s0,s1,s2,s3,s4,s5,s6,s7,s8,s9,s10,M11,M12,M13,V1_12,V1_13,W13,hO⟩ := hI
        simp only [Act.put,List.setIfInBounds_toArray,List.set_cons_zero,List.set_cons_succ] at ha
        have q2 := s2 (hd 2 (by decide))
        have q3 := s3 (hd 3 (by decide))
        have q8 := s8 (hd 8 (by decide))
        subst ha q2 q3 q8
        go_simp
        refine (held_inv (HSb.out wr) hO).mono ?_
        rintro e w1 ⟨rfl,hO1,hOW⟩
        go_wp2_with fail
        refine hK.out _ _ ⟨_,_,_,_,_,_,_,_,_,_,_,_,_,_,?_,s0.keep rfl,s1.keep rfl,s2.keep rfl,s3.keep rfl,s4.keep rfl,s5.keep rfl,s6.keep rfl,s7.keep rfl,s8.keep rfl,Slot.new _ _ _,s10.keep rfl,M11.keep hOW rfl,M12.keep hOW rfl,M13.keep hOW rfl,V1_12.keep rfl,V1_13.keep rfl,W13.keep rfl,hO1⟩
        simp only [Act.put,List.setIfInBounds_toArray,List.set_cons_zero,List.set_cons_succ]
       ·intro l a wr hI hl hd K' hK
        obtain ⟨u44,u45,u46,u47,u48,u49,u50,u51,u52,u53,u54,u55,u56,u10,ha,s0,s1,s2,s3,s4,s5,s6,s7,s8,s9,s10,M11,M12,M13,V1_12,V1_13,W13,hO⟩ := hI
        simp only [Act.put,List.setIfInBounds_toArray,List.set_cons_zero,List.set_cons_succ] at ha
        subst ha
        go_simp
        refine hK.out _ _ ⟨_,_,_,_,_,_,_,_,_,_,_,_,_,_,?_,s0.keep rfl,s1.keep rfl,s2.keep rfl,s3.keep rfl,s4.keep rfl,s5.keep rfl,s6.keep rfl,s7.keep rfl,s8.keep rfl,s9.keep rfl,Slot.new _ _ _,M11.keep (Off.refl _ wr) rfl,M12.keep (Off.refl _ wr) rfl,M13.keep (Off.refl _ wr) rfl,V1_12.keep rfl,V1_13.keep rfl,W13.keep rfl,hO⟩
        simp only [Act.put,List.setIfInBounds_toArray,List.set_cons_zero,List.set_cons_succ]
       ·intro l a wr hI hl hd K' hK
        obtain ⟨u44,u45,u46,u47,u48,u49,u50,u51,u52,u53,u54,u55,u56,u10,ha,s0,s1,s2,s3,s4,s5,s6,s7,s8,s9,s10,M11,M12,M13,V1_12,V1_13,W13,hO⟩ := hI
        simp only [Act.put,List.setIfInBounds_toArray,List.set_cons_zero,List.set_cons_succ] at ha
        have q9 := s9 (hd 9 (by decide))
        have q10 := s10 (hd 10 (by decide))
        subst ha q9 q10
        go_simp
        refine hK.out _ _ ⟨_,_,_,_,_,_,_,_,_,_,_,_,_,_,?_,s0.keep rfl,s1.keep rfl,s2.keep rfl,s3.keep rfl,s4.keep rfl,s5.keep rfl,s6.keep rfl,s7.keep rfl,s8.keep rfl,s9.keep rfl,s10.keep rfl,(fun _ => built_x1 wr s),M12.keep ((Off.refl _ wr).alloc _) rfl,M13.keep ((Off.refl _ wr).alloc _) rfl,V1_12.keep rfl,V1_13.keep rfl,W13.keep rfl,hO.alloc _⟩
        simp only [Act.put,List.setIfInBounds_toArray,List.set_cons_zero,List.set_cons_succ]
       ·intro l a wr hI hl hd K' hK
        obtain ⟨u44,u45,u46,u47,u48,u49,u50,u51,u52,u53,u54,u55,u56,u10,ha,s0,s1,s2,s3,s4,s5,s6,s7,s8,s9,s10,M11,M12,M13,V1_12,V1_13,W13,hO⟩ := hI
        simp only [Act.put,List.setIfInBounds_toArray,List.set_cons_zero,List.set_cons_succ] at ha
        have q0 := s0 (hd 0 (by decide))
        have q1 := (s1 (hd 1 (by decide))).symm
        have m11 := M11 (hd 11 (by decide))
        subst ha q0 q1
        go_simp
        refine (FM2.out wr u55 hO m11).mono ?_
        rintro e w1 ⟨uv,rfl,hm,hOW⟩
        have hO1 := hO.trans hOW (fun _ _ c => c.elim)
        go_wp2_with fail
        refine hK.out _ _ ⟨_,_,_,_,_,_,_,_,_,_,_,_,_,_,?_,s0.keep rfl,s1.keep rfl,s2.keep rfl,s3.keep rfl,s4.keep rfl,s5.keep rfl,s6.keep rfl,s7.keep rfl,s8.keep rfl,s9.keep rfl,s10.keep rfl,M11.keep hOW rfl,Lk.new hm,M13.keep hOW rfl,Dep.at (hd 1 (by decide)),V1_13.keep rfl,W13.keep rfl,hO1⟩
        simp only [Act.put,List.setIfInBounds_toArray,List.set_cons_zero,List.set_cons_succ]
       ·intro l a wr hI hl hd K' hK
        obtain ⟨u44,u45,u46,u47,u48,u49,u50,u51,u52,u53,u54,u55,u56,u10,ha,s0,s1,s2,s3,s4,s5,s6,s7,s8,s9,s10,M11,M12,M13,V1_12,V1_13,W13,hO⟩ := hI
        simp only [Act.put,List.setIfInBounds_toArray,List.set_cons_zero,List.set_cons_succ] at ha
        have m12 := M12 (hd 12 (by decide))
        subst ha
        go_simp
        refine hK.out _ _ ⟨_,_,_,_,_,_,_,_,_,_,_,_,_,_,?_,s0.keep rfl,s1.keep rfl,s2.keep rfl,s3.keep rfl,s4.keep rfl,s5.keep rfl,s6.keep rfl,s7.keep rfl,s8.keep rfl,s9.keep rfl,s10.keep rfl,M11.keep (Off.refl _ wr) rfl,M12.keep (Off.refl _ wr) rfl,Lk.new (m12),V1_12.keep rfl,Dep.at (V1_12.via (hd 12 (by decide))),Was.gone _ _ _ _,hO⟩
        simp only [Act.put,List.setIfInBounds_toArray,List.set_cons_zero,List.set_cons_succ]
       ·intro l a wc hI hd
        obtain ⟨u44,u45,u46,u47,u48,u49,u50,u51,u52,u53,u54,u55,u56,u10,ha,s0,s1,s2,s3,s4,s5,s6,s7,s8,s9,s10,M11,M12,M13,V1_12,V1_13,W13,hO⟩ := hI
        simp only [Act.put,List.setIfInBounds_toArray,List.set_cons_zero,List.set_cons_succ] at ha
        have q0 := s0 (hd 0 (by decide))
        have q1 := (s1 (hd 1 (by decide))).symm
        have q2 := s2 (hd 2 (by decide))
        have q3 := s3 (hd 3 (by decide))
        have q4 := s4 (hd 4 (by decide))
        have q5 := s5 (hd 5 (by decide))
        have q6 := s6 (hd 6 (by decide))
        have q7 := s7 (hd 7 (by decide))
        have q8 := s8 (hd 8 (by decide))
        have q9 := s9 (hd 9 (by decide))
        have q10 := s10 (hd 10 (by decide))
        have m55 := M11 (hd 11 (by decide))
        have m56 := M12 (hd 12 (by decide))
        have m10 := M13 (hd 13 (by decide))
        subst ha q0 q1 q2 q3 q4 q5 q6 q7 q8 q9 q10
        clear hd s0 s1 s2 s3 s4 s5 s6 s7 s8 s9 s10 M11 M12 M13 V1_12 V1_13 W13
        rw [Hml.out] at m10
        have H1 := Lib.hid m10
        have H2 := Lib.hid (HZ.out.off hO)
        have H3 := Lib.hid (HW.out.off hO)
        have H4 := Lib.hid (HO.out.trans hO (fun _ _ c => c))
        clear m10 hO
        go_wp2
        go_roundw
        case rel => exact ⟨j + 1,by omega,by simp,H1.out,H2.out,H3.out,H4.out⟩
        case measure => simp [intOf] <;> omega
     ·obtain rfl : n = j := by omega
      have hip : ∀ u ∈ itpF p ps ys i,u < p := itpF_lt (by omega) ps ys i
      have hil : (itpF p ps ys i).length = n := by rw [itpF_length p ps ys i (by have := HPn.out; omega),HPn.out]
      have hnx : sumL p (itpF p ps ys i) (tlF p ps [f] (oth n i)) = itpF p ps ys (i + 1) := by
       have h := tlF_one p ps hfp i
       rw [HPn.out] at h
       rw [h,itpF_next,Hff.out]
      have HA2 := Lib.hid (show ∀ W,Off (fun _ => False) A0 W -> Calls Tryd.prog 59 #[V p,zo,zc] W fun e w' => ∃ z,e = .returned z /\ Ls w' z (itpF p ps ys (i + 1)) /\ Off (fun _ => False) W w' from fun W h => by
       rw [<- hnx]; exact HAd.out _ _ hip hcp (by omega) (by omega) zo zc W (hz.off h) (hc.off h))
      obtain ⟨p0,p1,p2,p3⟩ := cells4 (hO.heap HP0.out (fun c => c))
      have HW := Lib.hid hW
      have HO := Lib.hid hO
      clear hc hz hW hO hcl hcp hip hil hnx
      go_wp2_with fail
      refine (HA2.out A0 (Off.refl _ _)).mono ?_
      rintro e w3 ⟨z3,rfl,hz3,hO3⟩
      have H1 := Lib.hid hz3
      have H3 := Lib.hid (HW.out.off hO3)
      have H4 := Lib.hid (HO.out.trans hO3 (fun _ _ c => c))
      clear hz3 hO3 p0 p1 p2 p3
      go_wp2_with fail
      go_roundw
      case rel => exact ⟨i + 1,by omega,by simp,H1.out,H3.out,H4.out⟩
      case measure => simp [intOf] <;> omega
  ·obtain rfl : n = i := by omega
   have H1 := Lib.hid (show Ls wr zo ZZ by rw [HZZ.out,itpL,HPn.out]; exact hz)
   have H2 := Lib.hid (HO0.out.trans hO (fun _ _ c => c))
   clear hz hO hW
   go_wp2
   refine bodyPost_ret (results_tmp rfl _ _ _) rfl ?_
   exact ⟨_,rfl,H1.out,H2.out⟩
end
section
open Go.RowKit
end
end Go.Proofs.YtggebccgiigboaaDoor
-- squeezed
