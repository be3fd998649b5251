/-
  The reference's Mul of layer 8. Conditions: the modulus is a number above 1 of four words, the numbers lie below it, the lists are short.
-/
import Derived.Test.YtggebccgiigboaaDoorPolRefer
namespace Go.Proofs.YtggebccgiigboaaDoor
open Go.RowKit
attribute [local go_sem ↓] Go.wp_at_zero Go.wp_at_succ
set_option maxHeartbeats 400000 in
theorem refmul_nil (p n cap m cap2 : Nat) (a a2 : Option Addr) (h : n = 0 ∨ m = 0) (w : World) :
  Calls Tryd.prog 57 #[V p,.slice a n cap,.slice a2 m cap2] w fun e w' => e = .returned (.slice none 0 0) /\ Off (fun _ => False) w w' := by
 by_cases h0 : n = 0
 ·subst h0
  go_enter Tryd.func57,Tryd.ntmps57
  go_wp2
  go_ret
  exact ⟨rfl,(Off.refl _ w).alloc _⟩
 ·obtain rfl : m = 0 := by omega
  have hne : ((n : Int) == 0) = false := by simp; omega
  go_enter Tryd.func57,Tryd.ntmps57
  go_wp2
  go_ret
  exact ⟨rfl,(Off.refl _ w).alloc _⟩
set_option maxRecDepth 100000 in
set_option maxHeartbeats 4000000 in
theorem refmul_some {p : Nat} (hp : p < R256) (h1 : 1 < p) (vs us : List Nat) (hvs : ∀ v ∈ vs,v < p) (hus : ∀ v ∈ us,v < p) (n cap m cap2 : Nat) (a a2 : Option Addr) (hn : n = vs.length) (hm : m = us.length) (h0 : 0 < n) (h02 : 0 < m) (hl1 : n <= 10000) (hl2 : m <= 10000) (w : World) (hL : LsAt w (.slice a n cap) vs (fun k => k < w.heap.size /\ ¬ False)) (hM : LsAt w (.slice a2 m cap2) us (fun k => k < w.heap.size /\ ¬ False)) :
  Calls Tryd.prog 57 #[V p,.slice a n cap,.slice a2 m cap2] w fun e w' => ∃ z,e = .returned z /\ Ls w' z (mulL p vs us) /\ Off (fun _ => False) w w' := by
 obtain ⟨N,hN⟩ : ∃ N,N = n + m - 1 := ⟨_,rfl⟩
 obtain ⟨n1,hn1⟩ : ∃ n1,n1 = n + m := ⟨_,rfl⟩
 have hw1 : IntKind.i64.wrap ((n : Int) + (m : Int)) = (n1 : Int) := by rw [IntKind.wrap_i64]; omega
 have hw2 : IntKind.i64.wrap ((n1 : Int) - 1) = (N : Int) := by rw [IntKind.wrap_i64]; omega
 have hne1 : ((n : Int) == 0) = false := by simp; omega
 have hne2 : ((m : Int) == 0) = false := by simp; omega
 have hmk := run_make_vec N (by omega)
 have hNl : N <= 20000 := by omega
 have HNm := Lib.hid hN
 have HA := Lib.hid (fun a b ha hb W => mod_add p a b hp ha hb W : ∀ a b,a < p -> b < p -> ∀ W,_)
 have HMl := Lib.hid (fun a b ha hb W => mod_mul p a b hp h1 ha (Nat.lt_trans hb hp) W : ∀ a b,a < p -> b < p -> ∀ W,_)
 have HN := Lib.hid hn
 have HN2 := Lib.hid hm
 have HL := Lib.hid hL
 have HM := Lib.hid hM
 have HI := Lib.hid (show ∀ W,W = (w.alloc (.cells #[.int .u64 (wd p 0 : Int),.int .u64 (wd p 1 : Int),.int .u64 (wd p 2 : Int),.int .u64 (wd p 3 : Int)] 28)).alloc (.cells (flat4 (List.replicate N 0)).toArray 28) -> W.heap[w.heap.size]? = some (.cells #[.int .u64 (wd p 0 : Int),.int .u64 (wd p 1 : Int),.int .u64 (wd p 2 : Int),.int .u64 (wd p 3 : Int)] 28 (0,0)) /\ NumsAt W (w.heap.size + 1) 28 (mulAll p vs us (List.range 0)) /\ Off (fun _ => False) w W from by
  rintro W rfl
  refine ⟨heap_old' (heap_new' rfl _) _,?_,((Off.refl _ w).alloc _).alloc _⟩
  rw [show mulAll p vs us (List.range 0) = List.replicate (vs.length + us.length - 1) 0 from rfl,<- hn,<- hm,<- hN]
  exact heap_new' (by simp) _)
 clear hn hm hN hL hM hn1
 go_enter Tryd.func57,Tryd.ntmps57
 go_wp2_with fail
 clear hmk hw1 hw2 hne1 hne2
 obtain ⟨arr,harr⟩ : ∃ arr,arr = w.heap.size + 1 := ⟨_,rfl⟩
 obtain ⟨bp,hbp⟩ : ∃ bp,bp = w.heap.size := ⟨_,rfl⟩
 rw [<- harr] at HI ⊢
 rw [<- hbp] at HI ⊢
 have HB := Lib.hid (show bp = w.heap.size /\ arr = w.heap.size + 1 from ⟨hbp,harr⟩)
 clear harr hbp
 go_loopw [8] (fun x wr => ∃ i : Nat,i <= n /\ x = .int .i64 (i : Int) /\ wr.heap[bp]? = some (.cells #[.int .u64 (wd p 0 : Int),.int .u64 (wd p 1 : Int),.int .u64 (wd p 2 : Int),.int .u64 (wd p 3 : Int)] 28 (0,0)) /\ NumsAt wr arr 28 (mulAll p vs us (List.range i)) /\ Off (fun _ => False) w wr) (fun x _ => n - (intOf x).toNat)
 case atStart => exact ⟨0,Nat.zero_le _,rfl,HI.out _ rfl⟩
 case round =>
  obtain ⟨i,hi,rfl,hP,hA,hO⟩ := hrel
  by_cases hlt : i < n
  ·obtain ⟨v,b,off,hvk,rfl,c0,c1,c2,c3⟩ := HL.out.at hlt
   have hfv : vs.getD i 0 = v := by rw [List.getD_eq_getElem?_getD,hvk]; rfl
   have hvp : v < p := hvs v (List.mem_of_getElem? hvk)
   have hbw := World.block_lt_of_cell? w _ c0
   have HC := Lib.hid (show elAt w b (off + i * 4) v from ⟨c0,c1,c2,c3⟩)
   have HBw := Lib.hid (show b < w.heap.size from hbw)
   obtain ⟨L,hL⟩ : ∃ L,L = mulAll p vs us (List.range i) := ⟨_,rfl⟩
   have hLn : L.length = N := by rw [hL,mulAll_length,<- HN.out,<- HN2.out,HNm.out]
   have HSn := Lib.hid (show mulAll p vs us (List.range (i + 1)) = mulRow p v us i L (List.range m) by rw [List.range_succ,mulAll_snoc,<- HN.out,<- HN2.out,Nat.mod_eq_of_lt hlt,hfv,hL])
   have HLl := Lib.hid (show ∀ x ∈ L,x < p by rw [hL]; exact mulAll_lt (by omega) _ _ _)
   rw [<- hL] at hA
   have hin : (i : Int) < (n : Int) := by omega
   have hwi : IntKind.i64.wrap ((i : Int) + 1) = (i : Int) + 1 := by rw [IntKind.wrap_i64]; omega
   have HP := Lib.hid hP
   have HAr := Lib.hid hA
   have HO := Lib.hid hO
   clear hP hA hO hvk hfv hL c0 c1 c2 c3 hbw
   go_wp2
   go_loopw [9] (fun x wr => ∃ k : Nat,k <= m /\ x = .int .i64 (k : Int) /\ wr.heap[bp]? = some (.cells #[.int .u64 (wd p 0 : Int),.int .u64 (wd p 1 : Int),.int .u64 (wd p 2 : Int),.int .u64 (wd p 3 : Int)] 28 (0,0)) /\ NumsAt wr arr 28 (mulRow p v us i L (List.range k)) /\ Off (fun _ => False) w wr) (fun x _ => m - (intOf x).toNat)
   case atStart => exact ⟨0,Nat.zero_le _,rfl,HP.out,HAr.out,HO.out⟩
   case round =>
    obtain ⟨k,hk,rfl,hP,hA,hO⟩ := hrel
    by_cases hlt2 : k < m
    ·obtain ⟨c,b2,off2,hck,rfl,d0,d1,d2,d3⟩ := HM.out.at hlt2
     have hfc : us.getD k 0 = c := by rw [List.getD_eq_getElem?_getD,hck]; rfl
     have hcp : c < p := hus c (List.mem_of_getElem? hck)
     have hb2w : b2 < w.heap.size := World.block_lt_of_cell? w _ d0
     obtain ⟨L2,hL2⟩ : ∃ L2,L2 = mulRow p v us i L (List.range k) := ⟨_,rfl⟩
     have hL2n : L2.length = N := by rw [hL2,mulRow_length,hLn]
     obtain ⟨g,hg⟩ : ∃ g,g = i + k := ⟨_,rfl⟩
     have hgN : g < N := by have := HNm.out; omega
     obtain ⟨o,ho⟩ : ∃ o,o = L2.getD g 0 := ⟨_,rfl⟩
     have hLlt : ∀ x ∈ L2,x < p := by rw [hL2]; exact mulRow_lt (by omega) _ _ _ _ HLl.out _
     have hop : o < p := by rw [ho]; exact getD_lt (by omega) hLlt g
     obtain ⟨t,ht⟩ : ∃ t,t = v * c % p := ⟨_,rfl⟩
     have htp : t < p := by rw [ht]; exact Nat.mod_lt _ (by omega)
     obtain ⟨z,hz⟩ : ∃ z,z = (o + t) % p := ⟨_,rfl⟩
     have hst : mulRow p v us i L (List.range (k + 1)) = L2.set g z := by rw [List.range_succ,mulRow_snoc,<- HN2.out,Nat.mod_eq_of_lt hlt2,<- hL2,<- hg,<- ho,hfc,<- ht,<- hz]
     have hoj : L2[g]? = some o := by rw [ho,List.getD_eq_getElem?_getD,List.getElem?_eq_getElem (by omega)]; rfl
     obtain ⟨L1,hL1⟩ : ∃ L1,L1 = L2 := ⟨_,rfl⟩
     rw [<- hL2,<- hL1] at hA
     rw [<- hL1] at hst hoj hL2n
     have HMu := Lib.hid (show ∀ W,Calls Tryd.prog 43 #[V p,V v,V c] W fun e w' => e = .returned (V t) /\ Off (fun _ => False) W w' from fun W => by rw [ht]; exact HMl.out v c hvp hcp W)
     have HAd := Lib.hid (show ∀ W,Calls Tryd.prog 28 #[V p,V o,V t] W fun e w' => e = .returned (V z) /\ Off (fun _ => False) W w' from fun W => by rw [hz]; exact HA.out o t hop htp W)
     have HOj := Lib.hid hoj
     have HPt := Lib.hid (show ∀ W : World,W.heap[arr]? = some (.cells (flat4 L1).toArray 28 (0,0)) -> (W.setCells arr (g * 4) (words4 z)).heap[arr]? = some (.cells (flat4 (L1.set g z)).toArray 28 (0,0)) from fun W h => NumsAt.store h (by omega) z)
     have HAr := Lib.hid (show wr.heap[arr]? = some (.cells (flat4 L1).toArray 28 (0,0)) from hA)
     have HST := Lib.hid hst
     have HK : Hid (∀ W',Off (fun k => k = arr) wr W' -> (W'.cell? ⟨bp,0,none⟩ = some (.int .u64 (wd p 0 : Int)) /\ W'.cell? ⟨bp,1,none⟩ = some (.int .u64 (wd p 1 : Int)) /\ W'.cell? ⟨bp,2,none⟩ = some (.int .u64 (wd p 2 : Int)) /\ W'.cell? ⟨bp,3,none⟩ = some (.int .u64 (wd p 3 : Int))) /\ (W'.cell? ⟨b,off + i * 4,none⟩ = some (.int .u64 (wd v 0 : Int)) /\ W'.cell? ⟨b,off + i * 4 + 1,none⟩ = some (.int .u64 (wd v 1 : Int)) /\ W'.cell? ⟨b,off + i * 4 + 2,none⟩ = some (.int .u64 (wd v 2 : Int)) /\ W'.cell? ⟨b,off + i * 4 + 3,none⟩ = some (.int .u64 (wd v 3 : Int))) /\ (W'.cell? ⟨b2,off2 + k * 4,none⟩ = some (.int .u64 (wd c 0 : Int)) /\ W'.cell? ⟨b2,off2 + k * 4 + 1,none⟩ = some (.int .u64 (wd c 1 : Int)) /\ W'.cell? ⟨b2,off2 + k * 4 + 2,none⟩ = some (.int .u64 (wd c 2 : Int)) /\ W'.cell? ⟨b2,off2 + k * 4 + 3,none⟩ = some (.int .u64 (wd c 3 : Int))) /\ Off (fun k => k = arr) wr W') := Lib.hid (fun W' h => by
      have hb := HB.out
      have hbw := HBw.out
      obtain ⟨e0,e1,e2,e3⟩ := HC.out.off hO (fun c => c)
      exact ⟨cells4 (h.heap hP (by omega)),⟨h.cell e0 (by show ¬ b = arr; omega),h.cell e1 (by show ¬ b = arr; omega),h.cell e2 (by show ¬ b = arr; omega),h.cell e3 (by show ¬ b = arr; omega)⟩,⟨h.cell (hO.cell d0 (fun c => c)) (by show ¬ b2 = arr; omega),h.cell (hO.cell d1 (fun c => c)) (by show ¬ b2 = arr; omega),h.cell (hO.cell d2 (fun c => c)) (by show ¬ b2 = arr; omega),h.cell (hO.cell d3 (fun c => c)) (by show ¬ b2 = arr; omega)⟩,h⟩)
     have HP := Lib.hid hP
     have HO := Lib.hid hO
     have hkn : (k : Int) < (m : Int) := by omega
     have hgI : (g : Int) < (N : Int) := by omega
     have hwg : IntKind.i64.wrap ((i : Int) + (k : Int)) = (g : Int) := by rw [IntKind.wrap_i64]; omega
     have hwk : IntKind.i64.wrap ((k : Int) + 1) = (k : Int) + 1 := by rw [IntKind.wrap_i64]; omega
     clear hP hA hO hck hfc hcp ho hop hz ht htp hL1 hst hoj d0 d1 d2 d3 hL2 hg hLlt hb2w
     go_upto_region 10 with fail
     refine wp_region_inv (fun a0 l a' w' => ∃ (u37 : Value) (u38 : Value) (u39 : Value) (u40 : Value) (u41 : Value) (u42 : Value) (u43 : Value) (u44 : Value) (u45 : Value) (u46 : Value) (u47 : Value) (u48 : Value) (u49 : Value) (u50 : Value) (u51 : Value) (u52 : Value) (u53 : Value) (u54 : Value) (u55 : Value) (u56 : Value) (u57 : Value) (u58 : Value) (u59 : Value),a' = (Act.put (Act.put (Act.put (Act.put (Act.put (Act.put (Act.put (Act.put (Act.put (Act.put (Act.put (Act.put (Act.put (Act.put (Act.put (Act.put (Act.put (Act.put (Act.put (Act.put (Act.put (Act.put (Act.put a0 (some 37) u37) (some 38) u38) (some 39) u39) (some 40) u40) (some 41) u41) (some 42) u42) (some 43) u43) (some 44) u44) (some 45) u45) (some 46) u46) (some 47) u47) (some 48) u48) (some 49) u49) (some 50) u50) (some 51) u51) (some 52) u52) (some 53) u53) (some 54) u54) (some 55) u55) (some 56) u56) (some 57) u57) (some 58) u58) (some 59) u59) /\ Slot l 0 u37 (.slice (some ⟨arr,0,none⟩) N N) /\ Slot l 1 u38 (.int .i64 (i : Int)) /\ Slot l 2 u39 (.int .i64 (k : Int)) /\ Slot l 3 u40 (.int .i64 (g : Int)) /\ Slot l 4 u41 (V p) /\ Slot l 5 u42 (.slice (some ⟨arr,0,none⟩) N N) /\ Slot l 6 u43 (.int .i64 (i : Int)) /\ Slot l 7 u44 (.int .i64 (k : Int)) /\ Slot l 8 u45 (.int .i64 (g : Int)) /\ Slot l 9 u46 (.pointer (some ⟨arr,g * 4,none⟩)) /\ Slot l 10 u47 (V o) /\ Slot l 11 u48 (V p) /\ Slot l 12 u49 (.slice (some ⟨b,off,none⟩) n cap) /\ Slot l 13 u50 (.int .i64 (i : Int)) /\ Slot l 14 u51 (.pointer (some ⟨b,off + i * 4,none⟩)) /\ Slot l 15 u52 (V v) /\ Slot l 16 u53 (.slice (some ⟨b2,off2,none⟩) m cap2) /\ Slot l 17 u54 (.int .i64 (k : Int)) /\ Slot l 18 u55 (.pointer (some ⟨b2,off2 + k * 4,none⟩)) /\ Slot l 19 u56 (V c) /\ Slot l 20 u57 (V t) /\ Slot l 21 u58 (V z) /\ Slot l 22 u59 (.pointer (some ⟨arr,g * 4,none⟩)) /\ Old l 23 arr wr w' (.cells (flat4 L1).toArray 28) (.cells (flat4 (L1.set g z)).toArray 28) /\ Dep l 10 23 /\ Off (fun k => k = arr) wr w') (by kernel_rfl) (by kernel_rfl) ?_ ⟨?_,?_,?_,?_,?_,?_,?_,?_,?_,?_,?_,?_,?_,?_,?_,?_,?_,?_,?_,?_,?_,?_,?_,?_,trivial⟩ ?_
     ·refine ⟨?z37,?z38,?z39,?z40,?z41,?z42,?z43,?z44,?z45,?z46,?z47,?z48,?z49,?z50,?z51,?z52,?z53,?z54,?z55,?z56,?z57,?z58,?z59,?fr,Slot.start _ _ _,Slot.start _ _ _,Slot.start _ _ _,Slot.start _ _ _,Slot.start _ _ _,Slot.start _ _ _,Slot.start _ _ _,Slot.start _ _ _,Slot.start _ _ _,Slot.start _ _ _,Slot.start _ _ _,Slot.start _ _ _,Slot.start _ _ _,Slot.start _ _ _,Slot.start _ _ _,Slot.start _ _ _,Slot.start _ _ _,Slot.start _ _ _,Slot.start _ _ _,Slot.start _ _ _,Slot.start _ _ _,Slot.start _ _ _,Slot.start _ _ _,Old.start HAr.out _ _,Dep.start _ _,(Off.refl _ wr).drew⟩
      case fr => first | (simp only [Act.put,List.setIfInBounds_toArray,List.set_cons_zero,List.set_cons_succ]; rfl) | simp only [Act.put,List.setIfInBounds_toArray,List.set_cons_zero,List.set_cons_succ]
     ·intro l a wr hI hl hd K' hK
      obtain ⟨u37,u38,u39,u40,u41,u42,u43,u44,u45,u46,u47,u48,u49,u50,u51,u52,u53,u54,u55,u56,u57,u58,u59,ha,s0,s1,s2,s3,s4,s5,s6,s7,s8,s9,s10,s11,s12,s13,s14,s15,s16,s17,s18,s19,s20,s21,s22,O0,P10_23,hO⟩ := hI
      simp only [Act.put,List.setIfInBounds_toArray,List.set_cons_zero,List.set_cons_succ] at ha
      subst ha
      go_simp
      refine hK.out _ _ ⟨_,_,_,_,_,_,_,_,_,_,_,_,_,_,_,_,_,_,_,_,_,_,_,?_,Slot.new _ _ _,s1.keep rfl,s2.keep rfl,s3.keep rfl,s4.keep rfl,s5.keep rfl,s6.keep rfl,s7.keep rfl,s8.keep rfl,s9.keep rfl,s10.keep rfl,s11.keep rfl,s12.keep rfl,s13.keep rfl,s14.keep rfl,s15.keep rfl,s16.keep rfl,s17.keep rfl,s18.keep rfl,s19.keep rfl,s20.keep rfl,s21.keep rfl,s22.keep rfl,O0.keep (Off.refl _ wr) rfl,P10_23.keep rfl,hO⟩
      simp only [Act.put,List.setIfInBounds_toArray,List.set_cons_zero,List.set_cons_succ]
     ·intro l a wr hI hl hd K' hK
      obtain ⟨u37,u38,u39,u40,u41,u42,u43,u44,u45,u46,u47,u48,u49,u50,u51,u52,u53,u54,u55,u56,u57,u58,u59,ha,s0,s1,s2,s3,s4,s5,s6,s7,s8,s9,s10,s11,s12,s13,s14,s15,s16,s17,s18,s19,s20,s21,s22,O0,P10_23,hO⟩ := hI
      simp only [Act.put,List.setIfInBounds_toArray,List.set_cons_zero,List.set_cons_succ] at ha
      subst ha
      go_simp
      refine hK.out _ _ ⟨_,_,_,_,_,_,_,_,_,_,_,_,_,_,_,_,_,_,_,_,_,_,_,?_,s0.keep rfl,Slot.new _ _ _,s2.keep rfl,s3.keep rfl,s4.keep rfl,s5.keep rfl,s6.keep rfl,s7.keep rfl,s8.keep rfl,s9.keep rfl,s10.keep rfl,s11.keep rfl,s12.keep rfl,s13.keep rfl,s14.keep rfl,s15.keep rfl,s16.keep rfl,s17.keep rfl,s18.keep rfl,s19.keep rfl,s20.keep rfl,s21.keep rfl,s22.keep rfl,O0.keep (Off.refl _ wr) rfl,P10_23.keep rfl,hO⟩
      simp only [Act.put,List.setIfInBounds_toArray,List.set_cons_zero,List.set_cons_succ]
     ·intro l a wr hI hl hd K' hK
      obtain ⟨u37,u38,u39,u40,u41,u42,u43,u44,u45,u46,u47,u48,u49,u50,u51,u52,u53,u54,u55,u56,u57,u58,u59,ha,s0,s1,s2,s3,s4,s5,s6,s7,s8,s9,s10,s11,s12,s13,s14,s15,s16,s17,s18,s19,s20,s21,s22,O0,P10_23,hO⟩ := hI
      simp only [Act.put,List.setIfInBounds_toArray,List.set_cons_zero,List.set_cons_succ] at ha
      subst ha
      go_simp
      refine hK.out _ _ ⟨_,_,_,_,_,_,_,_,_,_,_,_,_,_,_,_,_,_,_,_,_,_,_,?_,s0.keep rfl,s1.keep rfl,Slot.new _ _ _,s3.keep rfl,s4.keep rfl,s5.keep rfl,s6.keep rfl,s7.keep rfl,s8.keep rfl,s9.keep rfl,s10.keep rfl,s11.keep rfl,s12.keep rfl,s13.keep rfl,s14.keep rfl,s15.keep rfl,s16.keep rfl,s17.keep rfl,s18.keep rfl,s19.keep rfl,s20.keep rfl,s21.keep rfl,s22.keep rfl,O0.keep (Off.refl _ wr) rfl,P10_23.keep rfl,hO⟩
      simp only [Act.put,List.setIfInBounds_toArray,List.set_cons_zero,List.set_cons_succ]
     ·intro l a wr hI hl hd K' hK
      obtain ⟨u37,u38,u39,u40,u41,u42,u43,u44,u45,u46,u47,u48,u49,u50,u51,u52,u53,u54,u55,u56,u57,u58,u59,ha,s0,s1,s2,s3,s4,s5,s6,s7,s8,s9,s10,s11,s12,s13,s14,s15,s16,s17,s18,s19,s20,s21,s22,O0,P10_23,hO⟩ := hI
      simp only [Act.put,List.setIfInBounds_toArray,List.set_cons_zero,List.set_cons_succ] at ha
      have q1 := s1 (hd 1 (by decide))
      have q2 := s2 (hd 2 (by decide))
      subst ha q1 q2
      go_simp
      refine hK.out _ _ ⟨_,_,_,_,_,_,_,_,_,_,_,_,_,_,_,_,_,_,_,_,_,_,_,?_,s0.keep rfl,s1.keep rfl,s2.keep rfl,Slot.new _ _ _,s4.keep rfl,s5.keep rfl,s6.keep rfl,s7.keep rfl,s8.keep rfl,s9.keep rfl,s10.keep rfl,s11.keep rfl,s12.keep rfl,s13.keep rfl,s14.keep rfl,s15.keep rfl,s16.keep rfl,s17.keep rfl,s18.keep rfl,s19.keep rfl,s20.keep rfl,s21.keep rfl,s22.keep rfl,O0.keep (Off.refl _ wr) rfl,P10_23.keep rfl,hO⟩
      simp only [Act.put,List.setIfInBounds_toArray,List.set_cons_zero,List.set_cons_succ]
     ·intro l a wr hI hl hd K' hK
      obtain ⟨u37,u38,u39,u40,u41,u42,u43,u44,u45,u46,u47,u48,u49,u50,u51,u52,u53,u54,u55,u56,u57,u58,u59,ha,s0,s1,s2,s3,s4,s5,s6,s7,s8,s9,s10,s11,s12,s13,s14,s15,s16,s17,s18,s19,s20,s21,s22,O0,P10_23,hO⟩ := hI
      simp only [Act.put,List.setIfInBounds_toArray,List.set_cons_zero,List.set_cons_succ] at ha
      subst ha
      have hc := HK.out wr hO
      have p0 := hc.1.1
      have p1 := hc.1.2.1
      have p2 := hc.1.2.2.1
      have p3 := hc.1.2.2.2
      clear hc
      go_simp
      refine hK.out _ _ ⟨_,_,_,_,_,_,_,_,_,_,_,_,_,_,_,_,_,_,_,_,_,_,_,?_,s0.keep rfl,s1.keep rfl,s2.keep rfl,s3.keep rfl,Slot.new _ _ _,s5.keep rfl,s6.keep rfl,s7.keep rfl,s8.keep rfl,s9.keep rfl,s10.keep rfl,s11.keep rfl,s12.keep rfl,s13.keep rfl,s14.keep rfl,s15.keep rfl,s16.keep rfl,s17.keep rfl,s18.keep rfl,s19.keep rfl,s20.keep rfl,s21.keep rfl,s22.keep rfl,O0.keep (Off.refl _ wr) rfl,P10_23.keep rfl,hO⟩
      simp only [Act.put,List.setIfInBounds_toArray,List.set_cons_zero,List.set_cons_succ]
     ·intro l a wr hI hl hd K' hK
      obtain ⟨u37,u38,u39,u40,u41,u42,u43,u44,u45,u46,u47,u48,u49,u50,u51,u52,u53,u54,u55,u56,u57,u58,u59,ha,s0,s1,s2,s3,s4,s5,s6,s7,s8,s9,s10,s11,s12,s13,s14,s15,s16,s17,s18,s19,s20,s21,s22,O0,P10_23,hO⟩ := hI
      simp only [Act.put,List.setIfInBounds_toArray,List.set_cons_zero,List.set_cons_succ] at ha
      subst ha
      go_simp
      refine hK.out _ _ ⟨_,_,_,_,_,_,_,_,_,_,_,_,_,_,_,_,_,_,_,_,_,_,_,?_,s0.keep rfl,s1.keep rfl,s2.keep rfl,s3.keep rfl,s4.keep rfl,Slot.new _ _ _,s6.keep rfl,s7.keep rfl,s8.keep rfl,s9.keep rfl,s10.keep rfl,s11.keep rfl,s12.keep rfl,s13.keep rfl,s14.keep rfl,s15.keep rfl,s16.keep rfl,s17.keep rfl,s18.keep rfl,s19.keep rfl,s20.keep rfl,s21.keep rfl,s22.keep rfl,O0.keep (Off.refl _ wr) rfl,P10_23.keep rfl,hO⟩
      simp only [Act.put,List.setIfInBounds_toArray,List.set_cons_zero,List.set_cons_succ]
     ·intro l a wr hI hl hd K' hK
      obtain ⟨u37,u38,u39,u40,u41,u42,u43,u44,u45,u46,u47,u48,u49,u50,u51,u52,u53,u54,u55,u56,u57,u58,u59,ha,s0,s1,s2,s3,s4,s5,s6,s7,s8,s9,s10,s11,s12,s13,s14,s15,s16,s17,s18,s19,s20,s21,s22,O0,P10_23,hO⟩ := hI
      simp only [Act.put,List.setIfInBounds_toArray,List.set_cons_zero,List.set_cons_succ] at ha
      subst ha
      go_simp
      refine hK.out _ _ ⟨_,_,_,_,_,_,_,_,_,_,_,_,_,_,_,_,_,_,_,_,_,_,_,?_,s0.keep rfl,s1.keep rfl,s2.keep rfl,s3.keep rfl,s4.keep rfl,s5.keep rfl,Slot.new _ _ _,s7.keep rfl,s8.keep rfl,s9.keep rfl,s10.keep rfl,s11.keep rfl,s12.keep rfl,s13.keep rfl,s14.keep rfl,s15.keep rfl,s16.keep rfl,s17.keep rfl,s18.keep rfl,s19.keep rfl,s20.keep rfl,s21.keep rfl,s22.keep rfl,O0.keep (Off.refl _ wr) rfl,P10_23.keep rfl,hO⟩
      simp only [Act.put,List.setIfInBounds_toArray,List.set_cons_zero,List.set_cons_succ]
     ·intro l a wr hI hl hd K' hK
      obtain ⟨u37,u38,u39,u40,u41,u42,u43,u44,u45,u46,u47,u48,u49,u50,u51,u52,u53,u54,u55,u56,u57,u58,u59,ha,s0,s1,s2,s3,s4,s5,s6,s7,s8,s9,s10,s11,s12,s13,s14,s15,s16,s17,s18,s19,s20,s21,s22,O0,P10_23,hO⟩ := hI
      simp only [Act.put,List.setIfInBounds_toArray,List.set_cons_zero,List.set_cons_succ] at ha
      subst ha
      go_simp
      refine hK.out _ _ ⟨_,_,_,_,_,_,_,_,_,_,_,_,_,_,_,_,_,_,_,_,_,_,_,?_,s0.keep rfl,s1.keep rfl,s2.keep rfl,s3.keep rfl,s4.keep rfl,s5.keep rfl,s6.keep rfl,Slot.new _ _ _,s8.keep rfl,s9.keep rfl,s10.keep rfl,s11.keep rfl,s12.keep rfl,s13.keep rfl,s14.keep rfl,s15.keep rfl,s16.keep rfl,s17.keep rfl,s18.keep rfl,s19.keep rfl,s20.keep rfl,s21.keep rfl,s22.keep rfl,O0.keep (Off.refl _ wr) rfl,P10_23.keep rfl,hO⟩
      simp only [Act.put,List.setIfInBounds_toArray,List.set_cons_zero,List.set_cons_succ]
     ·intro l a wr hI hl hd K' hK
      obtain ⟨u37,u38,u39,u40,u41,u42,u43,u44,u45,u46,u47,u48,u49,u50,u51,u52,u53,u54,u55,u56,u57,u58,u59,ha,s0,s1,s2,s3,s4,s5,s6,s7,s8,s9,s10,s11,s12,s13,s14,s15,s16,s17,s18,s19,s20,s21,s22,O0,P10_23,hO⟩ := hI
      simp only [Act.put,List.setIfInBounds_toArray,List.set_cons_zero,List.set_cons_succ] at ha
      have q6 := s6 (hd 6 (by decide))
      have q7 := s7 (hd 7 (by decide))
      subst ha q6 q7
      go_simp
      refine hK.out _ _ ⟨_,_,_,_,_,_,_,_,_,_,_,_,_,_,_,_,_,_,_,_,_,_,_,?_,s0.keep rfl,s1.keep rfl,s2.keep rfl,s3.keep rfl,s4.keep rfl,s5.keep rfl,s6.keep rfl,s7.keep rfl,Slot.new _ _ _,s9.keep rfl,s10.keep rfl,s11.keep rfl,s12.keep rfl,s13.keep rfl,s14.keep rfl,s15.keep rfl,s16.keep rfl,s17.keep rfl,s18.keep rfl,s19.keep rfl,s20.keep rfl,s21.keep rfl,s22.keep rfl,O0.keep (Off.refl _ wr) rfl,P10_23.keep rfl,hO⟩
      simp only [Act.put,List.setIfInBounds_toArray,List.set_cons_zero,List.set_cons_succ]
     ·intro l a wr hI hl hd K' hK
      obtain ⟨u37,u38,u39,u40,u41,u42,u43,u44,u45,u46,u47,u48,u49,u50,u51,u52,u53,u54,u55,u56,u57,u58,u59,ha,s0,s1,s2,s3,s4,s5,s6,s7,s8,s9,s10,s11,s12,s13,s14,s15,s16,s17,s18,s19,s20,s21,s22,O0,P10_23,hO⟩ := hI
      simp only [Act.put,List.setIfInBounds_toArray,List.set_cons_zero,List.set_cons_succ] at ha
      have q5 := s5 (hd 5 (by decide))
      have q8 := s8 (hd 8 (by decide))
      subst ha q5 q8
      go_simp
      refine hK.out _ _ ⟨_,_,_,_,_,_,_,_,_,_,_,_,_,_,_,_,_,_,_,_,_,_,_,?_,s0.keep rfl,s1.keep rfl,s2.keep rfl,s3.keep rfl,s4.keep rfl,s5.keep rfl,s6.keep rfl,s7.keep rfl,s8.keep rfl,Slot.new _ _ _,s10.keep rfl,s11.keep rfl,s12.keep rfl,s13.keep rfl,s14.keep rfl,s15.keep rfl,s16.keep rfl,s17.keep rfl,s18.keep rfl,s19.keep rfl,s20.keep rfl,s21.keep rfl,s22.keep rfl,O0.keep (Off.refl _ wr) rfl,P10_23.keep rfl,hO⟩
      simp only [Act.put,List.setIfInBounds_toArray,List.set_cons_zero,List.set_cons_succ]
     ·intro l a wr hI hl hd K' hK
      obtain ⟨u37,u38,u39,u40,u41,u42,u43,u44,u45,u46,u47,u48,u49,u50,u51,u52,u53,u54,u55,u56,u57,u58,u59,ha,s0,s1,s2,s3,s4,s5,s6,s7,s8,s9,s10,s11,s12,s13,s14,s15,s16,s17,s18,s19,s20,s21,s22,O0,P10_23,hO⟩ := hI
      simp only [Act.put,List.setIfInBounds_toArray,List.set_cons_zero,List.set_cons_succ] at ha
      have q9 := s9 (hd 9 (by decide))
      subst ha q9
      have hZ := O0.was (P10_23 hl)
      obtain ⟨p0,p1,p2,p3⟩ := NumsAt.cell hZ HOj.out
      clear hZ
      go_simp
      refine hK.out _ _ ⟨_,_,_,_,_,_,_,_,_,_,_,_,_,_,_,_,_,_,_,_,_,_,_,?_,s0.keep rfl,s1.keep rfl,s2.keep rfl,s3.keep rfl,s4.keep rfl,s5.keep rfl,s6.keep rfl,s7.keep rfl,s8.keep rfl,s9.keep rfl,Slot.new _ _ _,s11.keep rfl,s12.keep rfl,s13.keep rfl,s14.keep rfl,s15.keep rfl,s16.keep rfl,s17.keep rfl,s18.keep rfl,s19.keep rfl,s20.keep rfl,s21.keep rfl,s22.keep rfl,O0.keep (Off.refl _ wr) rfl,P10_23.keep rfl,hO⟩
      simp only [Act.put,List.setIfInBounds_toArray,List.set_cons_zero,List.set_cons_succ]
     ·intro l a wr hI hl hd K' hK
      obtain ⟨u37,u38,u39,u40,u41,u42,u43,u44,u45,u46,u47,u48,u49,u50,u51,u52,u53,u54,u55,u56,u57,u58,u59,ha,s0,s1,s2,s3,s4,s5,s6,s7,s8,s9,s10,s11,s12,s13,s14,s15,s16,s17,s18,s19,s20,s21,s22,O0,P10_23,hO⟩ := hI
      simp only [Act.put,List.setIfInBounds_toArray,List.set_cons_zero,List.set_cons_succ] at ha
      subst ha
      have hc := HK.out wr hO
      have p0 := hc.1.1
      have p1 := hc.1.2.1
      have p2 := hc.1.2.2.1
      have p3 := hc.1.2.2.2
      clear hc
      go_simp
      refine hK.out _ _ ⟨_,_,_,_,_,_,_,_,_,_,_,_,_,_,_,_,_,_,_,_,_,_,_,?_,s0.keep rfl,s1.keep rfl,s2.keep rfl,s3.keep rfl,s4.keep rfl,s5.keep rfl,s6.keep rfl,s7.keep rfl,s8.keep rfl,s9.keep rfl,s10.keep rfl,Slot.new _ _ _,s12.keep rfl,s13.keep rfl,s14.keep rfl,s15.keep rfl,s16.keep rfl,s17.keep rfl,s18.keep rfl,s19.keep rfl,s20.keep rfl,s21.keep rfl,s22.keep rfl,O0.keep (Off.refl _ wr) rfl,P10_23.keep rfl,hO⟩
      simp only [Act.put,List.setIfInBounds_toArray,List.set_cons_zero,List.set_cons_succ]
     ·intro l a wr hI hl hd K' hK
      obtain ⟨u37,u38,u39,u40,u41,u42,u43,u44,u45,u46,u47,u48,u49,u50,u51,u52,u53,u54,u55,u56,u57,u58,u59,ha,s0,s1,s2,s3,s4,s5,s6,s7,s8,s9,s10,s11,s12,s13,s14,s15,s16,s17,s18,s19,s20,s21,s22,O0,P10_23,hO⟩ := hI
      simp only [Act.put,List.setIfInBounds_toArray,List.set_cons_zero,List.set_cons_succ] at ha
      subst ha
      go_simp
      refine hK.out _ _ ⟨_,_,_,_,_,_,_,_,_,_,_,_,_,_,_,_,_,_,_,_,_,_,_,?_,s0.keep rfl,s1.keep rfl,s2.keep rfl,s3.keep rfl,s4.keep rfl,s5.keep rfl,s6.keep rfl,s7.keep rfl,s8.keep rfl,s9.keep rfl,s10.keep rfl,s11.keep rfl,Slot.new _ _ _,s13.keep rfl,s14.keep rfl,s15.keep rfl,s16.keep rfl,s17.keep rfl,s18.keep rfl,s19.keep rfl,s20.keep rfl,s21.keep rfl,s22.keep rfl,O0.keep (Off.refl _ wr) rfl,P10_23.keep rfl,hO⟩
      simp only [Act.put,List.setIfInBounds_toArray,List.set_cons_zero,List.set_cons_succ]
     ·intro l a wr hI hl hd K' hK
      obtain ⟨u37,u38,u39,u40,u41,u42,u43,u44,u45,u46,u47,u48,u49,u50,u51,u52,u53,u54,u55,u56,u57,u58,u59,ha,s0,s1,s2,s3,s4,s5,s6,s7,s8,s9,s10,s11,s12,s13,s14,s15,s16,s17,s18,s19,s20,s21,s22,O0,P10_23,hO⟩ := hI
      simp only [Act.put,List.setIfInBounds_toArray,List.set_cons_zero,List.set_cons_succ] at ha
      subst ha
      go_simp
      refine hK.out _ _ ⟨_,_,_,_,_,_,_,_,_,_,_,_,_,_,_,_,_,_,_,_,_,_,_,?_,s0.keep rfl,s1.keep rfl,s2.keep rfl,s3.keep rfl,s4.keep rfl,s5.keep rfl,s6.keep rfl,s7.keep rfl,s8.keep rfl,s9.keep rfl,s10.keep rfl,s11.keep rfl,s12.keep rfl,Slot.new _ _ _,s14.keep rfl,s15.keep rfl,s16.keep rfl,s17.keep rfl,s18.keep rfl,s19.keep rfl,s20.keep rfl,s21.keep rfl,s22.keep rfl,O0.keep (Off.refl _ wr) rfl,P10_23.keep rfl,hO⟩
      simp only [Act.put,List.setIfInBounds_toArray,List.set_cons_zero,List.set_cons_succ]
     ·intro l a wr hI hl hd K' hK
      obtain ⟨u37,u38,u39,u40,u41,u42,u43,u44,u45,u46,u47,u48,u49,u50,u51,u52,u53,u54,u55,u56,u57,u58,u59,ha,s0,s1,s2,s3,s4,s5,s6,s7,s8,s9,s10,s11,s12,s13,s14,s15,s16,s17,s18,s19,s20,s21,s22,O0,P10_23,hO⟩ := hI
      simp only [Act.put,List.setIfInBounds_toArray,List.set_cons_zero,List.set_cons_succ] at ha
      have q12 := s12 (hd 12 (by decide))
      have q13 := s13 (hd 13 (by decide))
      subst ha q12 q13
      go_simp
      refine hK.out _ _ ⟨_,_,_,_,_,_,_,_,_,_,_,_,_,_,_,_,_,_,_,_,_,_,_,?_,s0.keep rfl,s1.keep rfl,s2.keep rfl,s3.keep rfl,s4.keep rfl,s5.keep rfl,s6.keep rfl,s7.keep rfl,s8.keep rfl,s9.keep rfl,s10.keep rfl,s11.keep rfl,s12.keep rfl,s13.keep rfl,Slot.new _ _ _,s15.keep rfl,s16.keep rfl,s17.keep rfl,s18.keep rfl,s19.keep rfl,s20.keep rfl,s21.keep rfl,s22.keep rfl,O0.keep (Off.refl _ wr) rfl,P10_23.keep rfl,hO⟩
      simp only [Act.put,List.setIfInBounds_toArray,List.set_cons_zero,List.set_cons_succ]
     ·intro l a wr hI hl hd K' hK
      obtain ⟨u37,u38,u39,u40,u41,u42,u43,u44,u45,u46,u47,u48,u49,u50,u51,u52,u53,u54,u55,u56,u57,u58,u59,ha,s0,s1,s2,s3,s4,s5,s6,s7,s8,s9,s10,s11,s12,s13,s14,s15,s16,s17,s18,s19,s20,s21,s22,O0,P10_23,hO⟩ := hI
      simp only [Act.put,List.setIfInBounds_toArray,List.set_cons_zero,List.set_cons_succ] at ha
      have q14 := s14 (hd 14 (by decide))
      subst ha q14
      have hc := HK.out wr hO
      have p0 := hc.2.1.1
      have p1 := hc.2.1.2.1
      have p2 := hc.2.1.2.2.1
      have p3 := hc.2.1.2.2.2
      clear hc
      go_simp
      refine hK.out _ _ ⟨_,_,_,_,_,_,_,_,_,_,_,_,_,_,_,_,_,_,_,_,_,_,_,?_,s0.keep rfl,s1.keep rfl,s2.keep rfl,s3.keep rfl,s4.keep rfl,s5.keep rfl,s6.keep rfl,s7.keep rfl,s8.keep rfl,s9.keep rfl,s10.keep rfl,s11.keep rfl,s12.keep rfl,s13.keep rfl,s14.keep rfl,Slot.new _ _ _,s16.keep rfl,s17.keep rfl,s18.keep rfl,s19.keep rfl,s20.keep rfl,s21.keep rfl,s22.keep rfl,O0.keep (Off.refl _ wr) rfl,P10_23.keep rfl,hO⟩
      simp only [Act.put,List.setIfInBounds_toArray,List.set_cons_zero,List.set_cons_succ]
     ·intro l a wr hI hl hd K' hK
      obtain ⟨u37,u38,u39,u40,u41,u42,u43,u44,u45,u46,u47,u48,u49,u50,u51,u52,u53,u54,u55,u56,u57,u58,u59,ha,s0,s1,s2,s3,s4,s5,s6,s7,s8,s9,s10,s11,s12,s13,s14,s15,s16,s17,s18,s19,s20,s21,s22,O0,P10_23,hO⟩ := hI
      simp only [Act.put,List.setIfInBounds_toArray,List.set_cons_zero,List.set_cons_succ] at ha
      subst ha
      go_simp
      refine hK.out _ _ ⟨_,_,_,_,_,_,_,_,_,_,_,_,_,_,_,_,_,_,_,_,_,_,_,?_,s0.keep rfl,s1.keep rfl,s2.keep rfl,s3.keep rfl,s4.keep rfl,s5.keep rfl,s6.keep rfl,s7.keep rfl,s8.keep rfl,s9.keep rfl,s10.keep rfl,s11.keep rfl,s12.keep rfl,s13.keep rfl,s14.keep rfl,s15.keep rfl,Slot.new _ _ _,s17.keep rfl,s18.keep rfl,s19.keep rfl,s20.keep rfl,s21.keep rfl,s22.keep rfl,O0.keep (Off.refl _ wr) rfl,P10_23.keep rfl,hO⟩
      simp only [Act.put,List.setIfInBounds_toArray,List.set_cons_zero,List.set_cons_succ]
     ·intro l a wr hI hl hd K' hK
      obtain ⟨u37,u38,u39,u40,u41,u42,u43,u44,u45,u46,u47,u48,u49,u50,u51,u52,u53,u54,u55,u56,u57,u58,u59,ha,s0,s1,s2,s3,s4,s5,s6,s7,s8,s9,s10,s11,s12,s13,s14,s15,s16,s17,s18,s19,s20,s21,s22,O0,P10_23,hO⟩ := hI
      simp only [Act.put,List.setIfInBounds_toArray,List.set_cons_zero,List.set_cons_succ] at ha
      subst ha
      go_simp
      refine hK.out _ _ ⟨_,_,_,_,_,_,_,_,_,_,_,_,_,_,_,_,_,_,_,_,_,_,_,?_,s0.keep rfl,s1.keep rfl,s2.keep rfl,s3.keep rfl,s4.keep rfl,s5.keep rfl,s6.keep rfl,s7.keep rfl,s8.keep rfl,s9.keep rfl,s10.keep rfl,s11.keep rfl,s12.keep rfl,s13.keep rfl,s14.keep rfl,s15.keep rfl,s16.keep rfl,Slot.new _ _ _,s18.keep rfl,s19.keep rfl,s20.keep rfl,s21.keep rfl,s22.keep rfl,O0.keep (Off.refl _ wr) rfl,P10_23.keep rfl,hO⟩
      simp only [Act.put,List.setIfInBounds_toArray,List.set_cons_zero,List.set_cons_succ]
     ·intro l a wr hI hl hd K' hK
      obtain ⟨u37,u38,u39,u40,u41,u42,u43,u44,u45,u46,u47,u48,u49,u50,u51,u52,u53,u54,u55,u56,u57,u58,u59,ha,s0,s1,s2,s3,s4,s5,s6,s7,s8,s9,s10,s11,s12,s13,s14,s15,s16,s17,s18,s19,s20,s21,s22,O0,P10_23,hO⟩ := hI
      simp only [Act.put,List.setIfInBounds_toArray,List.set_cons_zero,List.set_cons_succ] at ha
      have q16 := s16 (hd 16 (by decide))
      have q17 := s17 (hd 17 (by decide))
      subst ha q16 q17
      go_simp
      refine hK.out _ _ ⟨_,_,_,_,_,_,_,_,_,_,_,_,_,_,_,_,_,_,_,_,_,_,_,?_,s0.keep rfl,s1.keep rfl,s2.keep rfl,s3.keep rfl,s4.keep rfl,s5.keep rfl,s6.keep rfl,s7.keep rfl,s8.keep rfl,s9.keep rfl,s10.keep rfl,s11.keep rfl,s12.keep rfl,s13.keep rfl,s14.keep rfl,s15.keep rfl,s16.keep rfl,s17.keep rfl,Slot.new _ _ _,s19.keep rfl,s20.keep rfl,s21.keep rfl,s22.keep rfl,O0.keep (Off.refl _ wr) rfl,P10_23.keep rfl,hO⟩
      simp only [Act.put,List.setIfInBounds_toArray,List.set_cons_zero,List.set_cons_succ]
     ·intro l a wr hI hl hd K' hK
      obtain ⟨u37,u38,u39,u40,u41,u42,u43,u44,u45,u46,u47,u48,u49,u50,u51,u52,u53,u54,u55,u56,u57,u58,u59,ha,s0,s1,s2,s3,s4,s5,s6,s7,s8,s9,s10,s11,s12,s13,s14,s15,s16,s17,s18,s19,s20,s21,s22,O0,P10_23,hO⟩ := hI
      simp only [Act.put,List.setIfInBounds_toArray,List.set_cons_zero,List.set_cons_succ] at ha
      have q18 := s18 (hd 18 (by decide))
      subst ha q18
      have hc := HK.out wr hO
      have p0 := hc.2.2.1.1
      have p1 := hc.2.2.1.2.1
      have p2 := hc.2.2.1.2.2.1
      have p3 := hc.2.2.1.2.2.2
      clear hc
      go_simp
      refine hK.out _ _ ⟨_,_,_,_,_,_,_,_,_,_,_,_,_,_,_,_,_,_,_,_,_,_,_,?_,s0.keep rfl,s1.keep rfl,s2.keep rfl,s3.keep rfl,s4.keep rfl,s5.keep rfl,s6.keep rfl,s7.keep rfl,s8.keep rfl,s9.keep rfl,s10.keep rfl,s11.keep rfl,s12.keep rfl,s13.keep rfl,s14.keep rfl,s15.keep rfl,s16.keep rfl,s17.keep rfl,s18.keep rfl,Slot.new _ _ _,s20.keep rfl,s21.keep rfl,s22.keep rfl,O0.keep (Off.refl _ wr) rfl,P10_23.keep rfl,hO⟩
      simp only [Act.put,List.setIfInBounds_toArray,List.set_cons_zero,List.set_cons_succ]
     ·intro l a wr hI hl hd K' hK
      obtain ⟨u37,u38,u39,u40,u41,u42,u43,u44,u45,u46,u47,u48,u49,u50,u51,u52,u53,u54,u55,u56,u57,u58,u59,ha,s0,s1,s2,s3,s4,s5,s6,s7,s8,s9,s10,s11,s12,s13,s14,s15,s16,s17,s18,s19,s20,s21,s22,O0,P10_23,hO⟩ := hI
      simp only [Act.put,List.setIfInBounds_toArray,List.set_cons_zero,List.set_cons_succ] at ha
      have q11 := s11 (hd 11 (by decide))
      have q15 := s15 (hd 15 (by decide))
      have q19 := s19 (hd 19 (by decide))
      subst ha q11 q15 q19
      go_simp
      refine (held_inv (HMu.out wr) hO).mono ?_
      rintro e w1 ⟨rfl,hO1,hOW⟩
      go_wp2_with fail
      refine hK.out _ _ ⟨_,_,_,_,_,_,_,_,_,_,_,_,_,_,_,_,_,_,_,_,_,_,_,?_,s0.keep rfl,s1.keep rfl,s2.keep rfl,s3.keep rfl,s4.keep rfl,s5.keep rfl,s6.keep rfl,s7.keep rfl,s8.keep rfl,s9.keep rfl,s10.keep rfl,s11.keep rfl,s12.keep rfl,s13.keep rfl,s14.keep rfl,s15.keep rfl,s16.keep rfl,s17.keep rfl,s18.keep rfl,s19.keep rfl,Slot.new _ _ _,s21.keep rfl,s22.keep rfl,O0.keep hOW rfl,P10_23.keep rfl,hO1⟩
      simp only [Act.put,List.setIfInBounds_toArray,List.set_cons_zero,List.set_cons_succ]
     ·intro l a wr hI hl hd K' hK
      obtain ⟨u37,u38,u39,u40,u41,u42,u43,u44,u45,u46,u47,u48,u49,u50,u51,u52,u53,u54,u55,u56,u57,u58,u59,ha,s0,s1,s2,s3,s4,s5,s6,s7,s8,s9,s10,s11,s12,s13,s14,s15,s16,s17,s18,s19,s20,s21,s22,O0,P10_23,hO⟩ := hI
      simp only [Act.put,List.setIfInBounds_toArray,List.set_cons_zero,List.set_cons_succ] at ha
      have q4 := s4 (hd 4 (by decide))
      have q10 := s10 (hd 10 (by decide))
      have q20 := s20 (hd 20 (by decide))
      subst ha q4 q10 q20
      go_simp
      refine (held_inv (HAd.out wr) hO).mono ?_
      rintro e w1 ⟨rfl,hO1,hOW⟩
      go_wp2_with fail
      refine hK.out _ _ ⟨_,_,_,_,_,_,_,_,_,_,_,_,_,_,_,_,_,_,_,_,_,_,_,?_,s0.keep rfl,s1.keep rfl,s2.keep rfl,s3.keep rfl,s4.keep rfl,s5.keep rfl,s6.keep rfl,s7.keep rfl,s8.keep rfl,s9.keep rfl,s10.keep rfl,s11.keep rfl,s12.keep rfl,s13.keep rfl,s14.keep rfl,s15.keep rfl,s16.keep rfl,s17.keep rfl,s18.keep rfl,s19.keep rfl,s20.keep rfl,Slot.new _ _ _,s22.keep rfl,O0.keep hOW rfl,P10_23.keep rfl,hO1⟩
      simp only [Act.put,List.setIfInBounds_toArray,List.set_cons_zero,List.set_cons_succ]
     ·intro l a wr hI hl hd K' hK
      obtain ⟨u37,u38,u39,u40,u41,u42,u43,u44,u45,u46,u47,u48,u49,u50,u51,u52,u53,u54,u55,u56,u57,u58,u59,ha,s0,s1,s2,s3,s4,s5,s6,s7,s8,s9,s10,s11,s12,s13,s14,s15,s16,s17,s18,s19,s20,s21,s22,O0,P10_23,hO⟩ := hI
      simp only [Act.put,List.setIfInBounds_toArray,List.set_cons_zero,List.set_cons_succ] at ha
      have q0 := s0 (hd 0 (by decide))
      have q3 := s3 (hd 3 (by decide))
      subst ha q0 q3
      go_simp
      refine hK.out _ _ ⟨_,_,_,_,_,_,_,_,_,_,_,_,_,_,_,_,_,_,_,_,_,_,_,?_,s0.keep rfl,s1.keep rfl,s2.keep rfl,s3.keep rfl,s4.keep rfl,s5.keep rfl,s6.keep rfl,s7.keep rfl,s8.keep rfl,s9.keep rfl,s10.keep rfl,s11.keep rfl,s12.keep rfl,s13.keep rfl,s14.keep rfl,s15.keep rfl,s16.keep rfl,s17.keep rfl,s18.keep rfl,s19.keep rfl,s20.keep rfl,s21.keep rfl,Slot.new _ _ _,O0.keep (Off.refl _ wr) rfl,P10_23.keep rfl,hO⟩
      simp only [Act.put,List.setIfInBounds_toArray,List.set_cons_zero,List.set_cons_succ]
     ·intro l a wr hI hl hd K' hK
      obtain ⟨u37,u38,u39,u40,u41,u42,u43,u44,u45,u46,u47,u48,u49,u50,u51,u52,u53,u54,u55,u56,u57,u58,u59,ha,s0,s1,s2,s3,s4,s5,s6,s7,s8,s9,s10,s11,s12,s13,s14,s15,s16,s17,s18,s19,s20,s21,s22,O0,P10_23,hO⟩ := hI
      simp only [Act.put,List.setIfInBounds_toArray,List.set_cons_zero,List.set_cons_succ] at ha
      have q22 := s22 (hd 22 (by decide))
      have q21 := s21 (hd 21 (by decide))
      subst ha q22 q21
      have hZ := (O0.was hl)
      obtain ⟨m0,m1,m2,m3⟩ := NumsAt.cell hZ HOj.out
      have fz := fun j => NumsAt.frozen hZ j
      have lt := heap_lt hZ
      clear hZ
      go_simp
      refine hK.out _ _ ⟨_,_,_,_,_,_,_,_,_,_,_,_,_,_,_,_,_,_,_,_,_,_,_,?_,s0.keep rfl,s1.keep rfl,s2.keep rfl,s3.keep rfl,s4.keep rfl,s5.keep rfl,s6.keep rfl,s7.keep rfl,s8.keep rfl,s9.keep rfl,s10.keep rfl,s11.keep rfl,s12.keep rfl,s13.keep rfl,s14.keep rfl,s15.keep rfl,s16.keep rfl,s17.keep rfl,s18.keep rfl,s19.keep rfl,s20.keep rfl,s21.keep rfl,s22.keep rfl,O0.putAt (HPt.out wr) hl,Dep.at (hd 10 (by decide)),setCells_in_at hO (fun _ => rfl) (words4 z)⟩
      simp only [Act.put,List.setIfInBounds_toArray,List.set_cons_zero,List.set_cons_succ]
     ·intro l a wc hI hd
      obtain ⟨u37,u38,u39,u40,u41,u42,u43,u44,u45,u46,u47,u48,u49,u50,u51,u52,u53,u54,u55,u56,u57,u58,u59,ha,s0,s1,s2,s3,s4,s5,s6,s7,s8,s9,s10,s11,s12,s13,s14,s15,s16,s17,s18,s19,s20,s21,s22,O0,P10_23,hO⟩ := hI
      simp only [Act.put,List.setIfInBounds_toArray,List.set_cons_zero,List.set_cons_succ] at ha
      have q0 := s0 (hd 0 (by decide))
      have q1 := s1 (hd 1 (by decide))
      have q2 := s2 (hd 2 (by decide))
      have q3 := s3 (hd 3 (by decide))
      have q4 := s4 (hd 4 (by decide))
      have q5 := s5 (hd 5 (by decide))
      have q6 := s6 (hd 6 (by decide))
      have q7 := s7 (hd 7 (by decide))
      have q8 := s8 (hd 8 (by decide))
      have q9 := s9 (hd 9 (by decide))
      have q10 := s10 (hd 10 (by decide))
      have q11 := s11 (hd 11 (by decide))
      have q12 := s12 (hd 12 (by decide))
      have q13 := s13 (hd 13 (by decide))
      have q14 := s14 (hd 14 (by decide))
      have q15 := s15 (hd 15 (by decide))
      have q16 := s16 (hd 16 (by decide))
      have q17 := s17 (hd 17 (by decide))
      have q18 := s18 (hd 18 (by decide))
      have q19 := s19 (hd 19 (by decide))
      have q20 := s20 (hd 20 (by decide))
      have q21 := s21 (hd 21 (by decide))
      have q22 := s22 (hd 22 (by decide))
      have r0 : wc.heap[arr]? = some (.cells (flat4 (L1.set g z)).toArray 28) := O0.now (hd 23 (by decide))
      subst ha q0 q1 q2 q3 q4 q5 q6 q7 q8 q9 q10 q11 q12 q13 q14 q15 q16 q17 q18 q19 q20 q21 q22
      clear hd s0 s1 s2 s3 s4 s5 s6 s7 s8 s9 s10 s11 s12 s13 s14 s15 s16 s17 s18 s19 s20 s21 s22 O0 P10_23
      have hb := HB.out
      have HP2 := Lib.hid (hO.heap HP.out (by omega))
      have HO2 := Lib.hid (HO.out.trans hO (fun j hj e => by omega))
      rw [<- HST.out] at r0
      have R0 := Lib.hid r0
      clear hO r0 hb
      go_wp2
      go_roundw
      case rel => exact ⟨k + 1,by omega,by simp,HP2.out,R0.out,HO2.out⟩
      case measure => simp [intOf] <;> omega
    ·obtain rfl : k = m := by omega
     rw [<- HSn.out] at hA
     have HP := Lib.hid hP
     have HAr := Lib.hid hA
     have HO := Lib.hid hO
     clear hP hA hO
     go_wp2
     go_roundw
     case rel => exact ⟨i + 1,by omega,by simp,HP.out,HAr.out,HO.out⟩
     case measure => simp [intOf] <;> omega
  ·obtain rfl : i = n := by omega
   have hz : mulAll p vs us (List.range i) = mulL p vs us := by unfold mulL; rw [if_neg (by have := HN.out; have := HN2.out; omega),HN.out]
   have hsl : (mulL p vs us).length = N := by rw [<- hz,mulAll_length,<- HN.out,<- HN2.out,HNm.out]
   rw [hz] at hA
   have hLs := Ls.of_all (cap := N) hA (by omega)
   rw [hsl] at hLs
   have HLs := Lib.hid hLs
   have HO := Lib.hid hO
   clear hP hA hO hz hLs
   go_wp2
   go_ret
   exact ⟨_,rfl,HLs.out,HO.out⟩
theorem refmul_any {p : Nat} (hp : p < R256) (h1 : 1 < p) (vs us : List Nat) (hvs : ∀ v ∈ vs,v < p) (hus : ∀ v ∈ us,v < p) (hl1 : vs.length <= 10000) (hl2 : us.length <= 10000) (v u : Value) (w : World) (hV : Ls w v vs) (hU : Ls w u us) :
  Calls Tryd.prog 57 #[V p,v,u] w fun e w' => ∃ z,e = .returned z /\ Ls w' z (mulL p vs us) /\ Off (fun _ => False) w w' := by
 obtain ⟨a,cap,rfl,hL⟩ := hV.open
 obtain ⟨a2,cap2,rfl,hM⟩ := hU.open
 by_cases h : vs.length = 0 ∨ us.length = 0
 ·refine (refmul_nil p _ cap _ cap2 a a2 h w).mono ?_
  rintro e w' ⟨rfl,hO⟩
  exact ⟨_,rfl,by unfold mulL; rw [if_pos h]; exact Ls.nil w',hO⟩
 ·exact refmul_some hp h1 vs us hvs hus _ cap _ cap2 a a2 rfl rfl (by omega) (by omega) hl1 hl2 w hL hM
end Go.Proofs.YtggebccgiigboaaDoor
-- squeezed
