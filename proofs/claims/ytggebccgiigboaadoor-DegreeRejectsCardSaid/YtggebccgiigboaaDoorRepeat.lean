/-
  math/bits.Mul of small numbers, and slices.Repeat of one element. Condition: the number of repetitions is small.
-/
import Derived.Test.YtggebccgiigboaaDoorBitsMul
import Derived.Test.YtggebccgiigboaaDoorDegBase
import Derived.Test.YtggebccgiigboaaDoorPolCore
import Derived.Test.YtggebccgiigboaaDoorPolLists
namespace Go.Proofs.YtggebccgiigboaaDoor
open Go.RowKit
attribute [local go_sem ↓] Go.wp_at_zero Go.wp_at_succ
set_option maxRecDepth 100000 in
set_option maxHeartbeats 4000000 in
theorem bitsmul_any (x y : Nat) (hx : x < 18446744073709551616) (hy : y < 18446744073709551616) (w : World) :
  Calls Tryd.prog 39 #[.int .u64 x,.int .u64 y] w fun e w' => e = .returned (.tuple #[.int .u64 ((x * y / 18446744073709551616 : Nat) : Int),.int .u64 ((x * y % 18446744073709551616 : Nat) : Int)]) /\ w' = w := by
 obtain ⟨h,hh⟩ : ∃ h,h = x * y / 18446744073709551616 := ⟨_,rfl⟩
 obtain ⟨l,hl⟩ : ∃ l,l = x * y % 18446744073709551616 := ⟨_,rfl⟩
 have FM := Lib.hid (show ∀ W,Calls Tryd.prog 62 #[.int .u64 x,.int .u64 y] W fun e w' => e = .returned (.tuple #[.int .u64 (h : Int),.int .u64 (l : Int)]) /\ w' = W from fun W => by rw [hh,hl]; exact mul64_any x y hx hy W)
 rw [<- hh,<- hl]
 clear hh hl hx hy
 go_enter Tryd.func39,Tryd.ntmps39
 go_wp2_with fail
 refine (FM.out _).mono ?_
 rintro e w' ⟨rfl,rfl⟩
 go_wp2
 refine bodyPost_ret (results_tmp2 rfl _ _ _) rfl ?_
 exact ⟨rfl,rfl⟩
theorem slice_from_el (b n cap k : Nat) (hk : k <= n) (hc : k ≠ cap) (W : World) : (Instr.slice 34 (.slice (some ⟨b,0,none⟩) n cap) (some (.int .i64 (k : Int))) none none).run Tryd.prog W = .ok (.slice (some ⟨b,k * 4,none⟩) (n - k) (cap - k)) W := by
 have he : Tryd.prog.elem 34 = 29 := by simp [Program.elem,Tryd.underlying34]
 rw [run_slice_l W 34 _ _ _ (by rw [he]; exact Tryd.underlying34) .i64 _ (by omega) (by omega),he,Tryd.sizeOf29]
 simp [Result.andThen,sliced,Addr.add_lit,Ne.symm hc]
theorem cells_sz (b : Nat) : ∀ (vs : List Value) (o : Nat) (w : World),(w.setCells b o vs).heap.size = w.heap.size
 | [],_,_ => rfl
 | v :: vs,o,w => by
  show ((w.setCell ⟨b,o,none⟩ v).setCells b (o + 1) vs).heap.size = _
  rw [cells_sz b vs (o + 1)]
  simp
theorem flat4_ones : ∀ l : List Nat,∀ u ∈ flat4 l,u.oneCell' = true
 | [],u,h => by cases h
 | x :: r,u,h => by
  simp only [flat4,List.mem_cons] at h
  rcases h with rfl | rfl | rfl | rfl | h <;> first | rfl | exact flat4_ones r u h
theorem read4 {w : World} {b off n cap : Nat} {xs : List Nat} {S : Nat -> Prop} (h : LsAt w (.slice (some ⟨b,off,none⟩) n cap) xs S) : ∀ j u,(flat4 xs)[j]? = some u -> w.cell? ((⟨b,off,none⟩ : Addr).add j) = some u := by
 intro j u hj
 have hjl : j < (flat4 xs).length := (List.getElem?_eq_some_iff.1 hj).1
 rw [flat4_length] at hjl
 obtain ⟨x,hx⟩ : ∃ x,xs[j / 4]? = some x := ⟨_,List.getElem?_eq_getElem (by omega)⟩
 obtain ⟨b',off',e,_,c0,c1,c2,c3⟩ := h.get hx
 simp at e
 obtain ⟨rfl,rfl⟩ := e
 obtain ⟨f0,f1,f2,f3⟩ := flat4_get xs _ x hx
 rw [Addr.add_lit]
 have h4 : j = j / 4 * 4 ∨ j = j / 4 * 4 + 1 ∨ j = j / 4 * 4 + 2 ∨ j = j / 4 * 4 + 3 := by omega
 rcases h4 with h | h | h | h
 ·rw [h] at hj ⊢; rw [f0] at hj; cases hj; exact c0
 ·rw [h] at hj ⊢; rw [f1] at hj; cases hj; rw [<- Nat.add_assoc]; exact c1
 ·rw [h] at hj ⊢; rw [f2] at hj; cases hj; rw [<- Nat.add_assoc]; exact c2
 ·rw [h] at hj ⊢; rw [f3] at hj; cases hj; rw [<- Nat.add_assoc]; exact c3
/-- 'copy' of a slice's elements to a block's first. -/
theorem copy_fst {w : World} {b n dcap m c : Nat} {a : Option Addr} {xs ys : List Nat} {Sl : Nat -> Prop} (h : LsAt w (.slice a m c) xs Sl) (hb : NumsAt w b 29 ys) (hn : n = ys.length) (hm : m <= n) :
  ∃ w1,(Builtin.copy_ #[34,34] 3 #[.slice (some ⟨b,0,none⟩) n dcap,.slice a m c]).run Tryd.prog w = .ok (.int .i64 (m : Int)) w1 /\ NumsAt w1 b 29 (xs ++ ys.drop m) /\ Off (fun k => k = b) w w1 /\ w1.heap.size = w.heap.size := by
 obtain ⟨hl,hl2⟩ := h.len
 have hu := Tryd.underlying34
 have hs : (Tryd.prog.info? 29).map (·.size) = some 4 := by kernel_rfl
 have hfl := flat4_length xs
 have hsp : flat4 ys = flat4 (ys.take m) ++ flat4 (ys.drop m) := by rw [<- flat4_append,List.take_append_drop]
 have htl : (flat4 (ys.take m)).length = (flat4 xs).length := by rw [flat4_length,flat4_length,List.length_take]; omega
 have hmid := setCells_mid (b := b) (T := 29) (flat4 xs) [] (flat4 (ys.take m)) (flat4 (ys.drop m)) w 0 rfl htl (by rw [List.nil_append,<- hsp]; exact hb)
 refine ⟨w.setCells b 0 (flat4 xs),?_,?_,setCells_off b (flat4 xs) 0 w,cells_sz b (flat4 xs) 0 w⟩
 ·have hst := run_storeCells_cells (P := Tryd.prog) b 0 (flat4 xs) 0 w (fun j hj => by
    have hlt : j < (flat4 ys).toArray.size := by simp only [List.size_toArray,flat4_length]; omega
    rw [cell_of_heap hb]; simp only [Nat.zero_add,Nat.add_zero]; rw [Array.getElem?_eq_getElem hlt]; rfl) (fun j _ => hb.frozen _) (flat4_ones xs)
  have hmin : Nat.min m n = m := Nat.min_eq_left hm
  cases hq : Tryd.prog.info? 29 with
  | none => simp [hq] at hs
  | some i =>
   have hi : i.size = 4 := by simpa [hq] using hs
   rcases Nat.eq_zero_or_pos m with h0 | hp
   ·subst h0
    obtain rfl : xs = [] := List.eq_nil_of_length_eq_zero hl.symm
    have hl0 : ∀ (x : Addr),(loadCells x 0).run Tryd.prog w = .ok #[] w := fun x => by simpa using run_loadCells_list (P := Tryd.prog) w x [] (by simp)
    cases a <;> simp [Builtin.copy_,run_underlying hu,Builtin.lenOf,Builtin.firstCells,sizeOf,typeInfo,hq,storeCells,hl0,flat4,World.setCells,goInt] <;> rfl
   ·obtain ⟨x0,hx0⟩ : ∃ x0,xs[0]? = some x0 := ⟨_,List.getElem?_eq_getElem (by omega)⟩
    obtain ⟨b2,off,rfl,hS,_⟩ := h.get hx0
    have hld := run_loadCells_list (P := Tryd.prog) w ⟨b2,off,none⟩ (flat4 xs) (read4 h)
    rw [flat4_length,<- hl] at hld
    simp [Builtin.copy_,run_underlying hu,Builtin.lenOf,Builtin.firstCells,sizeOf,typeInfo,hq,hi,hmin,hld,hst,goInt]
 ·rw [List.nil_append,<- flat4_append] at hmid
  exact hmid
/-- The first elements of a block are copied behind themselves. -/
theorem copy_rep {w : World} {b n c t x : Nat} (hb : NumsAt w b 29 (List.replicate c x ++ List.replicate (n - c) 0)) (hc : c < n) (ht : t = min (n - c) c) :
  ∃ w1,(Builtin.copy_ #[34,34] 3 #[.slice (some ⟨b,c * 4,none⟩) (n - c) (n - c),.slice (some ⟨b,0,none⟩) c n]).run Tryd.prog w = .ok (.int .i64 (t : Int)) w1 /\ NumsAt w1 b 29 (List.replicate (c + t) x ++ List.replicate (n - (c + t)) 0) /\ Off (fun k => k = b) w w1 /\ w1.heap.size = w.heap.size := by
 have hu := Tryd.underlying34
 have hs : (Tryd.prog.info? 29).map (·.size) = some 4 := by kernel_rfl
 have hz : List.replicate (n - c) 0 = List.replicate t 0 ++ List.replicate (n - (c + t)) 0 := by rw [List.replicate_append_replicate,show t + (n - (c + t)) = n - c by omega]
 have hr : List.replicate (c + t) x = List.replicate c x ++ List.replicate t x := by rw [List.replicate_append_replicate]
 have hl4 : ∀ k y : Nat,(flat4 (List.replicate k y)).length = k * 4 := fun k y => by rw [flat4_length,List.length_replicate]
 have hmid := setCells_mid (b := b) (T := 29) (flat4 (List.replicate t x)) (flat4 (List.replicate c x)) (flat4 (List.replicate t 0)) (flat4 (List.replicate (n - (c + t)) 0)) w (c * 4) (hl4 _ _) (by rw [hl4,hl4]) (by
  have h := hb
  unfold NumsAt at h
  rw [hz,<- List.append_assoc,flat4_append,flat4_append] at h; exact h)
 refine ⟨w.setCells b (c * 4) (flat4 (List.replicate t x)),?_,?_,setCells_off b _ (c * 4) w,cells_sz b _ (c * 4) w⟩
 ·have hst := run_storeCells_cells (P := Tryd.prog) b (c * 4) (flat4 (List.replicate t x)) 0 w (fun j hj => by
    rw [hl4] at hj
    have hlt : c * 4 + j < (flat4 (List.replicate c x ++ List.replicate (n - c) 0)).toArray.size := by simp only [List.size_toArray,flat4_append,List.length_append,hl4]; omega
    rw [cell_of_heap hb]; simp only [Nat.add_zero]; rw [Array.getElem?_eq_getElem hlt]; rfl) (fun j _ => hb.frozen _) (flat4_ones _)
  have hld := run_loadCells_list (P := Tryd.prog) w ⟨b,0,none⟩ (flat4 (List.replicate t x)) (fun j u hj => by
   rw [Addr.add_lit,Nat.zero_add,cell_of_heap hb,List.getElem?_toArray]
   have hjl := (List.getElem?_eq_some_iff.1 hj).1
   rw [hl4] at hjl
   rw [show List.replicate c x ++ List.replicate (n - c) 0 = List.replicate t x ++ (List.replicate (c - t) x ++ List.replicate (n - c) 0) by rw [<- List.append_assoc,List.replicate_append_replicate,show t + (c - t) = c by omega],flat4_append,List.getElem?_append_left (by rw [hl4]; exact hjl)]
   exact hj)
  rw [hl4] at hld
  have hmin : Nat.min c (n - c) = t := by rw [ht,Nat.min_comm]
  cases hq : Tryd.prog.info? 29 with
  | none => simp [hq] at hs
  | some i =>
   have hi : i.size = 4 := by simpa [hq] using hs
   simp [Builtin.copy_,run_underlying hu,Builtin.lenOf,Builtin.firstCells,sizeOf,typeInfo,hq,hi,hmin,hld,hst,goInt]
 ·unfold NumsAt
  rw [hr,flat4_append,flat4_append]
  exact hmid
set_option maxRecDepth 100000 in
set_option maxHeartbeats 4000000 in
theorem repeat_some (x n : Nat) (h0 : 0 < n) (hn : n <= 1000) (v : Value) (w : World) (hV : Ls w v [x]) :
  Calls Tryd.prog 17 #[v,.int .i64 (n : Int)] w fun e w' => ∃ b,e = .returned (.slice (some ⟨b,0,none⟩) n n) /\ w.heap.size <= b /\ NumsAt w' b 29 (List.replicate n x) /\ Off (fun _ => False) w w' := by
 obtain ⟨a,cap,rfl,hL⟩ := hV.open
 have FB := Lib.hid (show ∀ W,Calls Tryd.prog 39 #[.int .u64 1,.int .u64 (n : Int)] W fun e w' => e = .returned (.tuple #[.int .u64 0,.int .u64 (n : Int)]) /\ w' = W from fun W => by
  have h := bitsmul_any 1 n (by decide) (by omega) W
  rw [Nat.one_mul,Nat.div_eq_of_lt (by omega),Nat.mod_eq_of_lt (by omega)] at h; exact h)
 have hw1 : IntKind.u64.wrap (n : Int) = (n : Int) := by rw [IntKind.wrap_u64]; omega
 have hw2 : IntKind.i64.wrap (n : Int) = (n : Int) := by rw [IntKind.wrap_i64]; omega
 have hn0 : ¬ (n : Int) < 0 := by omega
 have hnm : ¬ (9223372036854775807 : Int) < (n : Int) := by omega
 have HL := Lib.hid (show LsAt w (.slice a 1 cap) [x] (fun k => k < w.heap.size /\ ¬ False) from hL)
 have hmk := run_make_el n (by omega)
 clear hL hV
 go_enter Tryd.func17,Tryd.ntmps17
 go_wp2_with fail
 refine (FB.out _).mono ?_
 rintro e W ⟨rfl,rfl⟩
 obtain ⟨w1,hcp,hblk,hoff,hsz⟩ := copy_fst (w := W.alloc (.cells (flat4 (List.replicate n 0)).toArray 29)) (b := W.heap.size) (n := n) (dcap := n) (LsAt.off HL.out ((Off.refl (fun _ => False) W).alloc _) (fun _ _ _ c => c)) (heap_new' rfl _) (by rw [List.length_replicate]) (by omega)
 rw [List.drop_replicate] at hblk
 have hO : Off (fun _ => False) W w1 := ((Off.refl (fun _ => False) W).alloc _).trans hoff (fun k hk e => by omega)
 obtain ⟨b,hb⟩ : ∃ b,b = W.heap.size := ⟨_,rfl⟩
 have HB := Lib.hid (show W.heap.size <= b by omega)
 have HO := Lib.hid hO
 have HBl := Lib.hid (show NumsAt w1 b 29 (List.replicate 1 x ++ List.replicate (n - 1) 0) by rw [hb]; exact hblk)
 clear hoff hsz hO hblk
 go_wp2_with fail
 rw [<- hb]
 have HB2 := Lib.hid hb
 clear hb hcp hmk
 go_loopw [8] (fun i wr => ∃ c : Nat,0 < c /\ c <= n /\ i = .int .i64 (c : Int) /\ NumsAt wr b 29 (List.replicate c x ++ List.replicate (n - c) 0) /\ Off (fun _ => False) W wr) (fun i _ => n - (intOf i).toNat)
 case atStart => exact ⟨1,by omega,by omega,rfl,HBl.out,HO.out⟩
 case round =>
  obtain ⟨c,hc0,hcn,rfl,hN,hO⟩ := hrel
  by_cases hlt : c < n
  ·obtain ⟨t,ht⟩ : ∃ t,t = min (n - c) c := ⟨_,rfl⟩
   obtain ⟨w2,hcp,hN2,hoff,hsz⟩ := copy_rep (w := wr.drew) (NumsAt.off (w' := wr.drew) hN ((Off.refl (fun _ => False) wr).drew) (fun c => c)) hlt ht
   have HN2 := Lib.hid hN2
   have HO2 := Lib.hid ((hO.drew).trans hoff (fun k hk e => by have := HB.out; omega))
   have hs1 := slice_from_el b n n c (by omega) (by omega)
   have hs2 := slice_to_el (some ⟨b,0,none⟩) n n c (by omega)
   have hwk : IntKind.i64.wrap ((c : Int) + (t : Int)) = ((c + t : Nat) : Int) := by rw [IntKind.wrap_i64]; omega
   have hcb : (c : Int) < (n : Int) := by omega
   have htl : c + t <= n := by omega
   have ht0 : 0 < t := by omega
   clear hN hO hN2 hoff hsz ht
   go_upto_region 9 with fail
   go_region
   all_goals (go_wp2; go_roundw)
   all_goals first | exact ⟨c + t,by omega,htl,rfl,HN2.out,HO2.out⟩ | (simp [intOf]; omega)
  ·obtain rfl : c = n := by omega
   have H1 := Lib.hid (show NumsAt wr b 29 (List.replicate c x) by rw [Nat.sub_self,List.replicate_zero,List.append_nil] at hN; exact hN)
   have HO := Lib.hid hO
   clear hN hO
   go_wp2
   go_ret
   exact ⟨b,rfl,HB.out,H1.out,HO.out⟩
theorem copy_zero (b cap : Nat) (a : Option Addr) (w : World) : (Builtin.copy_ #[34,34] 3 #[.slice (some ⟨b,0,none⟩) 0 0,.slice a 1 cap]).run Tryd.prog w = .ok (.int .i64 0) w := by
 have hu := Tryd.underlying34
 have hs : (Tryd.prog.info? 29).map (·.size) = some 4 := by kernel_rfl
 cases hq : Tryd.prog.info? 29 with
 | none => simp [hq] at hs
 | some i =>
  have hl0 : ∀ (x : Addr),(loadCells x 0).run Tryd.prog w = .ok #[] w := fun x => by simpa using run_loadCells_list (P := Tryd.prog) w x [] (by simp)
  cases a <;> simp [Builtin.copy_,run_underlying hu,Builtin.lenOf,Builtin.firstCells,sizeOf,typeInfo,hq,storeCells,hl0,goInt]
set_option maxRecDepth 100000 in
set_option maxHeartbeats 4000000 in
theorem repeat_none (x : Nat) (v : Value) (w : World) (hV : Ls w v [x]) :
  Calls Tryd.prog 17 #[v,.int .i64 0] w fun e w' => ∃ b,e = .returned (.slice (some ⟨b,0,none⟩) 0 0) /\ w.heap.size <= b /\ NumsAt w' b 29 [] /\ Off (fun _ => False) w w' := by
 obtain ⟨a,cap,rfl,hL⟩ := hV.open
 have FB := Lib.hid (show ∀ W,Calls Tryd.prog 39 #[.int .u64 1,.int .u64 0] W fun e w' => e = .returned (.tuple #[.int .u64 0,.int .u64 0]) /\ w' = W from fun W => bitsmul_any 1 0 (by decide) (by decide) W)
 have hmk : ∀ W,(Instr.makeSlice 34 (.int .i64 0) (.int .i64 0)).run Tryd.prog W = .ok (.slice (some ⟨W.heap.size,0,none⟩) 0 0) (W.alloc (.cells #[] 29)) := run_make_el 0 (by omega)
 clear hL hV
 go_enter Tryd.func17,Tryd.ntmps17
 go_wp2_with fail
 refine (FB.out _).mono ?_
 rintro e W ⟨rfl,rfl⟩
 have hcp := copy_zero W.heap.size cap a (W.alloc (.cells #[] 29))
 have HBl := Lib.hid (show NumsAt (W.alloc (.cells #[] 29)) W.heap.size 29 [] from heap_new' rfl _)
 have HO := Lib.hid ((Off.refl (fun _ => False) W).alloc (.cells #[] 29))
 go_wp2_with fail
 clear hcp hmk
 go_loopw [8] (fun i wr => i = .int .i64 0 /\ NumsAt wr W.heap.size 29 [] /\ Off (fun _ => False) W wr) (fun _ _ => 0)
 case atStart => exact ⟨rfl,HBl.out,HO.out⟩
 case round =>
  obtain ⟨rfl,hN,hO⟩ := hrel
  have H1 := Lib.hid hN
  have H2 := Lib.hid hO
  clear hN hO
  go_wp2
  go_ret
  exact ⟨_,rfl,Nat.le_refl _,H1.out,H2.out⟩
theorem repeat_any (x n : Nat) (hn : n <= 1000) (v : Value) (w : World) (hV : Ls w v [x]) :
  Calls Tryd.prog 17 #[v,.int .i64 (n : Int)] w fun e w' => ∃ b,e = .returned (.slice (some ⟨b,0,none⟩) n n) /\ w.heap.size <= b /\ NumsAt w' b 29 (List.replicate n x) /\ Off (fun _ => False) w w' := by
 by_cases h : n = 0
 ·subst h; exact repeat_none x v w hV
 ·exact repeat_some x n (by omega) hn v w hV
end Go.Proofs.YtggebccgiigboaaDoor
-- squeezed
