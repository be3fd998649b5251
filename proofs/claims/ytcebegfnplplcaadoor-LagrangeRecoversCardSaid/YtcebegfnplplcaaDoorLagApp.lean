/-
  Zeros that are put behind a list of numbers of a call's own: a new list, or the same block. Conditions: the list is short.
-/
import Derived.Test.YtcebegfnplplcaaDoorPolRefer
import Derived.Test.YtcebegfnplplcaaDoorPolLists
import Derived.Test.YtcebegfnplplcaaDoorElems
import Derived.Lib.AppendZerosOnto
namespace Go.Proofs.YtcebegfnplplcaaDoor
open Go.RowKit Go.Lib
theorem zeroCells_four (k : Nat) : (Builtin.zeroCells #[.int .u64 0,.int .u64 0,.int .u64 0,.int .u64 0] k).toList = flat4 (List.replicate k 0) := by
 rw [flat4_zero]
 apply List.ext_getElem?
 intro j
 by_cases hj : j < k * 4
 ·have h4 : j % 4 = 0 ∨ j % 4 = 1 ∨ j % 4 = 2 ∨ j % 4 = 3 := by omega
  rcases h4 with h | h | h | h <;> simp [Builtin.zeroCells,hj,h]
 ·simp [Builtin.zeroCells,hj]
theorem zeros_one (k : Nat) : ∀ u ∈ flat4 (List.replicate k 0),u.oneCell' = true := by
 rw [flat4_zero]
 intro u hu
 rw [List.eq_of_mem_replicate hu]; rfl
theorem append_zeros {w : World} {B g n cap : Nat} {xs : List Nat} (h : w.ownsRow B 29 4 (.slice (some ⟨g,0,none⟩) n cap) n (flat4 xs)) (hn : n = xs.length) (k : Nat) (hk : n + k <= 1000) :
  ∃ v' w',(Builtin.append_ #[39,3] 39 #[.slice (some ⟨g,0,none⟩) n cap,.int .i64 (k : Int)]).run Tryd.prog w = .ok v' w' /\ Ls w' v' (xs ++ List.replicate k 0) /\ Off (fun j => j = g) w w' := by
 obtain ⟨i0,hi,hz0,hz1,hz2⟩ := info_parts vec_info
 have hu : Tryd.prog.underlying 3 = some (.int .i64) := Tryd.underlying3
 have hZ : (Value.agg #[.int .u64 0,.int .u64 0,.int .u64 0,.int .u64 0]).cells = #[.int .u64 0,.int .u64 0,.int .u64 0,.int .u64 0] := rfl
 obtain ⟨hxl,hcur⟩ := h
 rcases hcur with ⟨e,_⟩ | ⟨g',cap',cur,e,hB,hg,hnc,hcm,hsz,htk⟩
 ·cases e
 simp only [Value.slice.injEq,Option.some.injEq,Addr.mk.injEq,true_and,and_true] at e
 obtain ⟨rfl,rfl⟩ := e
 have hlen : (flat4 xs).length = n * 4 := hxl
 have hcell : ∀ j,w.cell? ⟨g,j,none⟩ = cur[j]? := fun j => cell_of_heap hg j
 have hls : Ls w (.slice (some ⟨g,0,none⟩) n cap) xs := Ls.of (ls_of_own ⟨hxl,.inr ⟨g,cap,cur,rfl,hB,hg,hnc,hcm,hsz,htk⟩⟩ hn (by omega))
 have off_of : ∀ w',w.grownBy w' (some g) -> Off (fun j => j = g) w w' := fun w' hgr => (Off.refl (fun j => j = g) w).grown hgr (fun j ej => by
  cases ej
  exact ⟨fun _ => rfl,fun o ho => by rw [hg] at ho; cases ho; rfl⟩)
 have hfl : flat4 (xs ++ List.replicate k 0) = flat4 xs ++ flat4 (List.replicate k 0) := flat4_append _ _
 by_cases hk0 : k = 0
 ·subst hk0
  refine ⟨.slice (some ⟨g,0,none⟩) n cap,w,?_,by rw [List.replicate_zero,List.append_nil]; exact hls,Off.refl _ w⟩
  have hw : IntKind.i64.wrap 0 = 0 := rfl
  have hz : ¬ (281474976710656 < (0 : Int)) := by omega
  simp [Builtin.append_,run_underlying Tryd.underlying39,run_underlying hu,sizeOf,typeInfo,hi,asInt,asIntOf,hw,hz,hnc,storeCells]
 ·have hw : IntKind.i64.wrap (k : Int) = k := by rw [IntKind.wrap_i64]; omega
  by_cases hroom : n + k <= cap
  ·have hzl : (flat4 (List.replicate k 0)).length = k * 4 := by rw [flat4_length,List.length_replicate]
   have hst := run_storeCells_at Tryd.prog g (n * 4) 29 (flat4 (List.replicate k 0)) 0 cur w hg (by rw [hzl,hsz]; omega) (zeros_one k)
   rw [Nat.add_zero] at hst
   obtain ⟨cur2,hc2⟩ : ∃ c,c = (cur.toList.take (n * 4) ++ flat4 (List.replicate k 0) ++ cur.toList.drop (n * 4 + (flat4 (List.replicate k 0)).length)).toArray := ⟨_,rfl⟩
   rw [<- hc2] at hst
   have hgr : w.grownBy (w.setRow g cur2) (some g) := ⟨rfl,rfl,rfl,by simp,fun k _ hk => setRow_other w g k _ (fun e => hk (by simp [e]))⟩
   refine ⟨.slice (some ⟨g,0,none⟩) (n + k) cap,w.setRow g cur2,?_,?_,off_of _ hgr⟩
   ·have h48i : ¬ (281474976710656 < (k : Int) * 32) := by omega
    have hneg : ¬ ((k : Int) < 0) := by omega
    simp [Builtin.append_,run_underlying Tryd.underlying39,run_underlying hu,sizeOf,typeInfo,zeroValue,hi,hz0,hz1,hz2,asInt,asIntOf,hw,hroom,hneg,h48i,hZ,zeroCells_four,Addr.add_lit,hst]
    intro hh; omega
   ·refine Ls.of (ls_of_own (base := B) (T := 29) ⟨by rw [hfl,List.length_append,hlen,hzl,Nat.add_mul],.inr ⟨g,cap,cur2,rfl,hB,setRow_heap w g cur _ _ _ hg,hroom,hcm,?_,?_⟩⟩ (by simp [hn]) (by omega))
    ·rw [hc2]
     simp only [List.size_toArray,List.length_append,List.length_take,List.length_drop,Array.length_toList,hzl,hsz]
     omega
    ·rw [hc2,List.toList_toArray,htk,hfl,show (n + k) * 4 = (flat4 xs ++ flat4 (List.replicate k 0)).length by rw [List.length_append,hlen,hzl,Nat.add_mul]]
     exact List.take_left
  ·have hold : (Builtin.firstCells i0.size n (.slice (some ⟨g,0,none⟩) n cap)).run Tryd.prog w.drew = .ok (flat4 xs).toArray w.drew := by
    rw [hz1]
    exact run_firstCells_some w.drew 4 n ⟨g,0,none⟩ n cap (flat4 xs) hlen (fun j u hj => by
     rw [Addr.add_lit,Nat.zero_add]
     show w.cell? ⟨g,j,none⟩ = some u
     rw [hcell j,<- Array.getElem?_toList]
     rw [<- htk] at hj
     rw [List.getElem?_take] at hj
     split at hj
     ·exact hj
     ·cases hj)
   have hcapb : (flat4 xs).length <= 100000 := by rw [hlen]; omega
   have hr := run_append_grow_zeros (P := Tryd.prog) w 39 3 39 29 i0 _ .i64 .i64 Tryd.underlying39 hu hi hz0 (some ⟨g,0,none⟩) n cap (flat4 xs) hold k (by omega) (by rw [hz1]; decide) (by omega) (by omega) (by rw [hz2]; omega) (growslice_fits (by omega) (by rw [hz2]; omega))
   rw [hZ] at hr
   refine ⟨_,_,hr,?_,?_⟩
   ·have hge := grownCap_ge w (n + k) cap 29
    have hcm2 : grownCap w (n + k) cap 29 <= maxLen := grownCap_le_maxLen w (n + k) cap 29 (by unfold maxLen; omega)
    have hzl : (flat4 (List.replicate k 0)).length = k * 4 := by rw [flat4_length,List.length_replicate]
    refine Ls.of (ls_of_own (base := w.heap.size) (T := 29) ⟨by rw [hfl,List.length_append,hlen,hzl,Nat.add_mul],.inr ⟨w.heap.size,_,_,rfl,Nat.le_refl _,heap_alloc_new w.drew _,hge,hcm2,?_,?_⟩⟩ (by simp [hn]) (by omega))
    ·simp only [Array.size_append,size_zeroCells]
     simp [hlen]
     omega
    ·simp only [Array.toList_append,zeroCells_four]
     rw [<- hfl,show (n + k) * 4 = (flat4 (xs ++ List.replicate k 0)).length by rw [hfl,List.length_append,hlen,hzl,Nat.add_mul]]
     exact List.take_left
   ·exact ((Off.refl _ w).drew).alloc _
end Go.Proofs.YtcebegfnplplcaaDoor
-- squeezed
