/-
  Slices of ints in memory. Plain facts on worlds; no condition.
  An argument of ints, opened: whatever slice of ints the reader reads, its cells lie as IvAt says. No condition.
-/
import Derived.Test.YtggebccgiigboaaDoorOff
import Derived.Deep.Slices
import Derived.ProofKit
namespace Go.Proofs.YtggebccgiigboaaDoor
section
open Go.RowKit

/-- The slice value v holds the ints xs; its cells,where it has any,lie within S. -/
def IvAt (w : World) (v : Value) (xs : List Int) (S : Nat -> Prop) : Prop :=
 ∃ a cap,v = .slice a xs.length cap /\ xs.length <= maxLen /\ (∀ x ∈ xs,(Lit.int .i64 x).wf = true) /\ (0 < xs.length -> ∃ b off,a = some ⟨b,off,none⟩ /\ S b /\ ∀ j x,xs[j]? = some x -> w.cell? ⟨b,off + j,none⟩ = some (.int .i64 x))
theorem IvAt.off {w w' : World} {v : Value} {xs : List Int} {S S' : Nat -> Prop} (h : IvAt w v xs S) (ho : Off S' w w') (hd : ∀ k,k < w.heap.size -> S k -> ¬ S' k) : IvAt w' v xs S := by
 obtain ⟨a,cap,hv,h1,h2,h4⟩ := h
 refine ⟨a,cap,hv,h1,h2,fun hp => ?_⟩
 obtain ⟨b,off,ha,hS,hc⟩ := h4 hp
 refine ⟨b,off,ha,hS,fun j e hj => ?_⟩
 have he := hc j e hj
 exact ho.cell he (hd b (World.block_lt_of_cell? w _ he) hS)
theorem IvAt.mono {w : World} {v : Value} {xs : List Int} {S S' : Nat -> Prop} (h : IvAt w v xs S) (hs : ∀ k,k < w.heap.size -> S k -> S' k) : IvAt w v xs S' := by
 obtain ⟨a,cap,hv,h1,h2,h4⟩ := h
 refine ⟨a,cap,hv,h1,h2,fun hp => ?_⟩
 obtain ⟨b,off,ha,hS,hc⟩ := h4 hp
 refine ⟨b,off,ha,hs b ?_ hS,hc⟩
 obtain ⟨e,he⟩ : ∃ e,xs[0]? = some e := ⟨xs[0],List.getElem?_eq_getElem hp⟩
 exact World.block_lt_of_cell? w _ (hc 0 e he)
theorem IvAt.len {w : World} {a : Option Addr} {n cap : Nat} {xs : List Int} {S : Nat -> Prop} (h : IvAt w (.slice a n cap) xs S) : n = xs.length /\ n <= maxLen /\ ∀ x ∈ xs,(Lit.int .i64 x).wf = true := by
 obtain ⟨a',cap',e,h1,h2,_⟩ := h
 simp at e
 exact ⟨e.2.1,by omega,h2⟩
theorem IvAt.at {w : World} {a : Option Addr} {n cap : Nat} {xs : List Int} {S : Nat -> Prop} (h : IvAt w (.slice a n cap) xs S) {k : Nat} (hk : k < n) : ∃ x b off,xs[k]? = some x /\ a = some ⟨b,off,none⟩ /\ w.cell? ⟨b,off + k,none⟩ = some (.int .i64 x) /\ (Lit.int .i64 x).wf = true /\ S b := by
 obtain ⟨a',cap',e,h1,h2,h4⟩ := h
 simp at e
 obtain ⟨rfl,rfl,rfl⟩ := e
 obtain ⟨b,off,ha,hS,hc⟩ := h4 (by omega)
 have hx : xs[k]? = some xs[k] := List.getElem?_eq_getElem hk
 exact ⟨xs[k],b,off,hx,ha,hc k _ hx,h2 _ (List.getElem_mem _),hS⟩
/-- .. somewhere. -/
def Iv (w : World) (v : Value) (xs : List Int) : Prop := IvAt w v xs (fun _ => True)
theorem Iv.off {w w' : World} {v : Value} {xs : List Int} (h : Iv w v xs) (ho : Off (fun _ => False) w w') : Iv w' v xs := IvAt.off h ho (fun _ _ _ c => c)
theorem Iv.of {w : World} {v : Value} {xs : List Int} {S : Nat -> Prop} (h : IvAt w v xs S) : Iv w v xs := h.mono (fun _ _ _ => trivial)
theorem Iv.lt {w : World} {v : Value} {xs : List Int} (h : Iv w v xs) : IvAt w v xs (fun k => k < w.heap.size) := IvAt.mono h (fun _ hk _ => hk)
theorem Iv.open {w : World} {v : Value} {xs : List Int} (h : Iv w v xs) : ∃ a cap,v = .slice a xs.length cap /\ IvAt w (.slice a xs.length cap) xs (fun k => k < w.heap.size) := by
 have h2 := Iv.lt h
 obtain ⟨a,cap,hv,_⟩ := h
 exact ⟨a,cap,hv,hv ▸ h2⟩
end
section
open Go.RowKit Go.ChangeShapes Go.WideShapes Go.ChangeAt
theorem cells_int1 : Tryd.prog.cellsOf 3 = 1 := by kernel_rfl
theorem ints_of_trod {H : Type} {enc : TypeId × Value -> H} {w : World} {spare : Nat -> Bool} {held : Bool} {a : Option Addr} {len cap fuel : Nat} {x : DataW H × List MemPlace}
  (h : DataW.trod enc Tryd.prog w 0 spare held fuel 22 [.slice a len cap] = some x) : ∃ xs,len = xs.length /\ IvAt w (.slice a len cap) xs (fun k => k < w.heap.size) := by
 rcases open_ints Tryd.underlying22 Tryd.underlying3 cells_int1 h with ⟨hcs,_⟩ | ⟨b,l,c,zs,hcs,_,hl,hm,hz,_,hc,hw⟩
 ·simp at hcs
  obtain ⟨rfl,rfl,rfl⟩ := hcs
  exact ⟨[],rfl,none,0,rfl,Nat.zero_le _,fun _ h => (by cases h),fun h => by simp at h⟩
 ·simp at hcs
  obtain ⟨rfl,rfl,rfl⟩ := hcs
  have hlm : len <= zs.length := by rw [hz]; split <;> omega
  refine ⟨zs.take len,by rw [List.length_take,Nat.min_eq_left hlm],some b,cap,by rw [List.length_take,Nat.min_eq_left hlm],by rw [List.length_take]; omega,fun x hx => hw x (List.mem_of_mem_take hx),fun hp => ?_⟩
  rw [List.length_take,Nat.min_eq_left hlm] at hp
  obtain ⟨bb,off,spot⟩ := b
  have h0 := hc 0 (by omega)
  have hspot : spot = none := by simpa [Addr.add] using World.cell?_spot h0
  subst hspot
  rw [Addr.add_lit] at h0
  refine ⟨bb,off,rfl,World.block_lt_of_cell? w ⟨bb,off + 0,none⟩ h0,fun j e hj => ?_⟩
  rw [List.getElem?_take] at hj
  split at hj
  ·next hjl =>
   have := hc j (by omega)
   rw [Addr.add_lit,List.getD_eq_getElem?_getD,hj] at this
   exact this
  ·cases hj
end
end Go.Proofs.YtggebccgiigboaaDoor
-- squeezed
