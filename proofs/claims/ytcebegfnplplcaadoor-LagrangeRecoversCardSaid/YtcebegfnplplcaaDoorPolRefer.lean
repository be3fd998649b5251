/-
  The statements' own form and get of layer 8 over this seat's translation. Conditions: the table of fields lies in memory as it was laid; the numbers are numbers of four words.
  Lists of numbers or elements that lie somewhere; the statements' same; the reference's Eval of layer 8. Conditions: the modulus is a number above 1 of four words, the numbers lie below it.
  The reference's Add of layer 8. Conditions: the modulus is a number above 1 of four words, the numbers lie below it, the lists are short.
-/
import Derived.Test.YtcebegfnplplcaaDoorFieldGet
import Derived.Test.YtcebegfnplplcaaDoorMontRef
import Derived.Test.YtcebegfnplplcaaDoorPolCore
import Derived.Test.YtcebegfnplplcaaDoorModAll
import Derived.Test.YtcebegfnplplcaaDoorInvTape
import Derived.Test.YtcebegfnplplcaaDoorInvAll
import Derived.Test.YtcebegfnplplcaaDoorElems
import Derived.Test.YtcebegfnplplcaaDoorFieldEq
namespace Go.Proofs.YtcebegfnplplcaaDoor
section
open Go.RowKit
attribute [local go_sem ↓] Go.wp_at_zero Go.wp_at_succ
set_option maxHeartbeats 1000000 in
theorem form8_any (p v : Nat) (hp : p < R256) (h1 : 1 < p) (hv : v < R256) (w : World) :
  Calls Tryd.prog 47 #[V p,V v] w fun e w' => e = .returned (V (fm p v)) /\ Off (fun _ => False) w w' := by
 have FF := Lib.hid (fun W => form_any p v hp h1 hv W)
 obtain ⟨m,hm⟩ : ∃ m,m = fm p v := ⟨_,rfl⟩
 rw [<- hm] at FF ⊢
 clear hp h1 hv hm
 go_enter Tryd.func47,Tryd.ntmps47
 go_wp2_with fail
 refine (FF.out _).mono ?_
 rintro e u ⟨rfl,hO⟩
 have hR : u.heap[w.heap.size + 1 + 1]? = some (.cells #[.int .u64 0,.int .u64 0,.int .u64 0,.int .u64 0] 30) := hO.heap (heap_new' (by simp) _) (fun c => c)
 obtain ⟨⟨r0,r1,r2,r3⟩,fz,lt⟩ := zero_cells hR
 have HO := Lib.hid ((((Off.refl _ w).alloc _).alloc _).alloc _ |>.trans hO (fun _ _ c => c))
 clear hR hO
 go_wp2
 refine bodyPost_ret (v := V m) (by simp [results,Tryd.results47,go_sem,r0,r1,r2,r3]) rfl ⟨rfl,?_⟩
 exact off4 HO.out (by omega) _ _ _ _
end
section
open Go.RowKit
attribute [local go_sem ↓] Go.wp_at_zero Go.wp_at_succ
/-- The slice value v holds the numbers xs,somewhere. -/
def Ls (w : World) (v : Value) (xs : List Nat) : Prop := LsAt w v xs (fun _ => True)
theorem Ls.off {w w' : World} {v : Value} {xs : List Nat} (h : Ls w v xs) (ho : Off (fun _ => False) w w') : Ls w' v xs := LsAt.off h ho (fun _ _ _ c => c)
theorem Ls.lt {w : World} {v : Value} {xs : List Nat} (h : Ls w v xs) : LsAt w v xs (fun k => k < w.heap.size /\ ¬ False) := LsAt.mono h (fun _ hk _ => ⟨hk,fun c => c⟩)
theorem Ls.of {w : World} {v : Value} {xs : List Nat} {S : Nat -> Prop} (h : LsAt w v xs S) : Ls w v xs := h.mono (fun _ _ _ => trivial)
theorem Ls.open {w : World} {v : Value} {xs : List Nat} (h : Ls w v xs) : ∃ a cap,v = .slice a xs.length cap /\ LsAt w (.slice a xs.length cap) xs (fun k => k < w.heap.size /\ ¬ False) := by
 have h2 := Ls.lt h
 obtain ⟨a,cap,hv,_⟩ := h
 exact ⟨a,cap,hv,hv ▸ h2⟩
theorem Ls.nil (w : World) : Ls w (.slice none 0 0) [] := ⟨none,0,rfl,Nat.zero_le _,fun h => by simp at h⟩
theorem Ls.of_nums {w : World} {b cap : Nat} {T : TypeId} {xs : List Nat} (h : NumsAt w b T xs) (hl : xs.length <= 100000) (k : Nat) (hk : k <= xs.length) : Ls w (.slice (some ⟨b,0,none⟩) k cap) (xs.take k) := by
 refine ⟨some ⟨b,0,none⟩,cap,by rw [List.length_take,Nat.min_eq_left hk],by rw [List.length_take]; omega,fun _ => ⟨b,0,rfl,trivial,fun j x hx => ?_⟩⟩
 rw [List.getElem?_take] at hx
 split at hx
 ·have := NumsAt.cell h hx; rw [Nat.zero_add]; exact this
 ·cases hx
theorem Ls.of_all {w : World} {b cap : Nat} {T : TypeId} {xs : List Nat} (h : NumsAt w b T xs) (hl : xs.length <= 100000) : Ls w (.slice (some ⟨b,0,none⟩) xs.length cap) xs := by
 have := Ls.of_nums (cap := cap) h hl xs.length (Nat.le_refl _)
 rwa [List.take_length] at this
/-- Slot value u holds the numbers xs once operation i has been carried out. -/
def Lk (l : Nat -> Bool) (i : Nat) (u : Value) (w : World) (xs : List Nat) : Prop := l i = true -> Ls w u xs
theorem Lk.start (i : Nat) (u : Value) (w : World) (xs : List Nat) : Lk (fun _ => false) i u w xs := fun h => by cases h
theorem Lk.new {l : Nat -> Bool} {i : Nat} {u : Value} {w : World} {xs : List Nat} (h : Ls w u xs) : Lk (upd l i) i u w xs := fun _ => h
theorem Lk.keep {l : Nat -> Bool} {i : Nat} {u : Value} {w w' : World} {xs : List Nat} (h : Lk l i u w xs) (ho : Off (fun _ => False) w w') {k : Nat} (hk : (k == i) = false) : Lk (upd l k) i u w' xs := fun hl => by
 rw [upd_k l hk] at hl; exact (h hl).off ho
/-- The same,and its block is not the one that operation j makes. -/
def Lx (l : Nat -> Bool) (i j : Nat) (u : Value) (b : Nat) (w : World) (xs : List Nat) : Prop := l i = true -> LsAt w u xs (fun k => l j = true -> k ≠ b)
theorem Lx.start (i j : Nat) (u : Value) (b : Nat) (w : World) (xs : List Nat) : Lx (fun _ => false) i j u b w xs := fun h => by cases h
theorem Lx.new {l : Nat -> Bool} {i j : Nat} {u : Value} {b : Nat} {w w' : World} {xs : List Nat} (h : LsAt w' u xs (fun k => w.heap.size <= k)) (hb : l j = true -> b < w.heap.size) (hij : (i == j) = false) : Lx (upd l i) i j u b w' xs :=
 fun _ => h.mono (fun k _ hk hj => by rw [upd_k l hij] at hj; have := hb hj; omega)
theorem Lx.made {l : Nat -> Bool} {i j : Nat} {u : Value} {b : Nat} {w : World} {o : Obj} {xs : List Nat} (h : Lx l i j u b w xs) (hji : (j == i) = false) : Lx (upd l j) i j u w.heap.size (w.alloc o) xs := fun hl => by
 rw [upd_k l hji] at hl
 have h1 : LsAt w u xs (fun k => upd l j j = true -> k ≠ w.heap.size) := (h hl).mono (fun k hk _ _ => by omega)
 exact h1.off ((Off.refl (fun _ => False) w).alloc o) (fun _ _ _ c => c)
theorem Lx.stored {l : Nat -> Bool} {i j k : Nat} {u : Value} {b : Nat} {w : World} {vs : List Value} {xs : List Nat} (h : Lx l i j u b w xs) (hj : l j = true) (hk : (k == i) = false) (hk2 : (k == j) = false) : Lx (upd l k) i j u b (w.setCells b 0 vs) xs := fun hl => by
 rw [upd_k l hk] at hl
 have h1 : LsAt w u xs (fun c => upd l k j = true -> c ≠ b) := (h hl).mono (fun c _ hs _ => hs hj)
 exact h1.off (setCells_off b vs 0 w) (fun c _ hs e => hs (by rw [upd_k l hk2]; exact hj) e)
theorem Lx.keep {l : Nat -> Bool} {i j k : Nat} {u : Value} {b : Nat} {w w' : World} {xs : List Nat} (h : Lx l i j u b w xs) (ho : Off (fun _ => False) w w') (hk : (k == i) = false) (hk2 : (k == j) = false) : Lx (upd l k) i j u b w' xs := fun hl => by
 rw [upd_k l hk] at hl
 have h1 : LsAt w u xs (fun c => upd l k j = true -> c ≠ b) := (h hl).mono (fun c _ hs hj => hs (by rw [upd_k l hk2] at hj; exact hj))
 exact h1.off ho (fun _ _ _ c => c)
theorem Slot.void {l : Nat -> Bool} {i j : Nat} {u v : Value} (h : l j = false) (hk : (i == j) = false) : Slot (upd l i) j u v := fun hl => by
 rw [upd_k l hk,h] at hl; cases hl
theorem Dep.via {l : Nat -> Bool} {i s : Nat} (h : Dep l i s) (hs : l s = true) : l i = true := by
 cases hi : l i with
 | true => rfl
 | false => rw [h hi] at hs; cases hs
theorem LsAt.at {w : World} {a : Option Addr} {n cap : Nat} {xs : List Nat} {S : Nat -> Prop} (h : LsAt w (.slice a n cap) xs S) {k : Nat} (hk : k < n) : ∃ x b off,xs[k]? = some x /\ a = some ⟨b,off,none⟩ /\ elAt w b (off + k * 4) x := by
 obtain ⟨hl,_⟩ := h.len
 have hx : xs[k]? = some xs[k] := List.getElem?_eq_getElem (by omega)
 obtain ⟨b,off,ha,_,hc⟩ := h.get hx
 exact ⟨_,b,off,hx,ha,hc⟩
/-- What the reference's Eval keeps. -/
structure EvW (w W : World) (bp p bx x rb b7 u b8 pw : Nat) : Prop where
 fp : W.heap[bp]? = some (.cells #[.int .u64 (wd p 0 : Int),.int .u64 (wd p 1 : Int),.int .u64 (wd p 2 : Int),.int .u64 (wd p 3 : Int)] 29 (0,0))
 fx : W.heap[bx]? = some (.cells #[.int .u64 (wd x 0 : Int),.int .u64 (wd x 1 : Int),.int .u64 (wd x 2 : Int),.int .u64 (wd x 3 : Int)] 29 (0,0))
 fr : W.heap[rb]? = some (.cells #[.int .u64 0,.int .u64 0,.int .u64 0,.int .u64 0] 29 (0,0))
 fo : W.heap[b7]? = some (.cells #[.int .u64 (wd u 0 : Int),.int .u64 (wd u 1 : Int),.int .u64 (wd u 2 : Int),.int .u64 (wd u 3 : Int)] 29 (0,0))
 fw : W.heap[b8]? = some (.cells #[.int .u64 (wd pw 0 : Int),.int .u64 (wd pw 1 : Int),.int .u64 (wd pw 2 : Int),.int .u64 (wd pw 3 : Int)] 29 (0,0))
 off : Off (fun _ => False) w W
end
section
open Go.RowKit
attribute [local go_sem ↓] Go.wp_at_zero Go.wp_at_succ
theorem vec_info : (Tryd.prog.info? 29).map (fun i => (i.zero,i.size,i.bytes)) = some (some (.agg #[.int .u64 0,.int .u64 0,.int .u64 0,.int .u64 0]),4,32) := by kernel_rfl
/-- The list of f's values. -/
def fL (f : Nat -> Nat) (n : Nat) : List Nat := (List.range n).map f
end
end Go.Proofs.YtcebegfnplplcaaDoor
-- squeezed
