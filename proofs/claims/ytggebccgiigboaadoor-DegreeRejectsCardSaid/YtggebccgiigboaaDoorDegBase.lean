/-
  Degrees of interpolated polynomials: the coefficients from an index on are 0 exactly if a shorter polynomial passes through all points. Plain facts; conditions as written.
  Slices up to a number, of ints, numbers and elements. Condition: the number is at most the capacity.
-/
import Derived.Test.YtggebccgiigboaaDoorLagMath
import Derived.Test.YtggebccgiigboaaDoorElems
import Derived.Test.YtggebccgiigboaaDoorPolRefer
import Derived.Test.YtggebccgiigboaaDoorIntAll
namespace Go.Proofs.YtggebccgiigboaaDoor
section

/-- Whether the numbers from the index K on are 0. -/
def lowV (cs : List Nat) (K : Nat) : Bool := (cs.drop K).all (· == 0)
/-- Whether the polynomial through the first K points passes through all. -/
def fitV (p : Nat) (xs ys : List Nat) (K : Nat) : Bool := (List.range xs.length).all (fun j => pv (itpL p (xs.take K) (ys.take K)) (xs.getD j 0) % p == ys.getD j 0)
theorem lowV_iff (cs : List Nat) (K : Nat) : lowV cs K = true ↔ ∀ i,K <= i -> cs.getD i 0 = 0 := by
 unfold lowV
 rw [List.all_eq_true]
 constructor
 ·intro h i hi
  rw [List.getD_eq_getElem?_getD]
  cases e : cs[i]? with
  | none => rfl
  | some v =>
   have hm : v ∈ cs.drop K := by
    have h2 : (cs.drop K)[i - K]? = some v := by rw [List.getElem?_drop,show K + (i - K) = i by omega,e]
    exact List.mem_of_getElem? h2
   simpa using h v hm
 ·intro h v hv
  obtain ⟨j,hj⟩ := List.getElem?_of_mem hv
  rw [List.getElem?_drop] at hj
  have := h (K + j) (by omega)
  rw [List.getD_eq_getElem?_getD,hj] at this
  simpa using this
theorem pv_zero (a : Nat) : ∀ k,pv (List.replicate k 0) a = 0
 | 0 => rfl
 | k + 1 => by
  show 0 + a * pv (List.replicate k 0) a = 0
  rw [pv_zero a k]; simp
theorem pv_more (c : List Nat) (k a : Nat) : pv (c ++ List.replicate k 0) a = pv c a := by rw [pv_append,pv_zero]; simp
theorem low_split {cs : List Nat} {K : Nat} (h : lowV cs K = true) : cs = cs.take K ++ List.replicate (cs.length - K) 0 := by
 apply List.ext_getElem?
 intro i
 by_cases hi : i < K
 ·by_cases hl : i < cs.length
  ·rw [List.getElem?_append_left (by rw [List.length_take]; omega),List.getElem?_take,if_pos hi]
  ·rw [List.getElem?_eq_none (by omega),List.getElem?_eq_none (by rw [List.length_append,List.length_take,List.length_replicate]; omega)]
 ·by_cases hl : i < cs.length
  ·have h2 := (lowV_iff cs K).1 h i (by omega)
   rw [List.getD_eq_getElem?_getD,List.getElem?_eq_getElem hl] at h2
   rw [List.getElem?_append_right (by rw [List.length_take]; omega),List.length_take,List.getElem?_replicate,if_pos (by omega),List.getElem?_eq_getElem hl]
   simpa using h2
  ·rw [List.getElem?_eq_none (by omega),List.getElem?_eq_none (by rw [List.length_append,List.length_take,List.length_replicate]; omega)]
theorem take_getD (xs : List Nat) {j K : Nat} (h : j < K) : (xs.take K).getD j 0 = xs.getD j 0 := by
 rw [List.getD_eq_getElem?_getD,List.getD_eq_getElem?_getD,List.getElem?_take,if_pos h]
theorem apart_take {p : Nat} {xs : List Nat} (h : Apart p xs) (K : Nat) : Apart p (xs.take K) := by
 intro i k hi hk hne
 rw [List.length_take] at hi hk
 rw [take_getD xs (by omega),take_getD xs (by omega)]
 exact h i k (by omega) (by omega) hne
theorem low_of_values {p : Nat} (h1 : 1 < p) (hf : Fer p) (xs : List Nat) (hx : ∀ x ∈ xs,x < p) (h : Apart p xs) (c : List Nat) (hc : ∀ v ∈ c,v < p) (ys : List Nat) (hy : ∀ j,j < xs.length -> ys.getD j 0 % p = pv c (xs.getD j 0) % p) {K : Nat} (hK : c.length <= K) : lowV (itpL p xs ys) K = true := by
 have hlen : (itpL p xs ys).length = xs.length := itpF_length p xs ys _ (Nat.le_refl _)
 by_cases hl : c.length <= xs.length
 ·rw [itp_values h1 hf xs hx h c hc hl ys hy,lowV_iff]
  intro i hi
  rw [List.getD_eq_getElem?_getD,List.getElem?_append_right (by omega),List.getElem?_replicate]
  split <;> rfl
 ·rw [lowV_iff]
  intro i hi
  rw [List.getD_eq_getElem?_getD,List.getElem?_eq_none (by omega)]; rfl
theorem low_long {p : Nat} (xs ys : List Nat) {K : Nat} (hK : xs.length <= K) : lowV (itpL p xs ys) K = true := by
 have hlen : (itpL p xs ys).length = xs.length := itpF_length p xs ys _ (Nat.le_refl _)
 rw [lowV_iff]
 intro i hi
 rw [List.getD_eq_getElem?_getD,List.getElem?_eq_none (by omega)]; rfl
theorem low_fit {p : Nat} (h1 : 1 < p) (hf : Fer p) (xs : List Nat) (hx : ∀ x ∈ xs,x < p) (h : Apart p xs) (ys : List Nat) (hy : ∀ y ∈ ys,y < p) (K : Nat) : lowV (itpL p xs ys) K = fitV p xs ys K := by
 have hlen : (itpL p xs ys).length = xs.length := itpF_length p xs ys _ (Nat.le_refl _)
 have hyl : ∀ j,ys.getD j 0 < p := fun j => getD_lt (by omega) hy j
 rw [Bool.eq_iff_iff]
 constructor
 ·intro hd
  have hs := low_split hd
  have hv : ∀ a,pv (itpL p xs ys) a = pv ((itpL p xs ys).take K) a := fun a => by
   have e : pv (itpL p xs ys) a = pv ((itpL p xs ys).take K ++ List.replicate ((itpL p xs ys).length - K) 0) a := congrArg (fun l => pv l a) hs
   rw [e,pv_more]
  have hc : itpL p (xs.take K) (ys.take K) = (itpL p xs ys).take K := by
   have hi := itp_values h1 hf (xs.take K) (fun x hm => hx x (List.mem_of_mem_take hm)) (apart_take h K) ((itpL p xs ys).take K) (fun v hm => itpF_lt (by omega) xs ys _ v (List.mem_of_mem_take hm)) (by rw [List.length_take,List.length_take,hlen]; exact Nat.le_refl _) (ys.take K) (fun j hj => by
    rw [List.length_take] at hj
    rw [take_getD ys (by omega),take_getD xs (by omega),<- hv,pv_itp h1 hf xs ys hx h (by omega)])
   rw [hi,List.length_take,List.length_take,hlen,Nat.sub_self,List.replicate_zero,List.append_nil]
  unfold fitV
  rw [List.all_eq_true]
  intro j hj
  rw [List.mem_range] at hj
  rw [hc,<- hv,pv_itp h1 hf xs ys hx h hj,Nat.mod_eq_of_lt (hyl j)]
  exact beq_self_eq_true _
 ·intro hd
  unfold fitV at hd
  rw [List.all_eq_true] at hd
  have hcl : (itpL p (xs.take K) (ys.take K)).length = (xs.take K).length := itpF_length p _ _ _ (Nat.le_refl _)
  refine low_of_values h1 hf xs hx h (itpL p (xs.take K) (ys.take K)) (itpF_lt (by omega) _ _ _) ys (fun j hj => ?_) (by rw [hcl,List.length_take]; omega)
  have := hd j (List.mem_range.2 hj)
  rw [beq_iff_eq] at this
  rw [this,Nat.mod_eq_of_lt (hyl j)]
theorem erase_getD (xs : List Nat) (i j : Nat) : (xs.eraseIdx i).getD j 0 = xs.getD (if j < i then j else j + 1) 0 := by
 rw [List.getD_eq_getElem?_getD,List.getD_eq_getElem?_getD,List.getElem?_eraseIdx]
 split <;> rfl
/-- Ones but for one value: they lie on a shorter polynomial exactly if that value is one,too. -/
theorem low_changed {p : Nat} (h1 : 1 < p) (hf : Fer p) (xs : List Nat) (hx : ∀ x ∈ xs,x < p) (h : Apart p xs) (hn : 2 <= xs.length) {i : Nat} (hi : i < xs.length) {d : Nat} (hd : d < p) (ys : List Nat) (hy : ∀ j,j < xs.length -> ys.getD j 0 % p = (if j = i then 1 + d else 1) % p) : lowV (itpL p xs ys) (xs.length - 1) = decide (d = 0) := by
 have hlen : (itpL p xs ys).length = xs.length := itpF_length p xs ys _ (Nat.le_refl _)
 rw [Bool.eq_iff_iff,decide_eq_true_iff]
 constructor
 ·intro hl
  have hv : ∀ a,pv (itpL p xs ys) a = pv ((itpL p xs ys).take (xs.length - 1)) a := fun a => by
   have e : pv (itpL p xs ys) a = pv ((itpL p xs ys).take (xs.length - 1) ++ List.replicate ((itpL p xs ys).length - (xs.length - 1)) 0) a := congrArg (fun l => pv l a) (low_split hl)
   rw [e,pv_more]
  have he : (xs.eraseIdx i).length = xs.length - 1 := by rw [List.length_eraseIdx,if_pos hi]
  have hap : Apart p (xs.eraseIdx i) := by
   intro a b ha hb hne
   rw [he] at ha hb
   rw [erase_getD,erase_getD]
   refine h _ _ ?_ ?_ ?_ <;> split <;> (try split) <;> omega
  have ho := pv_only h1 hf (xs.eraseIdx i) (fun x hm => hx x (List.mem_of_mem_eraseIdx hm)) hap (xs.length - 1) (by omega) ((itpL p xs ys).take (xs.length - 1)) [1] (by rw [List.length_take]; omega) (by simp; omega) (fun j hj => by
   rw [erase_getD,<- hv]
   have hjl : (if j < i then j else j + 1) < xs.length := by split <;> omega
   have hji : ¬ (if j < i then j else j + 1) = i := by split <;> omega
   rw [pv_itp h1 hf xs ys hx h hjl,hy _ hjl,if_neg hji]
   simp [pv])
  have hat : pv (itpL p xs ys) (xs.getD i 0) % p = 1 % p := by
   rw [hv]
   have e : (itpL p xs ys).take (xs.length - 1) = [1] ++ List.replicate (xs.length - 2) 0 := by
    apply ext_getD (by rw [List.length_take]; simp; omega)
    intro k hk
    have := ho k
    have hb : ((itpL p xs ys).take (xs.length - 1)).getD k 0 < p := getD_lt (by omega) (fun v hm => itpF_lt (by omega) xs ys _ v (List.mem_of_mem_take hm)) k
    rw [Nat.mod_eq_of_lt hb] at this
    rw [this]
    cases k with
    | zero => simp [Nat.mod_eq_of_lt h1]
    | succ k =>
     rw [List.getD_eq_getElem?_getD,List.getD_eq_getElem?_getD,List.getElem?_append_right (by simp),List.getElem?_replicate]
     simp
     split <;> simp
   rw [e,pv_more]; simp [pv]
  rw [pv_itp h1 hf xs ys hx h hi,hy i hi,if_pos rfl] at hat
  by_cases h0 : d = 0
  ·exact h0
  ·exfalso
   by_cases h2 : 1 + d = p
   ·rw [h2,Nat.mod_self,Nat.mod_eq_of_lt h1] at hat; omega
   ·rw [Nat.mod_eq_of_lt (show 1 + d < p by omega),Nat.mod_eq_of_lt h1] at hat; omega
 ·intro h0
  subst h0
  refine low_of_values h1 hf xs hx h [1] (by simpa using h1) ys (fun j hj => ?_) (by simp; omega)
  rw [hy j hj]
  simp [pv]
end
section
open Go.RowKit
theorem addr_zero (a : Addr) : a.add 0 = a := by unfold Addr.add; split <;> simp_all
theorem slice_to (T : TypeId) (hu : Tryd.prog.underlying T = some (.slice (Tryd.prog.elem T))) (s : Nat) (hs : ∀ W,(sizeOf (Tryd.prog.elem T)).run Tryd.prog W = .ok s W) (a : Option Addr) (n cap k : Nat) (hk : k <= cap) (W : World) :
  (Instr.slice T (.slice a n cap) none (some (.int .i64 (k : Int))) none).run Tryd.prog W = .ok (.slice a k cap) W := by
 rw [run_slice_h W T _ _ _ hu .i64 _ (by omega) (by omega),hs]
 cases a <;> simp [Result.andThen,sliced,addr_zero]
theorem slice_to_int (a : Option Addr) (n cap k : Nat) (hk : k <= cap) (W : World) : (Instr.slice 22 (.slice a n cap) none (some (.int .i64 (k : Int))) none).run Tryd.prog W = .ok (.slice a k cap) W := by
 have he : Tryd.prog.elem 22 = 3 := by simp [Program.elem,Tryd.underlying22]
 exact slice_to _ (by rw [he]; exact Tryd.underlying22) _ (by rw [he]; exact Tryd.sizeOf3) a n cap k hk W
theorem slice_to_vec (a : Option Addr) (n cap k : Nat) (hk : k <= cap) (W : World) : (Instr.slice 23 (.slice a n cap) none (some (.int .i64 (k : Int))) none).run Tryd.prog W = .ok (.slice a k cap) W := by
 have he : Tryd.prog.elem 23 = 28 := by simp [Program.elem,Tryd.underlying23]
 exact slice_to _ (by rw [he]; exact Tryd.underlying23) _ (by rw [he]; exact Tryd.sizeOf28) a n cap k hk W
theorem slice_to_el (a : Option Addr) (n cap k : Nat) (hk : k <= cap) (W : World) : (Instr.slice 34 (.slice a n cap) none (some (.int .i64 (k : Int))) none).run Tryd.prog W = .ok (.slice a k cap) W := by
 have he : Tryd.prog.elem 34 = 29 := by simp [Program.elem,Tryd.underlying34]
 exact slice_to _ (by rw [he]; exact Tryd.underlying34) _ (by rw [he]; exact Tryd.sizeOf29) a n cap k hk W
theorem Ls.take {w : World} {a : Option Addr} {n cap : Nat} {xs : List Nat} (h : Ls w (.slice a n cap) xs) (m : Nat) (hm : m <= n) : Ls w (.slice a m cap) (xs.take m) := by
 obtain ⟨a',cap',hv,h1,h4⟩ := h
 cases hv
 refine ⟨a,cap,by rw [List.length_take,Nat.min_eq_left hm],by rw [List.length_take]; omega,fun hp => ?_⟩
 rw [List.length_take] at hp
 obtain ⟨b,off,ha,hS,hc⟩ := h4 (by omega)
 refine ⟨b,off,ha,hS,fun j x hj => hc j x ?_⟩
 rw [List.getElem?_take] at hj
 split at hj
 ·exact hj
 ·cases hj
theorem Iv.take {w : World} {a : Option Addr} {n cap : Nat} {xs : List Int} (h : Iv w (.slice a n cap) xs) (m : Nat) (hm : m <= n) : Iv w (.slice a m cap) (xs.take m) := by
 obtain ⟨a',cap',hv,h1,hw,h4⟩ := h
 cases hv
 refine ⟨a,cap,by rw [List.length_take,Nat.min_eq_left hm],by rw [List.length_take]; omega,fun x hx => hw x (List.mem_of_mem_take hx),fun hp => ?_⟩
 rw [List.length_take] at hp
 obtain ⟨b,off,ha,hS,hc⟩ := h4 (by omega)
 refine ⟨b,off,ha,hS,fun j x hj => hc j x ?_⟩
 rw [List.getElem?_take] at hj
 split at hj
 ·exact hj
 ·cases hj
end
end Go.Proofs.YtggebccgiigboaaDoor
-- squeezed
