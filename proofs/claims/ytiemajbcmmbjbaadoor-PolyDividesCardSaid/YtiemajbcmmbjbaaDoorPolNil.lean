/-
  The contracts of package poly with the nil tape, for lists that lie anywhere. Conditions: the field's constants are those of its modulus, the lists are short.
-/
import Derived.Test.YtiemajbcmmbjbaaDoorPolEval
import Derived.Test.YtiemajbcmmbjbaaDoorPolQuot
import Derived.Test.YtiemajbcmmbjbaaDoorPolAdd
import Derived.Test.YtiemajbcmmbjbaaDoorPolMul
import Derived.Test.YtiemajbcmmbjbaaDoorPolRefer
namespace Go.Proofs.YtiemajbcmmbjbaaDoor
open Go.RowKit
theorem Off.none {S : Nat → Prop} {w w' : World} (h : Off S w w') (hs : ∀ k, ¬ S k) : Off (fun _ => False) w w' := h.mono (fun k _ c => hs k c)
theorem none_lst {w : World} : ∀ b, (fun k => k < w.heap.size ∧ ¬ False) b → b < w.heap.size ∧ ¬ (fun _ : Nat => False) b := fun _ h => h
section
variable {id : Int} {p i0 r s : Nat}
theorem eval_ls (hF : Fld id p i0 r s) (vs : List Nat) (hl : vs.length ≤ 10000) (x : Nat) (v : Value) (w : World) (h : Ls w v (vs.map (fm p))) :
    Calls Tryd.prog 13 #[.pointer none, FV id p i0 r s, v, V (fm p x)] w fun e w' => e = .returned (V (fm p (pv vs x % p))) ∧ Off (fun _ => False) w w' := by
  obtain ⟨a, cap, rfl, hL⟩ := h.open
  rw [List.length_map] at hL ⊢
  refine (eval_any hF vs _ cap a rfl hl none [] (fun _ => False) _ w hL none_lst (Tp.none w) (by simp) x).mono ?_
  rintro e w' ⟨rfl, _, hO⟩
  exact ⟨rfl, hO⟩
theorem scale_ls (hF : Fld id p i0 r s) (vs : List Nat) (hl : vs.length ≤ 10000) (x : Nat) (v : Value) (w : World) (h : Ls w v (vs.map (fm p))) :
    Calls Tryd.prog 22 #[.pointer none, FV id p i0 r s, v, V (fm p x)] w fun e w' => ∃ z, e = .returned z ∧ Ls w' z ((scaL p vs x).map (fm p)) ∧ Off (fun _ => False) w w' := by
  obtain ⟨a, cap, rfl, hL⟩ := h.open
  rw [List.length_map] at hL ⊢
  refine (scale_any hF vs _ cap a rfl hl none [] (fun _ => False) _ w hL none_lst (Tp.none w) (by simp) x).mono ?_
  rintro e w' ⟨b, rfl, _, hN, _, hO⟩
  have hln : ((scaL p vs x).map (fm p)).length = vs.length := by simp [scaL]
  have := Ls.of_all (cap := vs.length) hN (by rw [hln]; omega)
  rw [hln] at this
  exact ⟨_, rfl, this, hO⟩
theorem quotient_ls (hF : Fld id p i0 r s) (vs : List Nat) (hl : vs.length ≤ 10000) (x : Nat) (v : Value) (w : World) (h : Ls w v (vs.map (fm p))) :
    Calls Tryd.prog 23 #[.pointer none, FV id p i0 r s, v, V (fm p x)] w fun e w' => ∃ z, e = .returned (.tuple #[z, V (fm p (pv vs x % p))]) ∧ LsAt w' z ((quoL p vs x).map (fm p)) (fun k => w.heap.size ≤ k) ∧ Off (fun _ => False) w w' := by
  obtain ⟨a, cap, rfl, hL⟩ := h.open
  rw [List.length_map] at hL ⊢
  refine (quotient_any hF vs _ cap a rfl hl none [] (fun _ => False) _ w hL none_lst (Tp.none w) (by simp) x).mono ?_
  rintro e w' ⟨b, rfl, hb, hN, _, hO⟩
  have hln : ((qls p vs x (List.range vs.length)).map (fm p)).length = vs.length := by rw [List.length_map, qls_length]
  have := Ls.of_nums (cap := vs.length) hN (by rw [hln]; omega) (vs.length - 1) (by rw [hln]; omega)
  rw [← List.map_take, qls_done] at this
  obtain ⟨a', cap', hv, h1, h4⟩ := this
  refine ⟨_, rfl, ⟨a', cap', hv, h1, fun hp => ?_⟩, hO⟩
  obtain ⟨b', off, ha, _, hc⟩ := h4 hp
  have e : b = b' := by rw [ha] at hv; simp at hv; exact hv.1.1
  exact ⟨b', off, ha, by omega, hc⟩
theorem add_ls (hF : Fld id p i0 r s) (vs us : List Nat) (hl : vs.length ≤ 10000) (hl2 : us.length ≤ 10000) (v u : Value) (w : World) (h : Ls w v (vs.map (fm p))) (k : Ls w u (us.map (fm p))) :
    Calls Tryd.prog 17 #[.pointer none, FV id p i0 r s, v, u] w fun e w' => ∃ z, e = .returned z ∧ Ls w' z ((sumL p vs us).map (fm p)) ∧ Off (fun _ => False) w w' := by
  obtain ⟨a, cap, rfl, hL⟩ := h.open
  obtain ⟨a2, cap2, rfl, hM⟩ := k.open
  rw [List.length_map] at hL hM ⊢
  rw [List.length_map]
  have hln : ((sumL p vs us).map (fm p)).length = max vs.length us.length := by rw [List.length_map, sumL_length]
  by_cases hc : us.length ≤ vs.length
  · refine (add_keep hF vs us _ cap _ cap2 a a2 rfl rfl hc hl none [] (fun _ => False) _ _ w hL none_lst hM (Tp.none w) (by simp)).mono ?_
    rintro e w' ⟨b, rfl, _, hN, _, hO⟩
    have := Ls.of_all (cap := vs.length) hN (by rw [hln]; omega)
    rw [hln, Nat.max_eq_left hc] at this
    exact ⟨_, rfl, this, hO⟩
  · refine (add_swap hF us vs _ cap2 _ cap a2 a rfl rfl (by omega) hl2 none [] (fun _ => False) _ _ w hM none_lst hL (Tp.none w) (by simp)).mono ?_
    rintro e w' ⟨b, rfl, _, hN, _, hO⟩
    rw [sumL_comm] at hN
    have := Ls.of_all (cap := us.length) hN (by rw [hln]; omega)
    rw [hln, Nat.max_eq_right (by omega)] at this
    exact ⟨_, rfl, this, hO⟩
theorem mulL_length (p : Nat) (vs us : List Nat) (h : 0 < vs.length) (h2 : 0 < us.length) : (mulL p vs us).length = vs.length + us.length - 1 := by
  unfold mulL; rw [if_neg (by omega), mulAll_length]
theorem mul_ls (hF : Fld id p i0 r s) (vs us : List Nat) (hl : vs.length ≤ 100) (hl2 : us.length ≤ 100) (v u : Value) (w : World) (h : Ls w v (vs.map (fm p))) (k : Ls w u (us.map (fm p))) :
    Calls Tryd.prog 19 #[.pointer none, FV id p i0 r s, v, u] w fun e w' => ∃ z, e = .returned z ∧ Ls w' z ((mulL p vs us).map (fm p)) ∧ Off (fun _ => False) w w' := by
  obtain ⟨a, cap, rfl, hL⟩ := h.open
  obtain ⟨a2, cap2, rfl, hM⟩ := k.open
  rw [List.length_map] at hL hM ⊢
  rw [List.length_map]
  by_cases hc : vs.length = 0 ∨ us.length = 0
  · refine (mul_nil _ cap _ cap2 a a2 hc none w).mono ?_
    rintro e w' ⟨rfl, hO⟩
    refine ⟨_, rfl, ?_, hO⟩
    unfold mulL; rw [if_pos hc]; exact Ls.nil w'
  · have hln : ((mulL p vs us).map (fm p)).length = vs.length + us.length - 1 := by rw [List.length_map, mulL_length p vs us (by omega) (by omega)]
    refine (mul_some hF vs us _ cap _ cap2 a a2 rfl rfl (by omega) (by omega) (Nat.le_trans (Nat.mul_le_mul hl hl2) (by decide)) (by omega) none [] (fun _ => False) _ _ w hL none_lst hM none_lst (Tp.none w) (by simp)).mono ?_
    rintro e w' ⟨b, rfl, _, hN, _, hO⟩
    have := Ls.of_all (cap := vs.length + us.length - 1) hN (by rw [hln]; omega)
    rw [hln] at this
    exact ⟨_, rfl, this, hO⟩
end
/-- A slice that is built of numbers. -/
theorem ls_build (w : World) (xs : List Nat) (hl : xs.length ≤ 100000) (T : TypeId) : Ls (w.alloc (.cells (flat4 xs).toArray T (0, 0))) (.slice (some ⟨w.heap.size, 0, none⟩) xs.length xs.length) xs :=
  Ls.of_all (T := T) (heap_new' rfl _ : NumsAt _ _ T xs) hl
end Go.Proofs.YtiemajbcmmbjbaaDoor
