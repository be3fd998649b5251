/-
  Multiply as a whole; transforms of zeros; the examples of the chapter (alive). Condition: the tables of the coefficients are as they are laid.
-/
import Derived.Test.YtghacjhempmejaaDoorDftOk
import Derived.Test.YtghacjhempmejaaDoorIntsEq
namespace Go.Proofs.YtghacjhempmejaaDoor
open Go.RowKit Ieee
set_option maxRecDepth 100000
set_option linter.unusedVariables false
set_option maxHeartbeats 4000000
theorem mult_full (la lb : List Int) (n1 n2 cap1 cap2 : Nat) (a1 a2 : Option Addr) (hn1 : n1 = la.length) (hn2 : n2 = lb.length) (w : World) (hV : Iv w (.slice a1 n1 cap1) la) (hU : Iv w (.slice a2 n2 cap2) lb) (hT : TabAt w) :
    Calls Tryd.prog 9 #[.slice a1 n1 cap1, .slice a2 n2 cap2] w fun e w' => ∃ u, e = .returned (.tuple #[u, .int .i64 (mulE la lb)]) ∧ Iv w' u (mulP la lb) ∧ Off (fun _ => False) w w' := by
  refine mult_any la lb (fun hE p1 p2 => ?_) n1 n2 cap1 cap2 a1 a2 hn1 hn2 w hV hU hT
  have hl : ¬ (64 < la.length ∨ 64 < lb.length) := fun c => by unfold mulE at hE; rw [if_pos c] at hE; cases hE
  have ho : ¬ (oobC la = true ∨ oobC lb = true) := fun c => by unfold mulE at hE; rw [if_neg hl, if_pos c] at hE; cases hE
  have oa : oobC la = false := by rw [← Bool.not_eq_true]; exact fun c => ho (.inl c)
  have ob : oobC lb = false := by rw [← Bool.not_eq_true]; exact fun c => ho (.inr c)
  have h128 : la.length + lb.length - 1 - 1 < 128 := by omega
  have h1 := lenN_le (la.length + lb.length - 1 - 1)
  have h2 := lenN_lt h128
  exact mulok la lb (oob_all oa) (oob_all ob) (by omega) (by omega) p1 p2 _ (by omega) (by omega)
theorem zero_fc : FCz (0, 0) CQ.zero := ⟨fr_zero, fr_zero⟩
theorem zeros_get {n j : Nat} : (List.replicate n ((0, 0) : Nat × Nat)).getD j (0, 0) = (0, 0) := by
  rw [List.getD_eq_getElem?_getD, List.getElem?_replicate]
  split <;> rfl
theorem zeros_near {e : Nat} (he : e < 9) : okF e (List.replicate (pw e) (0, 0)) ∧ ∀ k, k < pw e → ∃ z, FCz ((fftW e (List.replicate (pw e) (0, 0))).getD k (0, 0)) z ∧ Nr z ((2 : Rat) ^ 1) := by
  have hz : ∀ j : Nat, j < pw e → Nr CQ.zero ((2 : Rat) ^ 0) := fun j _ => Nr.zero.mono (by decide +kernel)
  obtain ⟨h1, h2⟩ := fft_near e he 0 (by omega) (List.replicate (pw e) (0, 0)) (fun _ => CQ.zero) (by simp) (fun j hj => by rw [zeros_get]; exact zero_fc) hz
  refine ⟨h1, fun k hk => ?_⟩
  obtain ⟨z, fz, cz⟩ := h2 k hk
  have e0 : trZ (pw e) (cN e) (fun _ => CQ.zero) (pw e) k = CQ.zero := by
    unfold trZ
    rw [sumC_congr (fun j _ => CQ.zero_mul _), sumC_zero]
  rw [e0] at cz
  refine ⟨z, fz, (cz.nr Nr.zero).mono ?_⟩
  have := erE_small he 0
  rw [show (2 : Rat) ^ 0 = 1 by decide +kernel] at this
  rw [show (2 : Rat) ^ 1 = 2 by decide +kernel]
  grind
theorem okI_of {e : Nat} (he : e < 9) {M : List (Nat × Nat)} {K : Nat} (hK : K ≤ 900) (h : ∀ k, k < pw e → ∃ z, FCz (M.getD k (0, 0)) z ∧ Nr z ((2 : Rat) ^ K)) : okI e M := fun k hk => by
  obtain ⟨z, fz, nz⟩ := h k hk
  obtain ⟨_, _, d1, _⟩ := div_near he fz.1 K hK nz.1
  obtain ⟨_, _, d2, _⟩ := div_near he fz.2 K hK nz.2
  rw [d1, d2]; exact ⟨rfl, rfl⟩
/-- Words that are close, by what they stand for. -/
def closeP (x y : Nat) : Bool := match num200 x, num200 y with | some V, some W => Nat.ble (V - W).natAbs 766247770432944429179173513575154591809369561091801088 | _, _ => false
def closeB (x y : Nat × Nat) : Bool := closeP x.1 y.1 && closeP x.2 y.2
theorem closeP_ab {x y : Nat} (h : closeP x y = true) : ∃ a b : Rat, FR x a ∧ FR y b ∧ Ab (a - b) (1 / 2097152) := by
  unfold closeP at h
  split at h
  · rename_i V W hV hW
    rw [Nat.ble_eq] at h
    refine ⟨_, _, fr_num hV, fr_num hW, ?_⟩
    have hp := p200_pos
    have a := ab_int h hp
    rw [Rat.intCast_sub] at a
    have e1 : ((V : Rat) - (W : Rat)) / (p200 : Nat) = (V : Rat) / (p200 : Nat) - (W : Rat) / (p200 : Nat) := by grind
    rw [e1] at a
    refine a.mono ?_
    have e2 : ((766247770432944429179173513575154591809369561091801088 : Nat) : Rat) / (p200 : Nat) = 1 / 2097152 := by
      have e3 : ((p200 : Nat) : Rat) = ((766247770432944429179173513575154591809369561091801088 : Nat) : Rat) * 2097152 := by
        rw [show p200 = 766247770432944429179173513575154591809369561091801088 * 2097152 by decide +kernel, Rat.natCast_mul]; rfl
      have e4 : (0 : Rat) < ((766247770432944429179173513575154591809369561091801088 : Nat) : Rat) := by decide +kernel
      rw [e3]
      generalize ((766247770432944429179173513575154591809369561091801088 : Nat) : Rat) = q at *
      grind
    rw [e2]; exact Rat.le_refl
  · cases h
theorem closeB_is {x y : Nat × Nat} (h : closeB x y = true) : Close x y := by
  unfold closeB at h
  rw [Bool.and_eq_true] at h
  obtain ⟨a, c, h1, h2, h3⟩ := closeP_ab h.1
  obtain ⟨b, d, k1, k2, k3⟩ := closeP_ab h.2
  exact ⟨a, b, c, d, ⟨h1, k1⟩, ⟨h2, k2⟩, h3, k3⟩
def four : List (Nat × Nat) := [(4607182418800017408, 0), (0, 4607182418800017408), (13830554455654793216, 0), (0, 13830554455654793216)]
theorem four_close : zipAll closeB (rootsL 2) four = true := by decide +kernel
theorem iv_lit {W : World} {b n : Nat} {L : List Int} (h : W.heap[b]? = some (.cells (iCells L) 3)) (hn : n = L.length) (hl : n ≤ 1000) (hw : ∀ x ∈ L, x.natAbs ≤ 500000000000) {W' : World} (ho : Off (fun _ => False) W W') : Iv W' (.slice (some ⟨b, 0, none⟩) n n) L := (iv_blk h hn hl hw).off ho
theorem zeros2 (W : World) : Cs (W.alloc (.cells (Array.replicate 2 (Value.complex .f64 0 0)) 34)) (.slice (some ⟨W.heap.size, 0, none⟩) 2 2) (List.replicate (pw 1) (0, 0)) :=
  cs_blk (S := fun _ => True) (show (W.alloc (.cells (Array.replicate 2 (Value.complex .f64 0 0)) 34)).heap[W.heap.size]? = some (.cells (cCells (List.replicate (pw 1) (0, 0))) 34) from heap_new' rfl _) rfl (by decide) trivial
theorem alive_any (w : World) (hT : TabAt w) :
    Calls Tryd.prog 11 #[] w fun e w' => e = .returned (.bool true) ∧ Off (fun _ => False) w w' := by
  have o1 : Off (fun _ => False) w (w.alloc (.cells #[.int .i64 1, .int .i64 2] 3)) := (Off.refl _ w).alloc _
  have o2 : Off (fun _ => False) w ((w.alloc (.cells #[.int .i64 1, .int .i64 2] 3)).alloc (.cells #[.int .i64 3, .int .i64 4] 3)) := o1.alloc _
  have hM := mult_full [1, 2] [3, 4] 2 2 2 2 (some ⟨w.heap.size, 0, none⟩) (some ⟨w.heap.size + 1, 0, none⟩) rfl rfl ((w.alloc (.cells #[.int .i64 1, .int .i64 2] 3)).alloc (.cells #[.int .i64 3, .int .i64 4] 3))
    (iv_lit (L := [1, 2]) (heap_new' (w := w) rfl _) rfl (by decide) (by decide) ((Off.refl _ _).alloc _)) (iv_lit (L := [3, 4]) (heap_new' (by rw [World.size_alloc]) _) rfl (by decide) (by decide) (Off.refl _ _)) (hT.off o2)
  rw [show mulE [1, 2] [3, 4] = 0 by decide, show mulP [1, 2] [3, 4] = [3, 10, 8] by decide] at hM
  have HT := Lib.hid hT
  have HO2 := Lib.hid o2
  have HR := Lib.hid (fun W => roots_any 2 (by decide) W)
  have HTr := Lib.hid (fun v W c => trans_any 1 (by decide) (List.replicate (pw 1) (0, 0)) rfl (zeros_near (e := 1) (by decide)).1 v W c)
  have HIn := Lib.hid (fun v W c => inverse_any 1 (by decide) (List.replicate (pw 1) (0, 0)) rfl (zeros_near (e := 1) (by decide)).1 (okI_of (e := 1) (by decide) (K := 1) (by decide) (zeros_near (e := 1) (by decide)).2) v W c)
  have HEq := Lib.hid (fun v1 v2 W => intseq_any [3, 10, 8] (by decide) v1 v2 W)
  have HAll := Lib.hid (fun v1 v2 W => all_close (rootsL 2) four rfl (fun j x y hx hy => closeB_is (zipAll_get four_close hx hy)) v1 v2 W)
  have hmk : ∀ W, (Instr.makeSlice 30 (.int .i64 2) (.int .i64 2)).run Tryd.prog W = .ok (.slice (some ⟨W.heap.size, 0, none⟩) 2 2) (W.alloc (.cells (Array.replicate 2 (Value.complex .f64 0 0)) 34)) := run_make_com 2 (by omega)
  clear hT o1 o2
  go_enter Tryd.func11, Tryd.ntmps11
  go_wp2_with first | (go_at_call 9; refine hM.mono ?_; rintro r w1 ⟨u, rfl, hu, hO1⟩; have HO1 := Lib.hid (HO2.out.trans hO1 (fun _ _ c => c)); have HQ := Lib.hid (HEq.out u (.slice (some ⟨w1.heap.size, 0, none⟩) 3 3) (w1.alloc (.cells #[.int .i64 3, .int .i64 10, .int .i64 8] 3)) (Iv.off hu ((Off.refl _ w1).alloc _)) (iv_lit (L := [3, 10, 8]) (heap_new' rfl _) rfl (by decide) (by decide) (Off.refl _ _))); clear hu hO1 hM HO2 HEq) | (go_at_call 12; refine HQ.out.mono ?_; rintro r w2 ⟨rfl, hO2⟩; have HO2 := Lib.hid ((HO1.out.alloc _).trans hO2 (fun _ _ c => c)); clear hO2 HQ HO1) | (go_at_call 13; refine (HR.out _ (HT.out.off HO2.out)).mono ?_; rintro r w3 ⟨g, rfl, hg, hL3, hO3⟩; have HO3 := Lib.hid (HO2.out.trans hO3 (fun _ _ c => c)); have HA := Lib.hid (HAll.out (.slice (some ⟨g, 0, none⟩) 4 4) (.slice (some ⟨w3.heap.size, 0, none⟩) 4 4) (w3.alloc (.cells (cCells four) 34)) (Cs.off (cs_blk (S := fun _ => True) hL3 rfl (by decide) trivial) ((Off.refl _ w3).alloc _)) (cs_blk (S := fun _ => True) (heap_new' rfl _) rfl (by decide) trivial)); clear hg hL3 hO3 HO2 HAll HR) | (go_at_call 19; refine HA.out.mono ?_; rintro r w4 ⟨rfl, hO4⟩; have HO4 := Lib.hid ((HO3.out.alloc _).trans hO4 (fun _ _ c => c)); clear hO4 HA HO3) | (go_at_call 18; refine (HTr.out _ _ (zeros2 _) (HT.out.off (HO4.out.alloc _))).mono ?_; rintro r w5 ⟨g5, rfl, hg5, hL5, hO5⟩; have HO5 := Lib.hid ((HO4.out.alloc _).trans hO5 (fun _ _ c => c)); clear hg5 hL5 hO5 HO4 HTr) | (go_at_call 17; refine (HIn.out _ _ (zeros2 _) (HT.out.off (HO5.out.alloc _))).mono ?_; rintro r w6 ⟨g6, rfl, hg6, hL6, hO6⟩; have HO6 := Lib.hid ((HO5.out.alloc _).trans hO6 (fun _ _ c => c)); clear hg6 hL6 hO6 HO5 HIn) | fail
  go_ret
  exact ⟨rfl, HO6.out⟩
end Go.Proofs.YtghacjhempmejaaDoor
