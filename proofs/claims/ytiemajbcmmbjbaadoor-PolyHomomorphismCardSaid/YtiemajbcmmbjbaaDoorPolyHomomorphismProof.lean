/-
  For every field, two polynomials and number, the examples of the chapter hold, and the value of the sum and of the product is the sum and the product of the values: the statement of P8.1, P8.2 and P8.5. No condition.
-/
import Derived.Test.YtiemajbcmmbjbaaDoorRows
import Derived.Test.YtiemajbcmmbjbaaDoorTie
import Derived.Test.YtiemajbcmmbjbaaDoorCards
import Derived.LaidMore
import Derived.LaidHandle
import Derived.SevenTiedAt
import Derived.Stop.Joined
import Derived.JoinedOf
import Derived.Test.YtiemajbcmmbjbaaDoorLimbWords
import Derived.Test.YtiemajbcmmbjbaaDoorVecOpen
import Derived.Test.YtiemajbcmmbjbaaDoorFieldTab
import Derived.Test.YtiemajbcmmbjbaaDoorFieldHeld
import Derived.Test.YtiemajbcmmbjbaaDoorPolAlive
import Derived.Test.YtiemajbcmmbjbaaDoorPowRef
import Derived.WalkKit
import Derived.ProofKit
import Derived.OpenShut
import Derived.ShutString
import Derived.ChangeOld
import Derived.Below
namespace Go.Proofs.YtiemajbcmmbjbaaDoor.polyHomomorphism
open Go.ChangeShapes Go.WideShapes Go.ChangeAt Go.RowKit
set_option linter.unusedVariables false

theorem own : ownKnob Tryd.prog.godebug = none := by kernel_rfl
theorem laidOut : laidOutB Tryd.prog = true := by kernel_rfl

theorem fld_odd {id : Int} {p i r s : Nat} (hF : Fld id p i r s) : p % 2 = 1 := by
  rcases modN_of hF.mp.one hF.mod with ⟨_, h⟩ | ⟨_, h⟩ <;> rw [h] <;> decide +kernel
theorem mods_lt {p : Nat} (h : 0 < p) (xs : List Nat) : ∀ v ∈ xs.map (· % p), v < p := by
  intro v hv
  obtain ⟨x, _, rfl⟩ := List.mem_map.1 hv
  exact Nat.mod_lt _ h
set_option maxRecDepth 100000 in
set_option maxHeartbeats 4000000 in
theorem walk (i0 : Bool) (a1 : Option Addr) (n1 cap1 : Nat) (xs1 : List Nat) (b1 : Option Addr) (m1 dap1 : Nat) (ys1 : List Nat) (n2 : Nat) (w : World) (w0 : True) (w1 : n1 = xs1.length ∧ m1 = ys1.length ∧ VsAt w (.slice a1 n1 cap1) xs1 (fun k => k < w.heap.size) ∧ VsAt w (.slice b1 m1 dap1) ys1 (fun k => k < w.heap.size)) (w2 : n2 < R256) (hT : TabAt w) :
    Calls Tryd.prog 8 #[.bool i0, .agg #[.slice a1 n1 cap1, .slice b1 m1 dap1], V n2] w fun e w' => e = .returned (.bool true) ∧ Off (fun _ => False) w w' := by
  obtain ⟨id, p, i, r, s, hF, hid⟩ := fld_of i0
  have hp := hF.mp.lt
  have h1 := hF.mp.one
  have hp0 : 0 < p := by omega
  have FG := Lib.hid (fun W hT => get8_any i0 hF hid W hT)
  have FAL : Hid (∀ W, TabAt W → Calls Tryd.prog 9 #[] W fun e w' => e = .returned (.bool true) ∧ Off (fun _ => False) W w') := Lib.hid (fun W hT => alive8_any W hT)
  obtain ⟨e11, e12, vv1, vv2⟩ := w1
  obtain ⟨hnl1, hnm1, hxs1⟩ := vv1.len
  obtain ⟨hnl2, hnm2, hxs2⟩ := vv2.len
  by_cases hbig : 12 < n1
  · have hbi : decide ((12 : Int) < (n1 : Int)) = true := by simp; omega
    have hbp : (12 : Int) < (n1 : Int) := by omega
    clear e11 e12 hnl1 hnm1 hxs1 hnl2 hnm2 hxs2 hF hid hp h1 hp0 FG hbig
    go_enter Tryd.func8, Tryd.ntmps8
    go_wp2_with fail
    refine (FAL.out _ (hT.off (((Off.refl _ w).alloc _).alloc _))).mono ?_
    rintro e u0 ⟨rfl, hO⟩
    have HO := Lib.hid ((((Off.refl _ w).alloc _).alloc _ : Off (fun _ => False) w _).trans hO (fun _ _ c => c))
    clear hO
    go_wp2
    go_ret
    exact ⟨rfl, HO.out⟩
  · have hbi : decide ((12 : Int) < (n1 : Int)) = false := by simp; omega
    have hbp : ¬ (12 : Int) < (n1 : Int) := by omega
    by_cases hbig2 : 12 < m1
    · have hbi2 : decide ((12 : Int) < (m1 : Int)) = true := by simp; omega
      have hbp2 : (12 : Int) < (m1 : Int) := by omega
      clear e11 e12 hnl1 hnm1 hxs1 hnl2 hnm2 hxs2 hF hid hp h1 hp0 FG hbig hbig2
      go_enter Tryd.func8, Tryd.ntmps8
      go_wp2_with fail
      refine (FAL.out _ (hT.off (((Off.refl _ w).alloc _).alloc _))).mono ?_
      rintro e u0 ⟨rfl, hO⟩
      have HO := Lib.hid ((((Off.refl _ w).alloc _).alloc _ : Off (fun _ => False) w _).trans hO (fun _ _ c => c))
      clear hO
      go_wp2
      go_ret
      exact ⟨rfl, HO.out⟩
    · have hbi2 : decide ((12 : Int) < (m1 : Int)) = false := by simp; omega
      have hbp2 : ¬ (12 : Int) < (m1 : Int) := by omega
      obtain ⟨vs, hvs⟩ : ∃ l, l = xs1.map (· % p) := ⟨_, rfl⟩
      have hvsl : vs.length = n1 := by rw [hvs, List.length_map]; exact hnl1.symm
      have hvsp : ∀ v ∈ vs, v < p := by rw [hvs]; exact mods_lt hp0 xs1
      have FV1 := Lib.hid (show ∀ W v, Ls W v xs1 → Calls Tryd.prog 11 #[V p, v] W fun e w' => ∃ z1 z2, e = .returned (.tuple #[z1, z2]) ∧ Ls w' z1 vs ∧ Ls w' z2 (vs.map (fm p)) ∧ Off (fun _ => False) W w' from fun W v h => by rw [hvs]; exact values_any hp h1 xs1 hxs1 (by omega) v W h)
      have HL1 := Lib.hid (ls_of_vs vv1 (by omega))
      obtain ⟨us, hus⟩ : ∃ l, l = ys1.map (· % p) := ⟨_, rfl⟩
      have husl : us.length = m1 := by rw [hus, List.length_map]; exact hnl2.symm
      have husp : ∀ v ∈ us, v < p := by rw [hus]; exact mods_lt hp0 ys1
      have FV2 := Lib.hid (show ∀ W v, Ls W v ys1 → Calls Tryd.prog 11 #[V p, v] W fun e w' => ∃ z1 z2, e = .returned (.tuple #[z1, z2]) ∧ Ls w' z1 us ∧ Ls w' z2 (us.map (fm p)) ∧ Off (fun _ => False) W w' from fun W v h => by rw [hus]; exact values_any hp h1 ys1 hxs2 (by omega) v W h)
      have HL2 := Lib.hid (ls_of_vs vv2 (by omega))
      obtain ⟨c, hc⟩ : ∃ c, c = n2 % p := ⟨_, rfl⟩
      have hcp : c < p := by rw [hc]; exact Nat.mod_lt _ hp0
      obtain ⟨y, hy⟩ : ∃ y, y = fm p c := ⟨_, rfl⟩
      obtain ⟨y1, hy1⟩ : ∃ y1, y1 = pv vs c % p := ⟨_, rfl⟩
      obtain ⟨y2, hy2⟩ : ∃ y2, y2 = pv us c % p := ⟨_, rfl⟩
      have hy1p : y1 < p := by rw [hy1]; exact Nat.mod_lt _ hp0
      have hy2p : y2 < p := by rw [hy2]; exact Nat.mod_lt _ hp0
      obtain ⟨e1v, he1⟩ : ∃ e1v, e1v = fm p y1 := ⟨_, rfl⟩
      obtain ⟨e2v, he2⟩ : ∃ e2v, e2v = fm p y2 := ⟨_, rfl⟩
      obtain ⟨sl, hsl⟩ : ∃ l, l = sumL p vs us := ⟨_, rfl⟩
      obtain ⟨ml, hml⟩ : ∃ l, l = mulL p vs us := ⟨_, rfl⟩
      obtain ⟨s1, hs1⟩ : ∃ s1, s1 = (y1 + y2) % p := ⟨_, rfl⟩
      obtain ⟨s2, hs2⟩ : ∃ s2, s2 = y1 * y2 % p := ⟨_, rfl⟩
      have hs1p : s1 < p := by rw [hs1]; exact Nat.mod_lt _ hp0
      have hs2p : s2 < p := by rw [hs2]; exact Nat.mod_lt _ hp0
      obtain ⟨r1, hr1⟩ : ∃ r1, r1 = fm p s1 := ⟨_, rfl⟩
      obtain ⟨r2, hr2⟩ : ∃ r2, r2 = fm p s2 := ⟨_, rfl⟩
      have hsv : pv sl c % p = s1 := by rw [hsl, pv_sum, hs1, hy1, hy2, ← Nat.add_mod]
      have hmv : pv ml c % p = s2 := by rw [hml, pv_mul, hs2, hy1, hy2, ← Nat.mul_mod]
      have hsn : sl.length ≤ 100 := by rw [hsl, sumL_length]; omega
      have hmn : ml.length ≤ 100 := by
        rw [hml]
        by_cases h : vs.length = 0 ∨ us.length = 0
        · unfold mulL; rw [if_pos h]; simp
        · rw [mulL_length p vs us (by omega) (by omega)]; omega
      have hodd : p % 2 = 1 := fld_odd hF
      have FMo := Lib.hid (show ∀ W, Calls Tryd.prog 12 #[V p, V n2] W fun e w' => e = .returned (V c) ∧ Off (fun _ => False) W w' from fun W => by rw [hc]; exact mod_mod p n2 hp h1 w2 W)
      have FFc := Lib.hid (show ∀ W, Calls Tryd.prog 14 #[V p, V c] W fun e w' => e = .returned (V y) ∧ Off (fun _ => False) W w' from fun W => by rw [hy]; exact form8_any p c hp h1 (by omega) W)
      have FF1 := Lib.hid (show ∀ W, Calls Tryd.prog 14 #[V p, V s1] W fun e w' => e = .returned (V r1) ∧ Off (fun _ => False) W w' from fun W => by rw [hr1]; exact form8_any p s1 hp h1 (by omega) W)
      have FF2 := Lib.hid (show ∀ W, Calls Tryd.prog 14 #[V p, V s2] W fun e w' => e = .returned (V r2) ∧ Off (fun _ => False) W w' from fun W => by rw [hr2]; exact form8_any p s2 hp h1 (by omega) W)
      have FE1 := Lib.hid (show ∀ W v, Ls W v (vs.map (fm p)) → Calls Tryd.prog 13 #[.pointer none, FV id p i r s, v, V y] W fun e w' => e = .returned (V e1v) ∧ Off (fun _ => False) W w' from fun W v h => by rw [hy, he1, hy1]; exact eval_ls hF vs (by omega) c v W h)
      have FE2 := Lib.hid (show ∀ W v, Ls W v (us.map (fm p)) → Calls Tryd.prog 13 #[.pointer none, FV id p i r s, v, V y] W fun e w' => e = .returned (V e2v) ∧ Off (fun _ => False) W w' from fun W v h => by rw [hy, he2, hy2]; exact eval_ls hF us (by omega) c v W h)
      have FE3 := Lib.hid (show ∀ W v, Ls W v (sl.map (fm p)) → Calls Tryd.prog 13 #[.pointer none, FV id p i r s, v, V y] W fun e w' => e = .returned (V r1) ∧ Off (fun _ => False) W w' from fun W v h => by rw [hy, hr1, ← hsv]; exact eval_ls hF sl (by omega) c v W h)
      have FE4 := Lib.hid (show ∀ W v, Ls W v (ml.map (fm p)) → Calls Tryd.prog 13 #[.pointer none, FV id p i r s, v, V y] W fun e w' => e = .returned (V r2) ∧ Off (fun _ => False) W w' from fun W v h => by rw [hy, hr2, ← hmv]; exact eval_ls hF ml (by omega) c v W h)
      have FV3 := Lib.hid (show ∀ W, Calls Tryd.prog 24 #[V p, V e1v] W fun e w' => e = .returned (V y1) ∧ Off (fun _ => False) W w' from fun W => by have h := value_any p (fm p y1) hF.mp hodd (fm_lt hp0 _) W; rw [mm_one hF.mp, Nat.mod_eq_of_lt hy1p, ← he1] at h; exact h)
      have FV4 := Lib.hid (show ∀ W, Calls Tryd.prog 24 #[V p, V e2v] W fun e w' => e = .returned (V y2) ∧ Off (fun _ => False) W w' from fun W => by have h := value_any p (fm p y2) hF.mp hodd (fm_lt hp0 _) W; rw [mm_one hF.mp, Nat.mod_eq_of_lt hy2p, ← he2] at h; exact h)
      have FA4 := Lib.hid (show ∀ W, Calls Tryd.prog 33 #[V p, V y1, V y2] W fun e w' => e = .returned (V s1) ∧ Off (fun _ => False) W w' from fun W => by rw [hs1]; exact mod_add p y1 y2 hp hy1p hy2p W)
      have FM4 := Lib.hid (show ∀ W, Calls Tryd.prog 21 #[V p, V y1, V y2] W fun e w' => e = .returned (V s2) ∧ Off (fun _ => False) W w' from fun W => by rw [hs2]; exact mod_mul p y1 y2 hp h1 hy1p (by omega) W)
      have FAd := Lib.hid (show ∀ W v u, Ls W v (vs.map (fm p)) → Ls W u (us.map (fm p)) → Calls Tryd.prog 17 #[.pointer none, FV id p i r s, v, u] W fun e w' => ∃ z, e = .returned z ∧ Ls w' z (sl.map (fm p)) ∧ Off (fun _ => False) W w' from fun W v u h k => by rw [hsl]; exact add_ls hF vs us (by omega) (by omega) v u W h k)
      have FMu := Lib.hid (show ∀ W v u, Ls W v (vs.map (fm p)) → Ls W u (us.map (fm p)) → Calls Tryd.prog 19 #[.pointer none, FV id p i r s, v, u] W fun e w' => ∃ z, e = .returned z ∧ Ls w' z (ml.map (fm p)) ∧ Off (fun _ => False) W w' from fun W v u h k => by rw [hml]; exact mul_ls hF vs us (by omega) (by omega) v u W h k)
      have ee := equalIn_elem_same
      have HTw := Lib.hid hT
      clear hvs hus hF hid hxs1 hnm1 hnl1 hvsl hvsp hxs2 hnm2 hnl2 husl husp hbig hbig2 e11 e12 hc hcp hy hy1 hy2 hy1p hy2p he1 he2 hsl hml hs1 hs2 hs1p hs2p hr1 hr2 hsv hmv hsn hmn hodd
      go_enter Tryd.func8, Tryd.ntmps8
      go_wp2_with fail
      refine (FG.out _ (hT.off (((Off.refl _ w).alloc _).alloc _))).mono ?_
      rintro e u0 ⟨rfl, hO1⟩
      have hO0 : Off (fun _ => False) w u0 := (((Off.refl _ w).alloc _).alloc _ : Off (fun _ => False) w _).trans hO1 (fun _ _ c => c)
      have g_lm : u0.heap[w.heap.size]? = some (.cells #[.slice a1 n1 cap1, .slice b1 m1 dap1] 57 (0, 0)) := hO1.heap (heap_old' (heap_new' rfl _) _) (fun c => c)
      have g0_lm := g_lm
      have g_n2 : u0.heap[w.heap.size + 1]? = some (.cells #[.int .u64 (wd n2 0 : Int), .int .u64 (wd n2 1 : Int), .int .u64 (wd n2 2 : Int), .int .u64 (wd n2 3 : Int)] 24 (0, 0)) := hO1.heap (heap_new' (by simp) _) (fun c => c)
      obtain ⟨W1, hW1⟩ : ∃ W1, W1 = (u0.alloc (.cells #[.int .i64 id, .int .u64 (wd p 0 : Int), .int .u64 (wd p 1 : Int), .int .u64 (wd p 2 : Int), .int .u64 (wd p 3 : Int), .int .u64 (i : Int), .int .u64 (wd r 0 : Int), .int .u64 (wd r 1 : Int), .int .u64 (wd r 2 : Int), .int .u64 (wd r 3 : Int), .int .u64 (wd s 0 : Int), .int .u64 (wd s 1 : Int), .int .u64 (wd s 2 : Int), .int .u64 (wd s 3 : Int)] 28)).alloc (.cells #[.int .u64 (wd p 0 : Int), .int .u64 (wd p 1 : Int), .int .u64 (wd p 2 : Int), .int .u64 (wd p 3 : Int)] 24) := ⟨_, rfl⟩
      have o1 : Off (fun _ => False) u0 W1 := by rw [hW1]; exact ((Off.refl _ u0).alloc _).alloc _
      have g_F : W1.heap[u0.heap.size]? = some (.cells #[.int .i64 id, .int .u64 (wd p 0 : Int), .int .u64 (wd p 1 : Int), .int .u64 (wd p 2 : Int), .int .u64 (wd p 3 : Int), .int .u64 (i : Int), .int .u64 (wd r 0 : Int), .int .u64 (wd r 1 : Int), .int .u64 (wd r 2 : Int), .int .u64 (wd r 3 : Int), .int .u64 (wd s 0 : Int), .int .u64 (wd s 1 : Int), .int .u64 (wd s 2 : Int), .int .u64 (wd s 3 : Int)] 28 (0, 0)) := by rw [hW1]; exact heap_old' (heap_new' rfl _) _
      have g_P : W1.heap[u0.heap.size + 1]? = some (.cells #[.int .u64 (wd p 0 : Int), .int .u64 (wd p 1 : Int), .int .u64 (wd p 2 : Int), .int .u64 (wd p 3 : Int)] 24 (0, 0)) := by rw [hW1]; exact heap_new' (by simp) _
      obtain ⟨fb, hfb⟩ : ∃ fb, fb = u0.heap.size := ⟨_, rfl⟩
      obtain ⟨pb, hpb⟩ : ∃ pb, pb = u0.heap.size + 1 := ⟨_, rfl⟩
      rw [← hfb] at g_F
      rw [← hpb] at g_P
      have g_lm := o1.heap g_lm (fun c => c)
      have g_n2 := o1.heap g_n2 (fun c => c)
      have hOw := hO0.trans o1 (fun _ _ c => c)
      clear hO1 hO0 o1
      have l0 : u0.cell? ⟨w.heap.size, 0, none⟩ = some (.slice a1 n1 cap1) := cell_of_heap g0_lm 0
      have llt := heap_lt g0_lm
      rw [hW1] at hOw g_lm g_n2 g_F g_P
      go_wp2_with fail
      clear l0 llt g0_lm
      rw [← hW1] at hOw g_lm g_n2 g_F g_P ⊢
      rw [← hpb, ← hfb]
      refine (FV1.out _ _ (HL1.out.off hOw)).mono ?_
      rintro e u1 ⟨z1, z2, rfl, h_z1, h_z2, hO1⟩
      have g_lm := hO1.heap g_lm (fun c => c)
      have g_n2 := hO1.heap g_n2 (fun c => c)
      have g_F := hO1.heap g_F (fun c => c)
      have g_P := hO1.heap g_P (fun c => c)
      have hOw := hOw.trans hO1 (fun _ _ c => c)
      clear hW1 hfb hpb
      obtain ⟨p0, p1, p2, p3⟩ := cells4 g_P
      have l1 : u1.cell? ⟨w.heap.size, 1, none⟩ = some (.slice b1 m1 dap1) := cell_of_heap g_lm 1
      have GF := Lib.hid g_F
      have GP := Lib.hid g_P
      have GN := Lib.hid g_n2
      have H_z2 := Lib.hid h_z2
      have HOw := Lib.hid hOw
      clear g_F g_P g_n2 g_lm h_z1 h_z2 hOw hO1
      go_wp2_with fail
      clear p0 p1 p2 p3 l1
      refine (FV2.out _ _ (HL2.out.off HOw.out)).mono ?_
      rintro e u2 ⟨z3, z4, rfl, h_z3, h_z4, hO2⟩
      have g_F := hO2.heap GF.out (fun c => c)
      have g_P := hO2.heap GP.out (fun c => c)
      have g_n2 := hO2.heap GN.out (fun c => c)
      have h_z2 := H_z2.out.off hO2
      obtain ⟨xb, hxb⟩ : ∃ xb, xb = w.heap.size + 1 := ⟨_, rfl⟩
      rw [← hxb] at g_n2
      have GF2 := Lib.hid g_F
      have GP2 := Lib.hid g_P
      have HZ2 := Lib.hid h_z2
      have HZ4 := Lib.hid h_z4
      have HOx := Lib.hid (HOw.out.trans hO2 (fun _ _ c => c))
      have HXb := Lib.hid hxb
      have HK6 : Hid (∀ W', Off (fun _ => False) u2 W' → (W'.cell? ⟨pb, 0, none⟩ = some (.int .u64 (wd p 0 : Int)) ∧ W'.cell? ⟨pb, 1, none⟩ = some (.int .u64 (wd p 1 : Int)) ∧ W'.cell? ⟨pb, 2, none⟩ = some (.int .u64 (wd p 2 : Int)) ∧ W'.cell? ⟨pb, 3, none⟩ = some (.int .u64 (wd p 3 : Int))) ∧ (W'.cell? ⟨xb, 0, none⟩ = some (.int .u64 (wd n2 0 : Int)) ∧ W'.cell? ⟨xb, 1, none⟩ = some (.int .u64 (wd n2 1 : Int)) ∧ W'.cell? ⟨xb, 2, none⟩ = some (.int .u64 (wd n2 2 : Int)) ∧ W'.cell? ⟨xb, 3, none⟩ = some (.int .u64 (wd n2 3 : Int))) ∧ Off (fun _ => False) u2 W') := Lib.hid (fun W' h => ⟨cells4 (h.heap g_P (fun c => c)), cells4 (h.heap g_n2 (fun c => c)), h⟩)
      clear g_F g_P g_n2 h_z2 h_z3 h_z4 hO2 GF GP GN H_z2 HOw hxb
      go_upto_region 6 with fail
      rw [← HXb.out]
      refine wp_region_inv (fun a0 l a' w' => ∃ (u46 : Value) (u47 : Value) (u48 : Value) (u49 : Value) (u50 : Value) (u13 : Value) (b13 : Nat), a' = (Act.put (Act.put (Act.put (Act.put (Act.put (Act.put a0 (some 46) u46) (some 47) u47) (some 48) u48) (some 49) u49) (some 50) u50) (some 13) u13) ∧ Slot l 0 u46 (V p) ∧ Slot l 1 u47 (V p) ∧ Slot l 2 u48 (V n2) ∧ Slot l 3 u49 (V c) ∧ Slot l 4 u50 (V y) ∧ Blk l 5 6 u13 b13 u2 w' (.cells #[.int .u64 0, .int .u64 0, .int .u64 0, .int .u64 0] 26) (.cells #[.int .u64 (wd y 0 : Int), .int .u64 (wd y 1 : Int), .int .u64 (wd y 2 : Int), .int .u64 (wd y 3 : Int)] 26) ∧ Off (fun _ => False) u2 w') (by kernel_rfl) (by kernel_rfl) ?_ ⟨?_, ?_, ?_, ?_, ?_, ?_, ?_, trivial⟩ ?_
      · refine ⟨?z46, ?z47, ?z48, ?z49, ?z50, ?z13, 0, ?fr, Slot.start _ _ _, Slot.start _ _ _, Slot.start _ _ _, Slot.start _ _ _, Slot.start _ _ _, Blk.start _ _ _ _ _ _ _ _, (Off.refl _ u2).drew⟩
        case fr => first | (simp only [Act.put, List.setIfInBounds_toArray, List.set_cons_zero, List.set_cons_succ]; rfl) | simp only [Act.put, List.setIfInBounds_toArray, List.set_cons_zero, List.set_cons_succ]
      · intro l a wr hI hl hd K' hK
        obtain ⟨u46, u47, u48, u49, u50, u13, b13, ha, s0, s1, s2, s3, s4, B5, hO⟩ := hI
        simp only [Act.put, List.setIfInBounds_toArray, List.set_cons_zero, List.set_cons_succ] at ha
        subst ha
        have hc := HK6.out wr hO
        have p0 := hc.1.1
        have p1 := hc.1.2.1
        have p2 := hc.1.2.2.1
        have p3 := hc.1.2.2.2
        clear hc
        go_simp
        refine hK.out _ _ ⟨_, _, _, _, _, _, _, ?_, Slot.new _ _ _, s1.keep rfl, s2.keep rfl, s3.keep rfl, s4.keep rfl, B5.keep (Off.refl _ wr) rfl rfl, hO⟩
        simp only [Act.put, List.setIfInBounds_toArray, List.set_cons_zero, List.set_cons_succ]
      · intro l a wr hI hl hd K' hK
        obtain ⟨u46, u47, u48, u49, u50, u13, b13, ha, s0, s1, s2, s3, s4, B5, hO⟩ := hI
        simp only [Act.put, List.setIfInBounds_toArray, List.set_cons_zero, List.set_cons_succ] at ha
        subst ha
        have hc := HK6.out wr hO
        have p0 := hc.1.1
        have p1 := hc.1.2.1
        have p2 := hc.1.2.2.1
        have p3 := hc.1.2.2.2
        clear hc
        go_simp
        refine hK.out _ _ ⟨_, _, _, _, _, _, _, ?_, s0.keep rfl, Slot.new _ _ _, s2.keep rfl, s3.keep rfl, s4.keep rfl, B5.keep (Off.refl _ wr) rfl rfl, hO⟩
        simp only [Act.put, List.setIfInBounds_toArray, List.set_cons_zero, List.set_cons_succ]
      · intro l a wr hI hl hd K' hK
        obtain ⟨u46, u47, u48, u49, u50, u13, b13, ha, s0, s1, s2, s3, s4, B5, hO⟩ := hI
        simp only [Act.put, List.setIfInBounds_toArray, List.set_cons_zero, List.set_cons_succ] at ha
        subst ha
        have hc := HK6.out wr hO
        have p0 := hc.2.1.1
        have p1 := hc.2.1.2.1
        have p2 := hc.2.1.2.2.1
        have p3 := hc.2.1.2.2.2
        clear hc
        go_simp
        refine hK.out _ _ ⟨_, _, _, _, _, _, _, ?_, s0.keep rfl, s1.keep rfl, Slot.new _ _ _, s3.keep rfl, s4.keep rfl, B5.keep (Off.refl _ wr) rfl rfl, hO⟩
        simp only [Act.put, List.setIfInBounds_toArray, List.set_cons_zero, List.set_cons_succ]
      · intro l a wr hI hl hd K' hK
        obtain ⟨u46, u47, u48, u49, u50, u13, b13, ha, s0, s1, s2, s3, s4, B5, hO⟩ := hI
        simp only [Act.put, List.setIfInBounds_toArray, List.set_cons_zero, List.set_cons_succ] at ha
        have q1 := s1 (hd 1 (by decide))
        have q2 := s2 (hd 2 (by decide))
        subst ha q1 q2
        go_simp
        refine (held_inv (FMo.out wr) hO).mono ?_
        rintro e w1 ⟨rfl, hO1, hOW⟩
        go_wp2_with fail
        refine hK.out _ _ ⟨_, _, _, _, _, _, _, ?_, s0.keep rfl, s1.keep rfl, s2.keep rfl, Slot.new _ _ _, s4.keep rfl, B5.keep hOW rfl rfl, hO1⟩
        simp only [Act.put, List.setIfInBounds_toArray, List.set_cons_zero, List.set_cons_succ]
      · intro l a wr hI hl hd K' hK
        obtain ⟨u46, u47, u48, u49, u50, u13, b13, ha, s0, s1, s2, s3, s4, B5, hO⟩ := hI
        simp only [Act.put, List.setIfInBounds_toArray, List.set_cons_zero, List.set_cons_succ] at ha
        have q0 := s0 (hd 0 (by decide))
        have q3 := s3 (hd 3 (by decide))
        subst ha q0 q3
        go_simp
        refine (held_inv (FFc.out wr) hO).mono ?_
        rintro e w1 ⟨rfl, hO1, hOW⟩
        go_wp2_with fail
        refine hK.out _ _ ⟨_, _, _, _, _, _, _, ?_, s0.keep rfl, s1.keep rfl, s2.keep rfl, s3.keep rfl, Slot.new _ _ _, B5.keep hOW rfl rfl, hO1⟩
        simp only [Act.put, List.setIfInBounds_toArray, List.set_cons_zero, List.set_cons_succ]
      · intro l a wr hI hl hd K' hK
        obtain ⟨u46, u47, u48, u49, u50, u13, b13, ha, s0, s1, s2, s3, s4, B5, hO⟩ := hI
        simp only [Act.put, List.setIfInBounds_toArray, List.set_cons_zero, List.set_cons_succ] at ha
        subst ha
        go_simp
        refine hK.out _ _ ⟨_, _, _, _, _, _, _, ?_, s0.keep rfl, s1.keep rfl, s2.keep rfl, s3.keep rfl, s4.keep rfl, B5.make hl rfl hO, hO.alloc _⟩
        simp only [Act.put, List.setIfInBounds_toArray, List.set_cons_zero, List.set_cons_succ]
      · intro l a wr hI hl hd K' hK
        obtain ⟨u46, u47, u48, u49, u50, u13, b13, ha, s0, s1, s2, s3, s4, B5, hO⟩ := hI
        simp only [Act.put, List.setIfInBounds_toArray, List.set_cons_zero, List.set_cons_succ] at ha
        have h5 := hd 5 (by decide)
        have q5 := B5.ptr h5
        have q4 := s4 (hd 4 (by decide))
        subst ha q5 q4
        obtain ⟨⟨m0, m1, m2, m3⟩, fz, lt⟩ := zero_cells (B5.was h5 hl)
        go_simp
        refine hK.out _ _ ⟨_, _, _, _, _, _, _, ?_, s0.keep rfl, s1.keep rfl, s2.keep rfl, s3.keep rfl, s4.keep rfl, B5.put hl h5 rfl rfl, setCells_in hO (fun c => absurd c (Nat.not_lt.2 (B5.new h5))) [.int .u64 (wd y 0 : Int), .int .u64 (wd y 1 : Int), .int .u64 (wd y 2 : Int), .int .u64 (wd y 3 : Int)]⟩
        simp only [Act.put, List.setIfInBounds_toArray, List.set_cons_zero, List.set_cons_succ]
      · intro l a wc hI hd
        obtain ⟨u46, u47, u48, u49, u50, u13, b13, ha, s0, s1, s2, s3, s4, B5, hO⟩ := hI
        simp only [Act.put, List.setIfInBounds_toArray, List.set_cons_zero, List.set_cons_succ] at ha
        have q0 := s0 (hd 0 (by decide))
        have q1 := s1 (hd 1 (by decide))
        have q2 := s2 (hd 2 (by decide))
        have q3 := s3 (hd 3 (by decide))
        have q4 := s4 (hd 4 (by decide))
        have q5 := B5.ptr (hd 5 (by decide))
        have n13 : wc.heap[b13]? = some (.cells #[.int .u64 (wd y 0 : Int), .int .u64 (wd y 1 : Int), .int .u64 (wd y 2 : Int), .int .u64 (wd y 3 : Int)] 26) := B5.now (hd 5 (by decide)) (hd 6 (by decide))
        have v13 := B5.new (hd 5 (by decide))
        subst ha q0 q1 q2 q3 q4 q5
        clear hd s0 s1 s2 s3 s4 B5
        obtain ⟨u3, hu3⟩ : ∃ u, u = wc := ⟨_, rfl⟩
        subst hu3
        have g_F := hO.heap GF2.out (fun c => c)
        have g_P := hO.heap GP2.out (fun c => c)
        have h_z2 := HZ2.out.off hO
        have h_z4 := HZ4.out.off hO
        have GF3 := Lib.hid g_F
        have GP3 := Lib.hid g_P
        have GY := Lib.hid n13
        have HZ2 := Lib.hid h_z2
        have HZ4 := Lib.hid h_z4
        have HOx := Lib.hid (HOx.out.trans hO (fun _ _ c => c))
        have FX1 := Lib.hid (show ∀ W, Off (fun _ => False) u3 W → _ from fun W h => FE1.out W z2 (h_z2.off h))
        have HK7 : Hid (∀ W', Off (fun _ => False) u3 W' → (W'.cell? ⟨pb, 0, none⟩ = some (.int .u64 (wd p 0 : Int)) ∧ W'.cell? ⟨pb, 1, none⟩ = some (.int .u64 (wd p 1 : Int)) ∧ W'.cell? ⟨pb, 2, none⟩ = some (.int .u64 (wd p 2 : Int)) ∧ W'.cell? ⟨pb, 3, none⟩ = some (.int .u64 (wd p 3 : Int))) ∧ (W'.cell? ⟨fb, 0, none⟩ = some (.int .i64 id) ∧ W'.cell? ⟨fb, 1, none⟩ = some (.int .u64 (wd p 0 : Int)) ∧ W'.cell? ⟨fb, 2, none⟩ = some (.int .u64 (wd p 1 : Int)) ∧ W'.cell? ⟨fb, 3, none⟩ = some (.int .u64 (wd p 2 : Int)) ∧ W'.cell? ⟨fb, 4, none⟩ = some (.int .u64 (wd p 3 : Int)) ∧ W'.cell? ⟨fb, 5, none⟩ = some (.int .u64 (i : Int)) ∧ W'.cell? ⟨fb, 6, none⟩ = some (.int .u64 (wd r 0 : Int)) ∧ W'.cell? ⟨fb, 7, none⟩ = some (.int .u64 (wd r 1 : Int)) ∧ W'.cell? ⟨fb, 8, none⟩ = some (.int .u64 (wd r 2 : Int)) ∧ W'.cell? ⟨fb, 9, none⟩ = some (.int .u64 (wd r 3 : Int)) ∧ W'.cell? ⟨fb, 10, none⟩ = some (.int .u64 (wd s 0 : Int)) ∧ W'.cell? ⟨fb, 11, none⟩ = some (.int .u64 (wd s 1 : Int)) ∧ W'.cell? ⟨fb, 12, none⟩ = some (.int .u64 (wd s 2 : Int)) ∧ W'.cell? ⟨fb, 13, none⟩ = some (.int .u64 (wd s 3 : Int))) ∧ (W'.cell? ⟨b13, 0, none⟩ = some (.int .u64 (wd y 0 : Int)) ∧ W'.cell? ⟨b13, 1, none⟩ = some (.int .u64 (wd y 1 : Int)) ∧ W'.cell? ⟨b13, 2, none⟩ = some (.int .u64 (wd y 2 : Int)) ∧ W'.cell? ⟨b13, 3, none⟩ = some (.int .u64 (wd y 3 : Int))) ∧ Off (fun _ => False) u3 W') := Lib.hid (fun W' h => ⟨cells4 (h.heap g_P (fun c => c)), fv_cells (h.heap g_F (fun c => c)), cells4 (h.heap n13 (fun c => c)), h⟩)
        clear g_F g_P h_z2 h_z4 hO n13 v13 GF2 GP2
        go_upto_region 7 with fail
        refine wp_region_inv (fun a0 l a' w' => ∃ (u51 : Value) (u52 : Value) (u53 : Value) (u54 : Value) (u55 : Value) (u56 : Value) (u14 : Value) (b14 : Nat), a' = (Act.put (Act.put (Act.put (Act.put (Act.put (Act.put (Act.put a0 (some 51) u51) (some 52) u52) (some 53) u53) (some 54) u54) (some 55) u55) (some 56) u56) (some 14) u14) ∧ Slot l 0 u51 (V p) ∧ Slot l 1 u52 (FV id p i r s) ∧ Slot l 2 u53 (z2) ∧ Slot l 3 u54 (V y) ∧ Slot l 4 u55 (V e1v) ∧ Slot l 5 u56 (V y1) ∧ Blk l 6 7 u14 b14 u3 w' (.cells #[.int .u64 0, .int .u64 0, .int .u64 0, .int .u64 0] 24) (.cells #[.int .u64 (wd y1 0 : Int), .int .u64 (wd y1 1 : Int), .int .u64 (wd y1 2 : Int), .int .u64 (wd y1 3 : Int)] 24) ∧ Off (fun _ => False) u3 w') (by kernel_rfl) (by kernel_rfl) ?_ ⟨?_, ?_, ?_, ?_, ?_, ?_, ?_, ?_, trivial⟩ ?_
        · refine ⟨?z51, ?z52, ?z53, ?z54, ?z55, ?z56, ?z14, 0, ?fr, Slot.start _ _ _, Slot.start _ _ _, Slot.start _ _ _, Slot.start _ _ _, Slot.start _ _ _, Slot.start _ _ _, Blk.start _ _ _ _ _ _ _ _, (Off.refl _ u3).drew⟩
          case fr => first | (simp only [Act.put, List.setIfInBounds_toArray, List.set_cons_zero, List.set_cons_succ]; rfl) | simp only [Act.put, List.setIfInBounds_toArray, List.set_cons_zero, List.set_cons_succ]
        · intro l a wr hI hl hd K' hK
          obtain ⟨u51, u52, u53, u54, u55, u56, u14, b14, ha, s0, s1, s2, s3, s4, s5, B6, hO⟩ := hI
          simp only [Act.put, List.setIfInBounds_toArray, List.set_cons_zero, List.set_cons_succ] at ha
          subst ha
          have hc := HK7.out wr hO
          have p0 := hc.1.1
          have p1 := hc.1.2.1
          have p2 := hc.1.2.2.1
          have p3 := hc.1.2.2.2
          clear hc
          go_simp
          refine hK.out _ _ ⟨_, _, _, _, _, _, _, _, ?_, Slot.new _ _ _, s1.keep rfl, s2.keep rfl, s3.keep rfl, s4.keep rfl, s5.keep rfl, B6.keep (Off.refl _ wr) rfl rfl, hO⟩
          simp only [Act.put, List.setIfInBounds_toArray, List.set_cons_zero, List.set_cons_succ]
        · intro l a wr hI hl hd K' hK
          obtain ⟨u51, u52, u53, u54, u55, u56, u14, b14, ha, s0, s1, s2, s3, s4, s5, B6, hO⟩ := hI
          simp only [Act.put, List.setIfInBounds_toArray, List.set_cons_zero, List.set_cons_succ] at ha
          subst ha
          have hc := HK7.out wr hO
          have p0 := hc.2.1.1
          have p1 := hc.2.1.2.1
          have p2 := hc.2.1.2.2.1
          have p3 := hc.2.1.2.2.2.1
          have p4 := hc.2.1.2.2.2.2.1
          have p5 := hc.2.1.2.2.2.2.2.1
          have p6 := hc.2.1.2.2.2.2.2.2.1
          have p7 := hc.2.1.2.2.2.2.2.2.2.1
          have p8 := hc.2.1.2.2.2.2.2.2.2.2.1
          have p9 := hc.2.1.2.2.2.2.2.2.2.2.2.1
          have p10 := hc.2.1.2.2.2.2.2.2.2.2.2.2.1
          have p11 := hc.2.1.2.2.2.2.2.2.2.2.2.2.2.1
          have p12 := hc.2.1.2.2.2.2.2.2.2.2.2.2.2.2.1
          have p13 := hc.2.1.2.2.2.2.2.2.2.2.2.2.2.2.2
          clear hc
          go_simp
          refine hK.out _ _ ⟨_, _, _, _, _, _, _, _, ?_, s0.keep rfl, Slot.new _ _ _, s2.keep rfl, s3.keep rfl, s4.keep rfl, s5.keep rfl, B6.keep (Off.refl _ wr) rfl rfl, hO⟩
          simp only [Act.put, List.setIfInBounds_toArray, List.set_cons_zero, List.set_cons_succ]
        · intro l a wr hI hl hd K' hK
          obtain ⟨u51, u52, u53, u54, u55, u56, u14, b14, ha, s0, s1, s2, s3, s4, s5, B6, hO⟩ := hI
          simp only [Act.put, List.setIfInBounds_toArray, List.set_cons_zero, List.set_cons_succ] at ha
          subst ha
          go_simp
          refine hK.out _ _ ⟨_, _, _, _, _, _, _, _, ?_, s0.keep rfl, s1.keep rfl, Slot.new _ _ _, s3.keep rfl, s4.keep rfl, s5.keep rfl, B6.keep (Off.refl _ wr) rfl rfl, hO⟩
          simp only [Act.put, List.setIfInBounds_toArray, List.set_cons_zero, List.set_cons_succ]
        · intro l a wr hI hl hd K' hK
          obtain ⟨u51, u52, u53, u54, u55, u56, u14, b14, ha, s0, s1, s2, s3, s4, s5, B6, hO⟩ := hI
          simp only [Act.put, List.setIfInBounds_toArray, List.set_cons_zero, List.set_cons_succ] at ha
          subst ha
          have hc := HK7.out wr hO
          have p0 := hc.2.2.1.1
          have p1 := hc.2.2.1.2.1
          have p2 := hc.2.2.1.2.2.1
          have p3 := hc.2.2.1.2.2.2
          clear hc
          go_simp
          refine hK.out _ _ ⟨_, _, _, _, _, _, _, _, ?_, s0.keep rfl, s1.keep rfl, s2.keep rfl, Slot.new _ _ _, s4.keep rfl, s5.keep rfl, B6.keep (Off.refl _ wr) rfl rfl, hO⟩
          simp only [Act.put, List.setIfInBounds_toArray, List.set_cons_zero, List.set_cons_succ]
        · intro l a wr hI hl hd K' hK
          obtain ⟨u51, u52, u53, u54, u55, u56, u14, b14, ha, s0, s1, s2, s3, s4, s5, B6, hO⟩ := hI
          simp only [Act.put, List.setIfInBounds_toArray, List.set_cons_zero, List.set_cons_succ] at ha
          have q1 := s1 (hd 1 (by decide))
          have q2 := (s2 (hd 2 (by decide))).symm
          have q3 := s3 (hd 3 (by decide))
          subst ha q1 q2 q3
          go_simp
          refine (held_inv (FX1.out wr hO) hO).mono ?_
          rintro e w1 ⟨rfl, hO1, hOW⟩
          go_wp2_with fail
          refine hK.out _ _ ⟨_, _, _, _, _, _, _, _, ?_, s0.keep rfl, s1.keep rfl, s2.keep rfl, s3.keep rfl, Slot.new _ _ _, s5.keep rfl, B6.keep hOW rfl rfl, hO1⟩
          simp only [Act.put, List.setIfInBounds_toArray, List.set_cons_zero, List.set_cons_succ]
        · intro l a wr hI hl hd K' hK
          obtain ⟨u51, u52, u53, u54, u55, u56, u14, b14, ha, s0, s1, s2, s3, s4, s5, B6, hO⟩ := hI
          simp only [Act.put, List.setIfInBounds_toArray, List.set_cons_zero, List.set_cons_succ] at ha
          have q0 := s0 (hd 0 (by decide))
          have q4 := s4 (hd 4 (by decide))
          subst ha q0 q4
          go_simp
          refine (held_inv (FV3.out wr) hO).mono ?_
          rintro e w1 ⟨rfl, hO1, hOW⟩
          go_wp2_with fail
          refine hK.out _ _ ⟨_, _, _, _, _, _, _, _, ?_, s0.keep rfl, s1.keep rfl, s2.keep rfl, s3.keep rfl, s4.keep rfl, Slot.new _ _ _, B6.keep hOW rfl rfl, hO1⟩
          simp only [Act.put, List.setIfInBounds_toArray, List.set_cons_zero, List.set_cons_succ]
        · intro l a wr hI hl hd K' hK
          obtain ⟨u51, u52, u53, u54, u55, u56, u14, b14, ha, s0, s1, s2, s3, s4, s5, B6, hO⟩ := hI
          simp only [Act.put, List.setIfInBounds_toArray, List.set_cons_zero, List.set_cons_succ] at ha
          subst ha
          go_simp
          refine hK.out _ _ ⟨_, _, _, _, _, _, _, _, ?_, s0.keep rfl, s1.keep rfl, s2.keep rfl, s3.keep rfl, s4.keep rfl, s5.keep rfl, B6.make hl rfl hO, hO.alloc _⟩
          simp only [Act.put, List.setIfInBounds_toArray, List.set_cons_zero, List.set_cons_succ]
        · intro l a wr hI hl hd K' hK
          obtain ⟨u51, u52, u53, u54, u55, u56, u14, b14, ha, s0, s1, s2, s3, s4, s5, B6, hO⟩ := hI
          simp only [Act.put, List.setIfInBounds_toArray, List.set_cons_zero, List.set_cons_succ] at ha
          have h6 := hd 6 (by decide)
          have q6 := B6.ptr h6
          have q5 := s5 (hd 5 (by decide))
          subst ha q6 q5
          obtain ⟨⟨m0, m1, m2, m3⟩, fz, lt⟩ := zero_cells (B6.was h6 hl)
          go_simp
          refine hK.out _ _ ⟨_, _, _, _, _, _, _, _, ?_, s0.keep rfl, s1.keep rfl, s2.keep rfl, s3.keep rfl, s4.keep rfl, s5.keep rfl, B6.put hl h6 rfl rfl, setCells_in hO (fun c => absurd c (Nat.not_lt.2 (B6.new h6))) [.int .u64 (wd y1 0 : Int), .int .u64 (wd y1 1 : Int), .int .u64 (wd y1 2 : Int), .int .u64 (wd y1 3 : Int)]⟩
          simp only [Act.put, List.setIfInBounds_toArray, List.set_cons_zero, List.set_cons_succ]
        · intro l a wc hI hd
          obtain ⟨u51, u52, u53, u54, u55, u56, u14, b14, ha, s0, s1, s2, s3, s4, s5, B6, hO⟩ := hI
          simp only [Act.put, List.setIfInBounds_toArray, List.set_cons_zero, List.set_cons_succ] at ha
          have q0 := s0 (hd 0 (by decide))
          have q1 := s1 (hd 1 (by decide))
          have q2 := (s2 (hd 2 (by decide))).symm
          have q3 := s3 (hd 3 (by decide))
          have q4 := s4 (hd 4 (by decide))
          have q5 := s5 (hd 5 (by decide))
          have q6 := B6.ptr (hd 6 (by decide))
          have n14 : wc.heap[b14]? = some (.cells #[.int .u64 (wd y1 0 : Int), .int .u64 (wd y1 1 : Int), .int .u64 (wd y1 2 : Int), .int .u64 (wd y1 3 : Int)] 24) := B6.now (hd 6 (by decide)) (hd 7 (by decide))
          have v14 := B6.new (hd 6 (by decide))
          subst ha q0 q1 q2 q3 q4 q5 q6
          clear hd s0 s1 s2 s3 s4 s5 B6
          obtain ⟨u4, hu4⟩ : ∃ u, u = wc := ⟨_, rfl⟩
          subst hu4
          have g_F := hO.heap GF3.out (fun c => c)
          have g_P := hO.heap GP3.out (fun c => c)
          have g_Y := hO.heap GY.out (fun c => c)
          have h_z2 := HZ2.out.off hO
          have h_z4 := HZ4.out.off hO
          have GF4 := Lib.hid g_F
          have GP4 := Lib.hid g_P
          have GY4 := Lib.hid g_Y
          have G1 := Lib.hid n14
          have HZ2 := Lib.hid h_z2
          have HZ4 := Lib.hid h_z4
          have HOx := Lib.hid (HOx.out.trans hO (fun _ _ c => c))
          have FX2 := Lib.hid (show ∀ W, Off (fun _ => False) u4 W → _ from fun W h => FE2.out W z4 (h_z4.off h))
          have HK8 : Hid (∀ W', Off (fun _ => False) u4 W' → (W'.cell? ⟨pb, 0, none⟩ = some (.int .u64 (wd p 0 : Int)) ∧ W'.cell? ⟨pb, 1, none⟩ = some (.int .u64 (wd p 1 : Int)) ∧ W'.cell? ⟨pb, 2, none⟩ = some (.int .u64 (wd p 2 : Int)) ∧ W'.cell? ⟨pb, 3, none⟩ = some (.int .u64 (wd p 3 : Int))) ∧ (W'.cell? ⟨fb, 0, none⟩ = some (.int .i64 id) ∧ W'.cell? ⟨fb, 1, none⟩ = some (.int .u64 (wd p 0 : Int)) ∧ W'.cell? ⟨fb, 2, none⟩ = some (.int .u64 (wd p 1 : Int)) ∧ W'.cell? ⟨fb, 3, none⟩ = some (.int .u64 (wd p 2 : Int)) ∧ W'.cell? ⟨fb, 4, none⟩ = some (.int .u64 (wd p 3 : Int)) ∧ W'.cell? ⟨fb, 5, none⟩ = some (.int .u64 (i : Int)) ∧ W'.cell? ⟨fb, 6, none⟩ = some (.int .u64 (wd r 0 : Int)) ∧ W'.cell? ⟨fb, 7, none⟩ = some (.int .u64 (wd r 1 : Int)) ∧ W'.cell? ⟨fb, 8, none⟩ = some (.int .u64 (wd r 2 : Int)) ∧ W'.cell? ⟨fb, 9, none⟩ = some (.int .u64 (wd r 3 : Int)) ∧ W'.cell? ⟨fb, 10, none⟩ = some (.int .u64 (wd s 0 : Int)) ∧ W'.cell? ⟨fb, 11, none⟩ = some (.int .u64 (wd s 1 : Int)) ∧ W'.cell? ⟨fb, 12, none⟩ = some (.int .u64 (wd s 2 : Int)) ∧ W'.cell? ⟨fb, 13, none⟩ = some (.int .u64 (wd s 3 : Int))) ∧ (W'.cell? ⟨b13, 0, none⟩ = some (.int .u64 (wd y 0 : Int)) ∧ W'.cell? ⟨b13, 1, none⟩ = some (.int .u64 (wd y 1 : Int)) ∧ W'.cell? ⟨b13, 2, none⟩ = some (.int .u64 (wd y 2 : Int)) ∧ W'.cell? ⟨b13, 3, none⟩ = some (.int .u64 (wd y 3 : Int))) ∧ Off (fun _ => False) u4 W') := Lib.hid (fun W' h => ⟨cells4 (h.heap g_P (fun c => c)), fv_cells (h.heap g_F (fun c => c)), cells4 (h.heap g_Y (fun c => c)), h⟩)
          clear g_F g_P g_Y h_z2 h_z4 hO n14 v14 GF3 GP3 GY
          go_upto_region 8 with fail
          refine wp_region_inv (fun a0 l a' w' => ∃ (u57 : Value) (u58 : Value) (u59 : Value) (u60 : Value) (u61 : Value) (u62 : Value) (u15 : Value) (b15 : Nat), a' = (Act.put (Act.put (Act.put (Act.put (Act.put (Act.put (Act.put a0 (some 57) u57) (some 58) u58) (some 59) u59) (some 60) u60) (some 61) u61) (some 62) u62) (some 15) u15) ∧ Slot l 0 u57 (V p) ∧ Slot l 1 u58 (FV id p i r s) ∧ Slot l 2 u59 (z4) ∧ Slot l 3 u60 (V y) ∧ Slot l 4 u61 (V e2v) ∧ Slot l 5 u62 (V y2) ∧ Blk l 6 7 u15 b15 u4 w' (.cells #[.int .u64 0, .int .u64 0, .int .u64 0, .int .u64 0] 24) (.cells #[.int .u64 (wd y2 0 : Int), .int .u64 (wd y2 1 : Int), .int .u64 (wd y2 2 : Int), .int .u64 (wd y2 3 : Int)] 24) ∧ Off (fun _ => False) u4 w') (by kernel_rfl) (by kernel_rfl) ?_ ⟨?_, ?_, ?_, ?_, ?_, ?_, ?_, ?_, trivial⟩ ?_
          · refine ⟨?z57, ?z58, ?z59, ?z60, ?z61, ?z62, ?z15, 0, ?fr, Slot.start _ _ _, Slot.start _ _ _, Slot.start _ _ _, Slot.start _ _ _, Slot.start _ _ _, Slot.start _ _ _, Blk.start _ _ _ _ _ _ _ _, (Off.refl _ u4).drew⟩
            case fr => first | (simp only [Act.put, List.setIfInBounds_toArray, List.set_cons_zero, List.set_cons_succ]; rfl) | simp only [Act.put, List.setIfInBounds_toArray, List.set_cons_zero, List.set_cons_succ]
          · intro l a wr hI hl hd K' hK
            obtain ⟨u57, u58, u59, u60, u61, u62, u15, b15, ha, s0, s1, s2, s3, s4, s5, B6, hO⟩ := hI
            simp only [Act.put, List.setIfInBounds_toArray, List.set_cons_zero, List.set_cons_succ] at ha
            subst ha
            have hc := HK8.out wr hO
            have p0 := hc.1.1
            have p1 := hc.1.2.1
            have p2 := hc.1.2.2.1
            have p3 := hc.1.2.2.2
            clear hc
            go_simp
            refine hK.out _ _ ⟨_, _, _, _, _, _, _, _, ?_, Slot.new _ _ _, s1.keep rfl, s2.keep rfl, s3.keep rfl, s4.keep rfl, s5.keep rfl, B6.keep (Off.refl _ wr) rfl rfl, hO⟩
            simp only [Act.put, List.setIfInBounds_toArray, List.set_cons_zero, List.set_cons_succ]
          · intro l a wr hI hl hd K' hK
            obtain ⟨u57, u58, u59, u60, u61, u62, u15, b15, ha, s0, s1, s2, s3, s4, s5, B6, hO⟩ := hI
            simp only [Act.put, List.setIfInBounds_toArray, List.set_cons_zero, List.set_cons_succ] at ha
            subst ha
            have hc := HK8.out wr hO
            have p0 := hc.2.1.1
            have p1 := hc.2.1.2.1
            have p2 := hc.2.1.2.2.1
            have p3 := hc.2.1.2.2.2.1
            have p4 := hc.2.1.2.2.2.2.1
            have p5 := hc.2.1.2.2.2.2.2.1
            have p6 := hc.2.1.2.2.2.2.2.2.1
            have p7 := hc.2.1.2.2.2.2.2.2.2.1
            have p8 := hc.2.1.2.2.2.2.2.2.2.2.1
            have p9 := hc.2.1.2.2.2.2.2.2.2.2.2.1
            have p10 := hc.2.1.2.2.2.2.2.2.2.2.2.2.1
            have p11 := hc.2.1.2.2.2.2.2.2.2.2.2.2.2.1
            have p12 := hc.2.1.2.2.2.2.2.2.2.2.2.2.2.2.1
            have p13 := hc.2.1.2.2.2.2.2.2.2.2.2.2.2.2.2
            clear hc
            go_simp
            refine hK.out _ _ ⟨_, _, _, _, _, _, _, _, ?_, s0.keep rfl, Slot.new _ _ _, s2.keep rfl, s3.keep rfl, s4.keep rfl, s5.keep rfl, B6.keep (Off.refl _ wr) rfl rfl, hO⟩
            simp only [Act.put, List.setIfInBounds_toArray, List.set_cons_zero, List.set_cons_succ]
          · intro l a wr hI hl hd K' hK
            obtain ⟨u57, u58, u59, u60, u61, u62, u15, b15, ha, s0, s1, s2, s3, s4, s5, B6, hO⟩ := hI
            simp only [Act.put, List.setIfInBounds_toArray, List.set_cons_zero, List.set_cons_succ] at ha
            subst ha
            go_simp
            refine hK.out _ _ ⟨_, _, _, _, _, _, _, _, ?_, s0.keep rfl, s1.keep rfl, Slot.new _ _ _, s3.keep rfl, s4.keep rfl, s5.keep rfl, B6.keep (Off.refl _ wr) rfl rfl, hO⟩
            simp only [Act.put, List.setIfInBounds_toArray, List.set_cons_zero, List.set_cons_succ]
          · intro l a wr hI hl hd K' hK
            obtain ⟨u57, u58, u59, u60, u61, u62, u15, b15, ha, s0, s1, s2, s3, s4, s5, B6, hO⟩ := hI
            simp only [Act.put, List.setIfInBounds_toArray, List.set_cons_zero, List.set_cons_succ] at ha
            subst ha
            have hc := HK8.out wr hO
            have p0 := hc.2.2.1.1
            have p1 := hc.2.2.1.2.1
            have p2 := hc.2.2.1.2.2.1
            have p3 := hc.2.2.1.2.2.2
            clear hc
            go_simp
            refine hK.out _ _ ⟨_, _, _, _, _, _, _, _, ?_, s0.keep rfl, s1.keep rfl, s2.keep rfl, Slot.new _ _ _, s4.keep rfl, s5.keep rfl, B6.keep (Off.refl _ wr) rfl rfl, hO⟩
            simp only [Act.put, List.setIfInBounds_toArray, List.set_cons_zero, List.set_cons_succ]
          · intro l a wr hI hl hd K' hK
            obtain ⟨u57, u58, u59, u60, u61, u62, u15, b15, ha, s0, s1, s2, s3, s4, s5, B6, hO⟩ := hI
            simp only [Act.put, List.setIfInBounds_toArray, List.set_cons_zero, List.set_cons_succ] at ha
            have q1 := s1 (hd 1 (by decide))
            have q2 := (s2 (hd 2 (by decide))).symm
            have q3 := s3 (hd 3 (by decide))
            subst ha q1 q2 q3
            go_simp
            refine (held_inv (FX2.out wr hO) hO).mono ?_
            rintro e w1 ⟨rfl, hO1, hOW⟩
            go_wp2_with fail
            refine hK.out _ _ ⟨_, _, _, _, _, _, _, _, ?_, s0.keep rfl, s1.keep rfl, s2.keep rfl, s3.keep rfl, Slot.new _ _ _, s5.keep rfl, B6.keep hOW rfl rfl, hO1⟩
            simp only [Act.put, List.setIfInBounds_toArray, List.set_cons_zero, List.set_cons_succ]
          · intro l a wr hI hl hd K' hK
            obtain ⟨u57, u58, u59, u60, u61, u62, u15, b15, ha, s0, s1, s2, s3, s4, s5, B6, hO⟩ := hI
            simp only [Act.put, List.setIfInBounds_toArray, List.set_cons_zero, List.set_cons_succ] at ha
            have q0 := s0 (hd 0 (by decide))
            have q4 := s4 (hd 4 (by decide))
            subst ha q0 q4
            go_simp
            refine (held_inv (FV4.out wr) hO).mono ?_
            rintro e w1 ⟨rfl, hO1, hOW⟩
            go_wp2_with fail
            refine hK.out _ _ ⟨_, _, _, _, _, _, _, _, ?_, s0.keep rfl, s1.keep rfl, s2.keep rfl, s3.keep rfl, s4.keep rfl, Slot.new _ _ _, B6.keep hOW rfl rfl, hO1⟩
            simp only [Act.put, List.setIfInBounds_toArray, List.set_cons_zero, List.set_cons_succ]
          · intro l a wr hI hl hd K' hK
            obtain ⟨u57, u58, u59, u60, u61, u62, u15, b15, ha, s0, s1, s2, s3, s4, s5, B6, hO⟩ := hI
            simp only [Act.put, List.setIfInBounds_toArray, List.set_cons_zero, List.set_cons_succ] at ha
            subst ha
            go_simp
            refine hK.out _ _ ⟨_, _, _, _, _, _, _, _, ?_, s0.keep rfl, s1.keep rfl, s2.keep rfl, s3.keep rfl, s4.keep rfl, s5.keep rfl, B6.make hl rfl hO, hO.alloc _⟩
            simp only [Act.put, List.setIfInBounds_toArray, List.set_cons_zero, List.set_cons_succ]
          · intro l a wr hI hl hd K' hK
            obtain ⟨u57, u58, u59, u60, u61, u62, u15, b15, ha, s0, s1, s2, s3, s4, s5, B6, hO⟩ := hI
            simp only [Act.put, List.setIfInBounds_toArray, List.set_cons_zero, List.set_cons_succ] at ha
            have h6 := hd 6 (by decide)
            have q6 := B6.ptr h6
            have q5 := s5 (hd 5 (by decide))
            subst ha q6 q5
            obtain ⟨⟨m0, m1, m2, m3⟩, fz, lt⟩ := zero_cells (B6.was h6 hl)
            go_simp
            refine hK.out _ _ ⟨_, _, _, _, _, _, _, _, ?_, s0.keep rfl, s1.keep rfl, s2.keep rfl, s3.keep rfl, s4.keep rfl, s5.keep rfl, B6.put hl h6 rfl rfl, setCells_in hO (fun c => absurd c (Nat.not_lt.2 (B6.new h6))) [.int .u64 (wd y2 0 : Int), .int .u64 (wd y2 1 : Int), .int .u64 (wd y2 2 : Int), .int .u64 (wd y2 3 : Int)]⟩
            simp only [Act.put, List.setIfInBounds_toArray, List.set_cons_zero, List.set_cons_succ]
          · intro l a wc hI hd
            obtain ⟨u57, u58, u59, u60, u61, u62, u15, b15, ha, s0, s1, s2, s3, s4, s5, B6, hO⟩ := hI
            simp only [Act.put, List.setIfInBounds_toArray, List.set_cons_zero, List.set_cons_succ] at ha
            have q0 := s0 (hd 0 (by decide))
            have q1 := s1 (hd 1 (by decide))
            have q2 := (s2 (hd 2 (by decide))).symm
            have q3 := s3 (hd 3 (by decide))
            have q4 := s4 (hd 4 (by decide))
            have q5 := s5 (hd 5 (by decide))
            have q6 := B6.ptr (hd 6 (by decide))
            have n15 : wc.heap[b15]? = some (.cells #[.int .u64 (wd y2 0 : Int), .int .u64 (wd y2 1 : Int), .int .u64 (wd y2 2 : Int), .int .u64 (wd y2 3 : Int)] 24) := B6.now (hd 6 (by decide)) (hd 7 (by decide))
            have v15 := B6.new (hd 6 (by decide))
            subst ha q0 q1 q2 q3 q4 q5 q6
            clear hd s0 s1 s2 s3 s4 s5 B6
            obtain ⟨u5, hu5⟩ : ∃ u, u = wc := ⟨_, rfl⟩
            subst hu5
            have g_F := hO.heap GF4.out (fun c => c)
            have g_P := hO.heap GP4.out (fun c => c)
            have g_Y := hO.heap GY4.out (fun c => c)
            have g_1 := hO.heap G1.out (fun c => c)
            have h_z2 := HZ2.out.off hO
            have h_z4 := HZ4.out.off hO
            have hOw := HOx.out.trans hO (fun _ _ c => c)
            have HOw := Lib.hid hOw
            have HTW := Lib.hid (fun W (h : Off (fun _ => False) u5 W) => HTw.out.off (hOw.trans h (fun _ _ c => c)))
            have FA2 := Lib.hid (show ∀ W, Off (fun _ => False) u5 W → _ from fun W h => FAd.out W z2 z4 (h_z2.off h) (h_z4.off h))
            have FM2 := Lib.hid (show ∀ W, Off (fun _ => False) u5 W → _ from fun W h => FMu.out W z2 z4 (h_z2.off h) (h_z4.off h))
            have HK9 : Hid (∀ W', Off (fun _ => False) u5 W' → (W'.cell? ⟨fb, 0, none⟩ = some (.int .i64 id) ∧ W'.cell? ⟨fb, 1, none⟩ = some (.int .u64 (wd p 0 : Int)) ∧ W'.cell? ⟨fb, 2, none⟩ = some (.int .u64 (wd p 1 : Int)) ∧ W'.cell? ⟨fb, 3, none⟩ = some (.int .u64 (wd p 2 : Int)) ∧ W'.cell? ⟨fb, 4, none⟩ = some (.int .u64 (wd p 3 : Int)) ∧ W'.cell? ⟨fb, 5, none⟩ = some (.int .u64 (i : Int)) ∧ W'.cell? ⟨fb, 6, none⟩ = some (.int .u64 (wd r 0 : Int)) ∧ W'.cell? ⟨fb, 7, none⟩ = some (.int .u64 (wd r 1 : Int)) ∧ W'.cell? ⟨fb, 8, none⟩ = some (.int .u64 (wd r 2 : Int)) ∧ W'.cell? ⟨fb, 9, none⟩ = some (.int .u64 (wd r 3 : Int)) ∧ W'.cell? ⟨fb, 10, none⟩ = some (.int .u64 (wd s 0 : Int)) ∧ W'.cell? ⟨fb, 11, none⟩ = some (.int .u64 (wd s 1 : Int)) ∧ W'.cell? ⟨fb, 12, none⟩ = some (.int .u64 (wd s 2 : Int)) ∧ W'.cell? ⟨fb, 13, none⟩ = some (.int .u64 (wd s 3 : Int))) ∧ (W'.cell? ⟨pb, 0, none⟩ = some (.int .u64 (wd p 0 : Int)) ∧ W'.cell? ⟨pb, 1, none⟩ = some (.int .u64 (wd p 1 : Int)) ∧ W'.cell? ⟨pb, 2, none⟩ = some (.int .u64 (wd p 2 : Int)) ∧ W'.cell? ⟨pb, 3, none⟩ = some (.int .u64 (wd p 3 : Int))) ∧ (W'.cell? ⟨b13, 0, none⟩ = some (.int .u64 (wd y 0 : Int)) ∧ W'.cell? ⟨b13, 1, none⟩ = some (.int .u64 (wd y 1 : Int)) ∧ W'.cell? ⟨b13, 2, none⟩ = some (.int .u64 (wd y 2 : Int)) ∧ W'.cell? ⟨b13, 3, none⟩ = some (.int .u64 (wd y 3 : Int))) ∧ (W'.cell? ⟨b14, 0, none⟩ = some (.int .u64 (wd y1 0 : Int)) ∧ W'.cell? ⟨b14, 1, none⟩ = some (.int .u64 (wd y1 1 : Int)) ∧ W'.cell? ⟨b14, 2, none⟩ = some (.int .u64 (wd y1 2 : Int)) ∧ W'.cell? ⟨b14, 3, none⟩ = some (.int .u64 (wd y1 3 : Int))) ∧ (W'.cell? ⟨b15, 0, none⟩ = some (.int .u64 (wd y2 0 : Int)) ∧ W'.cell? ⟨b15, 1, none⟩ = some (.int .u64 (wd y2 1 : Int)) ∧ W'.cell? ⟨b15, 2, none⟩ = some (.int .u64 (wd y2 2 : Int)) ∧ W'.cell? ⟨b15, 3, none⟩ = some (.int .u64 (wd y2 3 : Int))) ∧ Off (fun _ => False) u5 W') := Lib.hid (fun W' h => ⟨fv_cells (h.heap g_F (fun c => c)), cells4 (h.heap g_P (fun c => c)), cells4 (h.heap g_Y (fun c => c)), cells4 (h.heap g_1 (fun c => c)), cells4 (h.heap n15 (fun c => c)), h⟩)
            clear g_F g_P g_Y g_1 h_z2 h_z4 hO n15 v15 GF4 GP4 GY4 G1 hOw HOx HZ2 HZ4
            go_upto_region 9 with fail
            obtain ⟨x63, hx⟩ : ∃ x : Value, x = .bool true := ⟨_, rfl⟩
            have X63 := Lib.hid hx
            clear hx
            obtain ⟨x64, hx⟩ : ∃ x : Value, x = .bool true := ⟨_, rfl⟩
            have X64 := Lib.hid hx
            clear hx
            obtain ⟨x65, hx⟩ : ∃ x : Value, x = FV id p i r s := ⟨_, rfl⟩
            have X65 := Lib.hid hx
            clear hx
            obtain ⟨x66, hx⟩ : ∃ x : Value, x = FV id p i r s := ⟨_, rfl⟩
            have X66 := Lib.hid hx
            clear hx
            obtain ⟨x67, hx⟩ : ∃ x : Value, x = z2 := ⟨_, rfl⟩
            have X67 := Lib.hid hx
            clear hx
            obtain ⟨x68, hx⟩ : ∃ x : Value, x = z4 := ⟨_, rfl⟩
            have X68 := Lib.hid hx
            clear hx
            obtain ⟨x70, hx⟩ : ∃ x : Value, x = V y := ⟨_, rfl⟩
            have X70 := Lib.hid hx
            clear hx
            obtain ⟨x71, hx⟩ : ∃ x : Value, x = V r1 := ⟨_, rfl⟩
            have X71 := Lib.hid hx
            clear hx
            obtain ⟨x72, hx⟩ : ∃ x : Value, x = V p := ⟨_, rfl⟩
            have X72 := Lib.hid hx
            clear hx
            obtain ⟨x73, hx⟩ : ∃ x : Value, x = V p := ⟨_, rfl⟩
            have X73 := Lib.hid hx
            clear hx
            obtain ⟨x74, hx⟩ : ∃ x : Value, x = V y1 := ⟨_, rfl⟩
            have X74 := Lib.hid hx
            clear hx
            obtain ⟨x75, hx⟩ : ∃ x : Value, x = V y2 := ⟨_, rfl⟩
            have X75 := Lib.hid hx
            clear hx
            obtain ⟨x76, hx⟩ : ∃ x : Value, x = V s1 := ⟨_, rfl⟩
            have X76 := Lib.hid hx
            clear hx
            obtain ⟨x77, hx⟩ : ∃ x : Value, x = V r1 := ⟨_, rfl⟩
            have X77 := Lib.hid hx
            clear hx
            obtain ⟨x78, hx⟩ : ∃ x : Value, x = .bool true := ⟨_, rfl⟩
            have X78 := Lib.hid hx
            clear hx
            obtain ⟨x79, hx⟩ : ∃ x : Value, x = .bool true := ⟨_, rfl⟩
            have X79 := Lib.hid hx
            clear hx
            obtain ⟨x80, hx⟩ : ∃ x : Value, x = .bool true := ⟨_, rfl⟩
            have X80 := Lib.hid hx
            clear hx
            obtain ⟨x81, hx⟩ : ∃ x : Value, x = FV id p i r s := ⟨_, rfl⟩
            have X81 := Lib.hid hx
            clear hx
            obtain ⟨x82, hx⟩ : ∃ x : Value, x = FV id p i r s := ⟨_, rfl⟩
            have X82 := Lib.hid hx
            clear hx
            obtain ⟨x83, hx⟩ : ∃ x : Value, x = z2 := ⟨_, rfl⟩
            have X83 := Lib.hid hx
            clear hx
            obtain ⟨x84, hx⟩ : ∃ x : Value, x = z4 := ⟨_, rfl⟩
            have X84 := Lib.hid hx
            clear hx
            obtain ⟨x86, hx⟩ : ∃ x : Value, x = V y := ⟨_, rfl⟩
            have X86 := Lib.hid hx
            clear hx
            obtain ⟨x87, hx⟩ : ∃ x : Value, x = V r2 := ⟨_, rfl⟩
            have X87 := Lib.hid hx
            clear hx
            obtain ⟨x88, hx⟩ : ∃ x : Value, x = V p := ⟨_, rfl⟩
            have X88 := Lib.hid hx
            clear hx
            obtain ⟨x89, hx⟩ : ∃ x : Value, x = V p := ⟨_, rfl⟩
            have X89 := Lib.hid hx
            clear hx
            obtain ⟨x90, hx⟩ : ∃ x : Value, x = V y1 := ⟨_, rfl⟩
            have X90 := Lib.hid hx
            clear hx
            obtain ⟨x91, hx⟩ : ∃ x : Value, x = V y2 := ⟨_, rfl⟩
            have X91 := Lib.hid hx
            clear hx
            obtain ⟨x92, hx⟩ : ∃ x : Value, x = V s2 := ⟨_, rfl⟩
            have X92 := Lib.hid hx
            clear hx
            obtain ⟨x93, hx⟩ : ∃ x : Value, x = V r2 := ⟨_, rfl⟩
            have X93 := Lib.hid hx
            clear hx
            obtain ⟨x94, hx⟩ : ∃ x : Value, x = .bool true := ⟨_, rfl⟩
            have X94 := Lib.hid hx
            clear hx
            obtain ⟨x95, hx⟩ : ∃ x : Value, x = .bool true := ⟨_, rfl⟩
            have X95 := Lib.hid hx
            clear hx
            obtain ⟨x6, hx⟩ : ∃ x : Value, x = .bool true := ⟨_, rfl⟩
            have X6 := Lib.hid hx
            clear hx
            refine wp_region_inv (fun a0 l a' w' => ∃ (u69 : Value), ∃ (u85 : Value), a' = (Act.put (fill a0 63 [sel (l 0) x63 undef, sel (l 1) x64 undef, sel (l 2) x65 undef, sel (l 3) x66 undef, sel (l 4) x67 undef, sel (l 5) x68 undef, sel (l 6) u69 undef, sel (l 7) x70 undef, sel (l 8) x71 undef, sel (l 9) x72 undef, sel (l 10) x73 undef, sel (l 11) x74 undef, sel (l 12) x75 undef, sel (l 13) x76 undef, sel (l 14) x77 undef, sel (l 15) x78 undef, sel (l 16) x79 undef, sel (l 17) x80 undef, sel (l 18) x81 undef, sel (l 19) x82 undef, sel (l 20) x83 undef, sel (l 21) x84 undef, sel (l 22) u85 undef, sel (l 23) x86 undef, sel (l 24) x87 undef, sel (l 25) x88 undef, sel (l 26) x89 undef, sel (l 27) x90 undef, sel (l 28) x91 undef, sel (l 29) x92 undef, sel (l 30) x93 undef, sel (l 31) x94 undef, sel (l 32) x95 undef]) (some 6) (sel (l 33) x6 (.bool false))) ∧ Lk l 6 u69 w' (sl.map (fm p)) ∧ Lk l 22 u85 w' (ml.map (fm p)) ∧ Off (fun _ => False) u5 w') (by kernel_rfl) (by kernel_rfl) ?_ ⟨?_, ?_, ?_, ?_, ?_, ?_, ?_, ?_, ?_, ?_, ?_, ?_, ?_, ?_, ?_, ?_, ?_, ?_, ?_, ?_, ?_, ?_, ?_, ?_, ?_, ?_, ?_, ?_, ?_, ?_, ?_, ?_, ?_, ?_, trivial⟩ ?_
            · refine ⟨undef, undef, ?_, Lk.start _ _ _ _, Lk.start _ _ _ _, (Off.refl _ u5).drew⟩
              simp only [fill_eq, List.take_succ_cons, List.take_zero, List.cons_append, List.nil_append, Act.put, List.setIfInBounds_toArray, List.set_cons_zero, List.set_cons_succ, sel_start]
            · as_aux_lemma =>
                rintro l a wr ⟨u69, u85, ha, M6, M22, hO⟩ hl hd K' hK
                have hx := X63.out; subst hx
                simp only [fill_eq, List.take_succ_cons, List.take_zero, List.cons_append, List.nil_append, Act.put, List.setIfInBounds_toArray, List.set_cons_zero, List.set_cons_succ] at ha
                subst ha
                rw [if_pos (by rfl)]
                go_simp
                refine (held_inv (FAL.out wr (HTW.out wr hO)) hO).mono ?_
                rintro e w1 ⟨rfl, hO1, hOW⟩
                go_wp2_with fail
                refine hK.out _ _ ⟨u69, u85, ?_, M6.keep hOW rfl, M22.keep hOW rfl, hO1⟩
                simp only [fill_eq, List.take_succ_cons, List.take_zero, List.cons_append, List.nil_append, Act.put, List.setIfInBounds_toArray, List.set_cons_zero, List.set_cons_succ, sel_new]
                rfl
            · as_aux_lemma =>
                rintro l a wr ⟨u69, u85, ha, M6, M22, hO⟩ hl hd K' hK
                have d0 := hd 0 (by decide)
                have hx := X63.out; subst hx
                have hx := X64.out; subst hx
                simp only [fill_eq, List.take_succ_cons, List.take_zero, List.cons_append, List.nil_append, Act.put, List.setIfInBounds_toArray, List.set_cons_zero, List.set_cons_succ, sel_of d0] at ha
                subst ha
                rw [if_pos (by rfl)]
                go_simp
                refine hK.out _ _ ⟨u69, u85, ?_, M6.keep (Off.refl _ wr) rfl, M22.keep (Off.refl _ wr) rfl, hO⟩
                simp only [fill_eq, List.take_succ_cons, List.take_zero, List.cons_append, List.nil_append, Act.put, List.setIfInBounds_toArray, List.set_cons_zero, List.set_cons_succ, sel_new, sel_dep d0]
                rfl
            · as_aux_lemma =>
                rintro l a wr ⟨u69, u85, ha, M6, M22, hO⟩ hl hd K' hK
                have d1 := hd 1 (by decide)
                have hx := X64.out; subst hx
                have hx := X65.out; subst hx
                simp only [fill_eq, List.take_succ_cons, List.take_zero, List.cons_append, List.nil_append, Act.put, List.setIfInBounds_toArray, List.set_cons_zero, List.set_cons_succ, sel_of d1] at ha
                subst ha
                have hc := HK9.out wr hO
                have p0 := hc.1.1
                have p1 := hc.1.2.1
                have p2 := hc.1.2.2.1
                have p3 := hc.1.2.2.2.1
                have p4 := hc.1.2.2.2.2.1
                have p5 := hc.1.2.2.2.2.2.1
                have p6 := hc.1.2.2.2.2.2.2.1
                have p7 := hc.1.2.2.2.2.2.2.2.1
                have p8 := hc.1.2.2.2.2.2.2.2.2.1
                have p9 := hc.1.2.2.2.2.2.2.2.2.2.1
                have p10 := hc.1.2.2.2.2.2.2.2.2.2.2.1
                have p11 := hc.1.2.2.2.2.2.2.2.2.2.2.2.1
                have p12 := hc.1.2.2.2.2.2.2.2.2.2.2.2.2.1
                have p13 := hc.1.2.2.2.2.2.2.2.2.2.2.2.2.2
                clear hc
                rw [if_pos (by rfl)]
                go_simp
                refine hK.out _ _ ⟨u69, u85, ?_, M6.keep (Off.refl _ wr) rfl, M22.keep (Off.refl _ wr) rfl, hO⟩
                simp only [fill_eq, List.take_succ_cons, List.take_zero, List.cons_append, List.nil_append, Act.put, List.setIfInBounds_toArray, List.set_cons_zero, List.set_cons_succ, sel_new, sel_dep d1]
                rfl
            · as_aux_lemma =>
                rintro l a wr ⟨u69, u85, ha, M6, M22, hO⟩ hl hd K' hK
                have d1 := hd 1 (by decide)
                have hx := X64.out; subst hx
                have hx := X66.out; subst hx
                simp only [fill_eq, List.take_succ_cons, List.take_zero, List.cons_append, List.nil_append, Act.put, List.setIfInBounds_toArray, List.set_cons_zero, List.set_cons_succ, sel_of d1] at ha
                subst ha
                have hc := HK9.out wr hO
                have p0 := hc.1.1
                have p1 := hc.1.2.1
                have p2 := hc.1.2.2.1
                have p3 := hc.1.2.2.2.1
                have p4 := hc.1.2.2.2.2.1
                have p5 := hc.1.2.2.2.2.2.1
                have p6 := hc.1.2.2.2.2.2.2.1
                have p7 := hc.1.2.2.2.2.2.2.2.1
                have p8 := hc.1.2.2.2.2.2.2.2.2.1
                have p9 := hc.1.2.2.2.2.2.2.2.2.2.1
                have p10 := hc.1.2.2.2.2.2.2.2.2.2.2.1
                have p11 := hc.1.2.2.2.2.2.2.2.2.2.2.2.1
                have p12 := hc.1.2.2.2.2.2.2.2.2.2.2.2.2.1
                have p13 := hc.1.2.2.2.2.2.2.2.2.2.2.2.2.2
                clear hc
                rw [if_pos (by rfl)]
                go_simp
                refine hK.out _ _ ⟨u69, u85, ?_, M6.keep (Off.refl _ wr) rfl, M22.keep (Off.refl _ wr) rfl, hO⟩
                simp only [fill_eq, List.take_succ_cons, List.take_zero, List.cons_append, List.nil_append, Act.put, List.setIfInBounds_toArray, List.set_cons_zero, List.set_cons_succ, sel_new, sel_dep d1]
                rfl
            · as_aux_lemma =>
                rintro l a wr ⟨u69, u85, ha, M6, M22, hO⟩ hl hd K' hK
                have d1 := hd 1 (by decide)
                have hx := X64.out; subst hx
                have hx := X67.out; subst hx
                simp only [fill_eq, List.take_succ_cons, List.take_zero, List.cons_append, List.nil_append, Act.put, List.setIfInBounds_toArray, List.set_cons_zero, List.set_cons_succ, sel_of d1] at ha
                subst ha
                rw [if_pos (by rfl)]
                go_simp
                refine hK.out _ _ ⟨u69, u85, ?_, M6.keep (Off.refl _ wr) rfl, M22.keep (Off.refl _ wr) rfl, hO⟩
                simp only [fill_eq, List.take_succ_cons, List.take_zero, List.cons_append, List.nil_append, Act.put, List.setIfInBounds_toArray, List.set_cons_zero, List.set_cons_succ, sel_new, sel_dep d1]
                rfl
            · as_aux_lemma =>
                rintro l a wr ⟨u69, u85, ha, M6, M22, hO⟩ hl hd K' hK
                have d1 := hd 1 (by decide)
                have hx := X64.out; subst hx
                have hx := X68.out; subst hx
                simp only [fill_eq, List.take_succ_cons, List.take_zero, List.cons_append, List.nil_append, Act.put, List.setIfInBounds_toArray, List.set_cons_zero, List.set_cons_succ, sel_of d1] at ha
                subst ha
                rw [if_pos (by rfl)]
                go_simp
                refine hK.out _ _ ⟨u69, u85, ?_, M6.keep (Off.refl _ wr) rfl, M22.keep (Off.refl _ wr) rfl, hO⟩
                simp only [fill_eq, List.take_succ_cons, List.take_zero, List.cons_append, List.nil_append, Act.put, List.setIfInBounds_toArray, List.set_cons_zero, List.set_cons_succ, sel_new, sel_dep d1]
                rfl
            · as_aux_lemma =>
                rintro l a wr ⟨u69, u85, ha, M6, M22, hO⟩ hl hd K' hK
                have d1 := hd 1 (by decide)
                have d3 := hd 3 (by decide)
                have d4 := hd 4 (by decide)
                have d5 := hd 5 (by decide)
                have hx := X64.out; subst hx
                have hx := X66.out; subst hx
                have hx := X67.out; subst hx
                have hx := X68.out; subst hx
                simp only [fill_eq, List.take_succ_cons, List.take_zero, List.cons_append, List.nil_append, Act.put, List.setIfInBounds_toArray, List.set_cons_zero, List.set_cons_succ, sel_of d1, sel_of d3, sel_of d4, sel_of d5] at ha
                subst ha
                rw [if_pos (by rfl)]
                go_simp
                refine (FA2.out wr hO).mono ?_
                rintro e w1 ⟨uv, rfl, hm, hOW⟩
                have hO1 := hO.trans hOW (fun _ _ c => c)
                go_wp2_with fail
                refine hK.out _ _ ⟨uv, u85, ?_, Lk.new hm, M22.keep hOW rfl, hO1⟩
                simp only [fill_eq, List.take_succ_cons, List.take_zero, List.cons_append, List.nil_append, Act.put, List.setIfInBounds_toArray, List.set_cons_zero, List.set_cons_succ, sel_new, sel_dep d1, sel_dep d3, sel_dep d4, sel_dep d5]
                rfl
            · as_aux_lemma =>
                rintro l a wr ⟨u69, u85, ha, M6, M22, hO⟩ hl hd K' hK
                have d1 := hd 1 (by decide)
                have hx := X64.out; subst hx
                have hx := X70.out; subst hx
                simp only [fill_eq, List.take_succ_cons, List.take_zero, List.cons_append, List.nil_append, Act.put, List.setIfInBounds_toArray, List.set_cons_zero, List.set_cons_succ, sel_of d1] at ha
                subst ha
                have hc := HK9.out wr hO
                have p0 := hc.2.2.1.1
                have p1 := hc.2.2.1.2.1
                have p2 := hc.2.2.1.2.2.1
                have p3 := hc.2.2.1.2.2.2
                clear hc
                rw [if_pos (by rfl)]
                go_simp
                refine hK.out _ _ ⟨u69, u85, ?_, M6.keep (Off.refl _ wr) rfl, M22.keep (Off.refl _ wr) rfl, hO⟩
                simp only [fill_eq, List.take_succ_cons, List.take_zero, List.cons_append, List.nil_append, Act.put, List.setIfInBounds_toArray, List.set_cons_zero, List.set_cons_succ, sel_new, sel_dep d1]
                rfl
            · as_aux_lemma =>
                rintro l a wr ⟨u69, u85, ha, M6, M22, hO⟩ hl hd K' hK
                have d1 := hd 1 (by decide)
                have d2 := hd 2 (by decide)
                have d6 := hd 6 (by decide)
                have d7 := hd 7 (by decide)
                have hx := X64.out; subst hx
                have hx := X65.out; subst hx
                have m6 := M6 d6
                have hx := X70.out; subst hx
                have hx := X71.out; subst hx
                simp only [fill_eq, List.take_succ_cons, List.take_zero, List.cons_append, List.nil_append, Act.put, List.setIfInBounds_toArray, List.set_cons_zero, List.set_cons_succ, sel_of d1, sel_of d2, sel_of d6, sel_of d7] at ha
                subst ha
                rw [if_pos (by rfl)]
                go_simp
                refine (held_inv (FE3.out wr u69 m6) hO).mono ?_
                rintro e w1 ⟨rfl, hO1, hOW⟩
                go_wp2_with fail
                refine hK.out _ _ ⟨u69, u85, ?_, M6.keep hOW rfl, M22.keep hOW rfl, hO1⟩
                simp only [fill_eq, List.take_succ_cons, List.take_zero, List.cons_append, List.nil_append, Act.put, List.setIfInBounds_toArray, List.set_cons_zero, List.set_cons_succ, sel_new, sel_dep d1, sel_dep d2, sel_dep d6, sel_dep d7]
                rfl
            · as_aux_lemma =>
                rintro l a wr ⟨u69, u85, ha, M6, M22, hO⟩ hl hd K' hK
                have d1 := hd 1 (by decide)
                have hx := X64.out; subst hx
                have hx := X72.out; subst hx
                simp only [fill_eq, List.take_succ_cons, List.take_zero, List.cons_append, List.nil_append, Act.put, List.setIfInBounds_toArray, List.set_cons_zero, List.set_cons_succ, sel_of d1] at ha
                subst ha
                have hc := HK9.out wr hO
                have p0 := hc.2.1.1
                have p1 := hc.2.1.2.1
                have p2 := hc.2.1.2.2.1
                have p3 := hc.2.1.2.2.2
                clear hc
                rw [if_pos (by rfl)]
                go_simp
                refine hK.out _ _ ⟨u69, u85, ?_, M6.keep (Off.refl _ wr) rfl, M22.keep (Off.refl _ wr) rfl, hO⟩
                simp only [fill_eq, List.take_succ_cons, List.take_zero, List.cons_append, List.nil_append, Act.put, List.setIfInBounds_toArray, List.set_cons_zero, List.set_cons_succ, sel_new, sel_dep d1]
                rfl
            · as_aux_lemma =>
                rintro l a wr ⟨u69, u85, ha, M6, M22, hO⟩ hl hd K' hK
                have d1 := hd 1 (by decide)
                have hx := X64.out; subst hx
                have hx := X73.out; subst hx
                simp only [fill_eq, List.take_succ_cons, List.take_zero, List.cons_append, List.nil_append, Act.put, List.setIfInBounds_toArray, List.set_cons_zero, List.set_cons_succ, sel_of d1] at ha
                subst ha
                have hc := HK9.out wr hO
                have p0 := hc.2.1.1
                have p1 := hc.2.1.2.1
                have p2 := hc.2.1.2.2.1
                have p3 := hc.2.1.2.2.2
                clear hc
                rw [if_pos (by rfl)]
                go_simp
                refine hK.out _ _ ⟨u69, u85, ?_, M6.keep (Off.refl _ wr) rfl, M22.keep (Off.refl _ wr) rfl, hO⟩
                simp only [fill_eq, List.take_succ_cons, List.take_zero, List.cons_append, List.nil_append, Act.put, List.setIfInBounds_toArray, List.set_cons_zero, List.set_cons_succ, sel_new, sel_dep d1]
                rfl
            · as_aux_lemma =>
                rintro l a wr ⟨u69, u85, ha, M6, M22, hO⟩ hl hd K' hK
                have d1 := hd 1 (by decide)
                have hx := X64.out; subst hx
                have hx := X74.out; subst hx
                simp only [fill_eq, List.take_succ_cons, List.take_zero, List.cons_append, List.nil_append, Act.put, List.setIfInBounds_toArray, List.set_cons_zero, List.set_cons_succ, sel_of d1] at ha
                subst ha
                have hc := HK9.out wr hO
                have p0 := hc.2.2.2.1.1
                have p1 := hc.2.2.2.1.2.1
                have p2 := hc.2.2.2.1.2.2.1
                have p3 := hc.2.2.2.1.2.2.2
                clear hc
                rw [if_pos (by rfl)]
                go_simp
                refine hK.out _ _ ⟨u69, u85, ?_, M6.keep (Off.refl _ wr) rfl, M22.keep (Off.refl _ wr) rfl, hO⟩
                simp only [fill_eq, List.take_succ_cons, List.take_zero, List.cons_append, List.nil_append, Act.put, List.setIfInBounds_toArray, List.set_cons_zero, List.set_cons_succ, sel_new, sel_dep d1]
                rfl
            · as_aux_lemma =>
                rintro l a wr ⟨u69, u85, ha, M6, M22, hO⟩ hl hd K' hK
                have d1 := hd 1 (by decide)
                have hx := X64.out; subst hx
                have hx := X75.out; subst hx
                simp only [fill_eq, List.take_succ_cons, List.take_zero, List.cons_append, List.nil_append, Act.put, List.setIfInBounds_toArray, List.set_cons_zero, List.set_cons_succ, sel_of d1] at ha
                subst ha
                have hc := HK9.out wr hO
                have p0 := hc.2.2.2.2.1.1
                have p1 := hc.2.2.2.2.1.2.1
                have p2 := hc.2.2.2.2.1.2.2.1
                have p3 := hc.2.2.2.2.1.2.2.2
                clear hc
                rw [if_pos (by rfl)]
                go_simp
                refine hK.out _ _ ⟨u69, u85, ?_, M6.keep (Off.refl _ wr) rfl, M22.keep (Off.refl _ wr) rfl, hO⟩
                simp only [fill_eq, List.take_succ_cons, List.take_zero, List.cons_append, List.nil_append, Act.put, List.setIfInBounds_toArray, List.set_cons_zero, List.set_cons_succ, sel_new, sel_dep d1]
                rfl
            · as_aux_lemma =>
                rintro l a wr ⟨u69, u85, ha, M6, M22, hO⟩ hl hd K' hK
                have d1 := hd 1 (by decide)
                have d10 := hd 10 (by decide)
                have d11 := hd 11 (by decide)
                have d12 := hd 12 (by decide)
                have hx := X64.out; subst hx
                have hx := X73.out; subst hx
                have hx := X74.out; subst hx
                have hx := X75.out; subst hx
                have hx := X76.out; subst hx
                simp only [fill_eq, List.take_succ_cons, List.take_zero, List.cons_append, List.nil_append, Act.put, List.setIfInBounds_toArray, List.set_cons_zero, List.set_cons_succ, sel_of d1, sel_of d10, sel_of d11, sel_of d12] at ha
                subst ha
                rw [if_pos (by rfl)]
                go_simp
                refine (held_inv (FA4.out wr) hO).mono ?_
                rintro e w1 ⟨rfl, hO1, hOW⟩
                go_wp2_with fail
                refine hK.out _ _ ⟨u69, u85, ?_, M6.keep hOW rfl, M22.keep hOW rfl, hO1⟩
                simp only [fill_eq, List.take_succ_cons, List.take_zero, List.cons_append, List.nil_append, Act.put, List.setIfInBounds_toArray, List.set_cons_zero, List.set_cons_succ, sel_new, sel_dep d1, sel_dep d10, sel_dep d11, sel_dep d12]
                rfl
            · as_aux_lemma =>
                rintro l a wr ⟨u69, u85, ha, M6, M22, hO⟩ hl hd K' hK
                have d1 := hd 1 (by decide)
                have d9 := hd 9 (by decide)
                have d13 := hd 13 (by decide)
                have hx := X64.out; subst hx
                have hx := X72.out; subst hx
                have hx := X76.out; subst hx
                have hx := X77.out; subst hx
                simp only [fill_eq, List.take_succ_cons, List.take_zero, List.cons_append, List.nil_append, Act.put, List.setIfInBounds_toArray, List.set_cons_zero, List.set_cons_succ, sel_of d1, sel_of d9, sel_of d13] at ha
                subst ha
                rw [if_pos (by rfl)]
                go_simp
                refine (held_inv (FF1.out wr) hO).mono ?_
                rintro e w1 ⟨rfl, hO1, hOW⟩
                go_wp2_with fail
                refine hK.out _ _ ⟨u69, u85, ?_, M6.keep hOW rfl, M22.keep hOW rfl, hO1⟩
                simp only [fill_eq, List.take_succ_cons, List.take_zero, List.cons_append, List.nil_append, Act.put, List.setIfInBounds_toArray, List.set_cons_zero, List.set_cons_succ, sel_new, sel_dep d1, sel_dep d9, sel_dep d13]
                rfl
            · as_aux_lemma =>
                rintro l a wr ⟨u69, u85, ha, M6, M22, hO⟩ hl hd K' hK
                have d1 := hd 1 (by decide)
                have d8 := hd 8 (by decide)
                have d14 := hd 14 (by decide)
                have hx := X64.out; subst hx
                have hx := X71.out; subst hx
                have hx := X77.out; subst hx
                have hx := X78.out; subst hx
                simp only [fill_eq, List.take_succ_cons, List.take_zero, List.cons_append, List.nil_append, Act.put, List.setIfInBounds_toArray, List.set_cons_zero, List.set_cons_succ, sel_of d1, sel_of d8, sel_of d14] at ha
                subst ha
                rw [if_pos (by rfl)]
                go_simp
                refine hK.out _ _ ⟨u69, u85, ?_, M6.keep (Off.refl _ wr) rfl, M22.keep (Off.refl _ wr) rfl, hO⟩
                simp only [fill_eq, List.take_succ_cons, List.take_zero, List.cons_append, List.nil_append, Act.put, List.setIfInBounds_toArray, List.set_cons_zero, List.set_cons_succ, sel_new, sel_dep d1, sel_dep d8, sel_dep d14]
                rfl
            · as_aux_lemma =>
                rintro l a wr ⟨u69, u85, ha, M6, M22, hO⟩ hl hd K' hK
                have d1 := hd 1 (by decide)
                have d15 := hd 15 (by decide)
                have hx := X64.out; subst hx
                have hx := X78.out; subst hx
                have hx := X79.out; subst hx
                simp only [fill_eq, List.take_succ_cons, List.take_zero, List.cons_append, List.nil_append, Act.put, List.setIfInBounds_toArray, List.set_cons_zero, List.set_cons_succ, sel_of d1, sel_of d15] at ha
                subst ha
                rw [if_pos (by rfl)]
                go_simp
                refine hK.out _ _ ⟨u69, u85, ?_, M6.keep (Off.refl _ wr) rfl, M22.keep (Off.refl _ wr) rfl, hO⟩
                simp only [fill_eq, List.take_succ_cons, List.take_zero, List.cons_append, List.nil_append, Act.put, List.setIfInBounds_toArray, List.set_cons_zero, List.set_cons_succ, sel_new, sel_dep d1, sel_dep d15]
                rfl
            · as_aux_lemma =>
                rintro l a wr ⟨u69, u85, ha, M6, M22, hO⟩ hl hd K' hK
                have d16 := hd 16 (by decide)
                have hx := X79.out; subst hx
                have hx := X80.out; subst hx
                simp only [fill_eq, List.take_succ_cons, List.take_zero, List.cons_append, List.nil_append, Act.put, List.setIfInBounds_toArray, List.set_cons_zero, List.set_cons_succ, sel_of d16] at ha
                subst ha
                rw [if_pos (by rfl)]
                go_simp
                refine hK.out _ _ ⟨u69, u85, ?_, M6.keep (Off.refl _ wr) rfl, M22.keep (Off.refl _ wr) rfl, hO⟩
                simp only [fill_eq, List.take_succ_cons, List.take_zero, List.cons_append, List.nil_append, Act.put, List.setIfInBounds_toArray, List.set_cons_zero, List.set_cons_succ, sel_new, sel_dep d16]
                rfl
            · as_aux_lemma =>
                rintro l a wr ⟨u69, u85, ha, M6, M22, hO⟩ hl hd K' hK
                have d17 := hd 17 (by decide)
                have hx := X80.out; subst hx
                have hx := X81.out; subst hx
                simp only [fill_eq, List.take_succ_cons, List.take_zero, List.cons_append, List.nil_append, Act.put, List.setIfInBounds_toArray, List.set_cons_zero, List.set_cons_succ, sel_of d17] at ha
                subst ha
                have hc := HK9.out wr hO
                have p0 := hc.1.1
                have p1 := hc.1.2.1
                have p2 := hc.1.2.2.1
                have p3 := hc.1.2.2.2.1
                have p4 := hc.1.2.2.2.2.1
                have p5 := hc.1.2.2.2.2.2.1
                have p6 := hc.1.2.2.2.2.2.2.1
                have p7 := hc.1.2.2.2.2.2.2.2.1
                have p8 := hc.1.2.2.2.2.2.2.2.2.1
                have p9 := hc.1.2.2.2.2.2.2.2.2.2.1
                have p10 := hc.1.2.2.2.2.2.2.2.2.2.2.1
                have p11 := hc.1.2.2.2.2.2.2.2.2.2.2.2.1
                have p12 := hc.1.2.2.2.2.2.2.2.2.2.2.2.2.1
                have p13 := hc.1.2.2.2.2.2.2.2.2.2.2.2.2.2
                clear hc
                rw [if_pos (by rfl)]
                go_simp
                refine hK.out _ _ ⟨u69, u85, ?_, M6.keep (Off.refl _ wr) rfl, M22.keep (Off.refl _ wr) rfl, hO⟩
                simp only [fill_eq, List.take_succ_cons, List.take_zero, List.cons_append, List.nil_append, Act.put, List.setIfInBounds_toArray, List.set_cons_zero, List.set_cons_succ, sel_new, sel_dep d17]
                rfl
            · as_aux_lemma =>
                rintro l a wr ⟨u69, u85, ha, M6, M22, hO⟩ hl hd K' hK
                have d17 := hd 17 (by decide)
                have hx := X80.out; subst hx
                have hx := X82.out; subst hx
                simp only [fill_eq, List.take_succ_cons, List.take_zero, List.cons_append, List.nil_append, Act.put, List.setIfInBounds_toArray, List.set_cons_zero, List.set_cons_succ, sel_of d17] at ha
                subst ha
                have hc := HK9.out wr hO
                have p0 := hc.1.1
                have p1 := hc.1.2.1
                have p2 := hc.1.2.2.1
                have p3 := hc.1.2.2.2.1
                have p4 := hc.1.2.2.2.2.1
                have p5 := hc.1.2.2.2.2.2.1
                have p6 := hc.1.2.2.2.2.2.2.1
                have p7 := hc.1.2.2.2.2.2.2.2.1
                have p8 := hc.1.2.2.2.2.2.2.2.2.1
                have p9 := hc.1.2.2.2.2.2.2.2.2.2.1
                have p10 := hc.1.2.2.2.2.2.2.2.2.2.2.1
                have p11 := hc.1.2.2.2.2.2.2.2.2.2.2.2.1
                have p12 := hc.1.2.2.2.2.2.2.2.2.2.2.2.2.1
                have p13 := hc.1.2.2.2.2.2.2.2.2.2.2.2.2.2
                clear hc
                rw [if_pos (by rfl)]
                go_simp
                refine hK.out _ _ ⟨u69, u85, ?_, M6.keep (Off.refl _ wr) rfl, M22.keep (Off.refl _ wr) rfl, hO⟩
                simp only [fill_eq, List.take_succ_cons, List.take_zero, List.cons_append, List.nil_append, Act.put, List.setIfInBounds_toArray, List.set_cons_zero, List.set_cons_succ, sel_new, sel_dep d17]
                rfl
            · as_aux_lemma =>
                rintro l a wr ⟨u69, u85, ha, M6, M22, hO⟩ hl hd K' hK
                have d17 := hd 17 (by decide)
                have hx := X80.out; subst hx
                have hx := X83.out; subst hx
                simp only [fill_eq, List.take_succ_cons, List.take_zero, List.cons_append, List.nil_append, Act.put, List.setIfInBounds_toArray, List.set_cons_zero, List.set_cons_succ, sel_of d17] at ha
                subst ha
                rw [if_pos (by rfl)]
                go_simp
                refine hK.out _ _ ⟨u69, u85, ?_, M6.keep (Off.refl _ wr) rfl, M22.keep (Off.refl _ wr) rfl, hO⟩
                simp only [fill_eq, List.take_succ_cons, List.take_zero, List.cons_append, List.nil_append, Act.put, List.setIfInBounds_toArray, List.set_cons_zero, List.set_cons_succ, sel_new, sel_dep d17]
                rfl
            · as_aux_lemma =>
                rintro l a wr ⟨u69, u85, ha, M6, M22, hO⟩ hl hd K' hK
                have d17 := hd 17 (by decide)
                have hx := X80.out; subst hx
                have hx := X84.out; subst hx
                simp only [fill_eq, List.take_succ_cons, List.take_zero, List.cons_append, List.nil_append, Act.put, List.setIfInBounds_toArray, List.set_cons_zero, List.set_cons_succ, sel_of d17] at ha
                subst ha
                rw [if_pos (by rfl)]
                go_simp
                refine hK.out _ _ ⟨u69, u85, ?_, M6.keep (Off.refl _ wr) rfl, M22.keep (Off.refl _ wr) rfl, hO⟩
                simp only [fill_eq, List.take_succ_cons, List.take_zero, List.cons_append, List.nil_append, Act.put, List.setIfInBounds_toArray, List.set_cons_zero, List.set_cons_succ, sel_new, sel_dep d17]
                rfl
            · as_aux_lemma =>
                rintro l a wr ⟨u69, u85, ha, M6, M22, hO⟩ hl hd K' hK
                have d17 := hd 17 (by decide)
                have d19 := hd 19 (by decide)
                have d20 := hd 20 (by decide)
                have d21 := hd 21 (by decide)
                have hx := X80.out; subst hx
                have hx := X82.out; subst hx
                have hx := X83.out; subst hx
                have hx := X84.out; subst hx
                simp only [fill_eq, List.take_succ_cons, List.take_zero, List.cons_append, List.nil_append, Act.put, List.setIfInBounds_toArray, List.set_cons_zero, List.set_cons_succ, sel_of d17, sel_of d19, sel_of d20, sel_of d21] at ha
                subst ha
                rw [if_pos (by rfl)]
                go_simp
                refine (FM2.out wr hO).mono ?_
                rintro e w1 ⟨uv, rfl, hm, hOW⟩
                have hO1 := hO.trans hOW (fun _ _ c => c)
                go_wp2_with fail
                refine hK.out _ _ ⟨u69, uv, ?_, M6.keep hOW rfl, Lk.new hm, hO1⟩
                simp only [fill_eq, List.take_succ_cons, List.take_zero, List.cons_append, List.nil_append, Act.put, List.setIfInBounds_toArray, List.set_cons_zero, List.set_cons_succ, sel_new, sel_dep d17, sel_dep d19, sel_dep d20, sel_dep d21]
                rfl
            · as_aux_lemma =>
                rintro l a wr ⟨u69, u85, ha, M6, M22, hO⟩ hl hd K' hK
                have d17 := hd 17 (by decide)
                have hx := X80.out; subst hx
                have hx := X86.out; subst hx
                simp only [fill_eq, List.take_succ_cons, List.take_zero, List.cons_append, List.nil_append, Act.put, List.setIfInBounds_toArray, List.set_cons_zero, List.set_cons_succ, sel_of d17] at ha
                subst ha
                have hc := HK9.out wr hO
                have p0 := hc.2.2.1.1
                have p1 := hc.2.2.1.2.1
                have p2 := hc.2.2.1.2.2.1
                have p3 := hc.2.2.1.2.2.2
                clear hc
                rw [if_pos (by rfl)]
                go_simp
                refine hK.out _ _ ⟨u69, u85, ?_, M6.keep (Off.refl _ wr) rfl, M22.keep (Off.refl _ wr) rfl, hO⟩
                simp only [fill_eq, List.take_succ_cons, List.take_zero, List.cons_append, List.nil_append, Act.put, List.setIfInBounds_toArray, List.set_cons_zero, List.set_cons_succ, sel_new, sel_dep d17]
                rfl
            · as_aux_lemma =>
                rintro l a wr ⟨u69, u85, ha, M6, M22, hO⟩ hl hd K' hK
                have d17 := hd 17 (by decide)
                have d18 := hd 18 (by decide)
                have d22 := hd 22 (by decide)
                have d23 := hd 23 (by decide)
                have hx := X80.out; subst hx
                have hx := X81.out; subst hx
                have m22 := M22 d22
                have hx := X86.out; subst hx
                have hx := X87.out; subst hx
                simp only [fill_eq, List.take_succ_cons, List.take_zero, List.cons_append, List.nil_append, Act.put, List.setIfInBounds_toArray, List.set_cons_zero, List.set_cons_succ, sel_of d17, sel_of d18, sel_of d22, sel_of d23] at ha
                subst ha
                rw [if_pos (by rfl)]
                go_simp
                refine (held_inv (FE4.out wr u85 m22) hO).mono ?_
                rintro e w1 ⟨rfl, hO1, hOW⟩
                go_wp2_with fail
                refine hK.out _ _ ⟨u69, u85, ?_, M6.keep hOW rfl, M22.keep hOW rfl, hO1⟩
                simp only [fill_eq, List.take_succ_cons, List.take_zero, List.cons_append, List.nil_append, Act.put, List.setIfInBounds_toArray, List.set_cons_zero, List.set_cons_succ, sel_new, sel_dep d17, sel_dep d18, sel_dep d22, sel_dep d23]
                rfl
            · as_aux_lemma =>
                rintro l a wr ⟨u69, u85, ha, M6, M22, hO⟩ hl hd K' hK
                have d17 := hd 17 (by decide)
                have hx := X80.out; subst hx
                have hx := X88.out; subst hx
                simp only [fill_eq, List.take_succ_cons, List.take_zero, List.cons_append, List.nil_append, Act.put, List.setIfInBounds_toArray, List.set_cons_zero, List.set_cons_succ, sel_of d17] at ha
                subst ha
                have hc := HK9.out wr hO
                have p0 := hc.2.1.1
                have p1 := hc.2.1.2.1
                have p2 := hc.2.1.2.2.1
                have p3 := hc.2.1.2.2.2
                clear hc
                rw [if_pos (by rfl)]
                go_simp
                refine hK.out _ _ ⟨u69, u85, ?_, M6.keep (Off.refl _ wr) rfl, M22.keep (Off.refl _ wr) rfl, hO⟩
                simp only [fill_eq, List.take_succ_cons, List.take_zero, List.cons_append, List.nil_append, Act.put, List.setIfInBounds_toArray, List.set_cons_zero, List.set_cons_succ, sel_new, sel_dep d17]
                rfl
            · as_aux_lemma =>
                rintro l a wr ⟨u69, u85, ha, M6, M22, hO⟩ hl hd K' hK
                have d17 := hd 17 (by decide)
                have hx := X80.out; subst hx
                have hx := X89.out; subst hx
                simp only [fill_eq, List.take_succ_cons, List.take_zero, List.cons_append, List.nil_append, Act.put, List.setIfInBounds_toArray, List.set_cons_zero, List.set_cons_succ, sel_of d17] at ha
                subst ha
                have hc := HK9.out wr hO
                have p0 := hc.2.1.1
                have p1 := hc.2.1.2.1
                have p2 := hc.2.1.2.2.1
                have p3 := hc.2.1.2.2.2
                clear hc
                rw [if_pos (by rfl)]
                go_simp
                refine hK.out _ _ ⟨u69, u85, ?_, M6.keep (Off.refl _ wr) rfl, M22.keep (Off.refl _ wr) rfl, hO⟩
                simp only [fill_eq, List.take_succ_cons, List.take_zero, List.cons_append, List.nil_append, Act.put, List.setIfInBounds_toArray, List.set_cons_zero, List.set_cons_succ, sel_new, sel_dep d17]
                rfl
            · as_aux_lemma =>
                rintro l a wr ⟨u69, u85, ha, M6, M22, hO⟩ hl hd K' hK
                have d17 := hd 17 (by decide)
                have hx := X80.out; subst hx
                have hx := X90.out; subst hx
                simp only [fill_eq, List.take_succ_cons, List.take_zero, List.cons_append, List.nil_append, Act.put, List.setIfInBounds_toArray, List.set_cons_zero, List.set_cons_succ, sel_of d17] at ha
                subst ha
                have hc := HK9.out wr hO
                have p0 := hc.2.2.2.1.1
                have p1 := hc.2.2.2.1.2.1
                have p2 := hc.2.2.2.1.2.2.1
                have p3 := hc.2.2.2.1.2.2.2
                clear hc
                rw [if_pos (by rfl)]
                go_simp
                refine hK.out _ _ ⟨u69, u85, ?_, M6.keep (Off.refl _ wr) rfl, M22.keep (Off.refl _ wr) rfl, hO⟩
                simp only [fill_eq, List.take_succ_cons, List.take_zero, List.cons_append, List.nil_append, Act.put, List.setIfInBounds_toArray, List.set_cons_zero, List.set_cons_succ, sel_new, sel_dep d17]
                rfl
            · as_aux_lemma =>
                rintro l a wr ⟨u69, u85, ha, M6, M22, hO⟩ hl hd K' hK
                have d17 := hd 17 (by decide)
                have hx := X80.out; subst hx
                have hx := X91.out; subst hx
                simp only [fill_eq, List.take_succ_cons, List.take_zero, List.cons_append, List.nil_append, Act.put, List.setIfInBounds_toArray, List.set_cons_zero, List.set_cons_succ, sel_of d17] at ha
                subst ha
                have hc := HK9.out wr hO
                have p0 := hc.2.2.2.2.1.1
                have p1 := hc.2.2.2.2.1.2.1
                have p2 := hc.2.2.2.2.1.2.2.1
                have p3 := hc.2.2.2.2.1.2.2.2
                clear hc
                rw [if_pos (by rfl)]
                go_simp
                refine hK.out _ _ ⟨u69, u85, ?_, M6.keep (Off.refl _ wr) rfl, M22.keep (Off.refl _ wr) rfl, hO⟩
                simp only [fill_eq, List.take_succ_cons, List.take_zero, List.cons_append, List.nil_append, Act.put, List.setIfInBounds_toArray, List.set_cons_zero, List.set_cons_succ, sel_new, sel_dep d17]
                rfl
            · as_aux_lemma =>
                rintro l a wr ⟨u69, u85, ha, M6, M22, hO⟩ hl hd K' hK
                have d17 := hd 17 (by decide)
                have d26 := hd 26 (by decide)
                have d27 := hd 27 (by decide)
                have d28 := hd 28 (by decide)
                have hx := X80.out; subst hx
                have hx := X89.out; subst hx
                have hx := X90.out; subst hx
                have hx := X91.out; subst hx
                have hx := X92.out; subst hx
                simp only [fill_eq, List.take_succ_cons, List.take_zero, List.cons_append, List.nil_append, Act.put, List.setIfInBounds_toArray, List.set_cons_zero, List.set_cons_succ, sel_of d17, sel_of d26, sel_of d27, sel_of d28] at ha
                subst ha
                rw [if_pos (by rfl)]
                go_simp
                refine (held_inv (FM4.out wr) hO).mono ?_
                rintro e w1 ⟨rfl, hO1, hOW⟩
                go_wp2_with fail
                refine hK.out _ _ ⟨u69, u85, ?_, M6.keep hOW rfl, M22.keep hOW rfl, hO1⟩
                simp only [fill_eq, List.take_succ_cons, List.take_zero, List.cons_append, List.nil_append, Act.put, List.setIfInBounds_toArray, List.set_cons_zero, List.set_cons_succ, sel_new, sel_dep d17, sel_dep d26, sel_dep d27, sel_dep d28]
                rfl
            · as_aux_lemma =>
                rintro l a wr ⟨u69, u85, ha, M6, M22, hO⟩ hl hd K' hK
                have d17 := hd 17 (by decide)
                have d25 := hd 25 (by decide)
                have d29 := hd 29 (by decide)
                have hx := X80.out; subst hx
                have hx := X88.out; subst hx
                have hx := X92.out; subst hx
                have hx := X93.out; subst hx
                simp only [fill_eq, List.take_succ_cons, List.take_zero, List.cons_append, List.nil_append, Act.put, List.setIfInBounds_toArray, List.set_cons_zero, List.set_cons_succ, sel_of d17, sel_of d25, sel_of d29] at ha
                subst ha
                rw [if_pos (by rfl)]
                go_simp
                refine (held_inv (FF2.out wr) hO).mono ?_
                rintro e w1 ⟨rfl, hO1, hOW⟩
                go_wp2_with fail
                refine hK.out _ _ ⟨u69, u85, ?_, M6.keep hOW rfl, M22.keep hOW rfl, hO1⟩
                simp only [fill_eq, List.take_succ_cons, List.take_zero, List.cons_append, List.nil_append, Act.put, List.setIfInBounds_toArray, List.set_cons_zero, List.set_cons_succ, sel_new, sel_dep d17, sel_dep d25, sel_dep d29]
                rfl
            · as_aux_lemma =>
                rintro l a wr ⟨u69, u85, ha, M6, M22, hO⟩ hl hd K' hK
                have d17 := hd 17 (by decide)
                have d24 := hd 24 (by decide)
                have d30 := hd 30 (by decide)
                have hx := X80.out; subst hx
                have hx := X87.out; subst hx
                have hx := X93.out; subst hx
                have hx := X94.out; subst hx
                simp only [fill_eq, List.take_succ_cons, List.take_zero, List.cons_append, List.nil_append, Act.put, List.setIfInBounds_toArray, List.set_cons_zero, List.set_cons_succ, sel_of d17, sel_of d24, sel_of d30] at ha
                subst ha
                rw [if_pos (by rfl)]
                go_simp
                refine hK.out _ _ ⟨u69, u85, ?_, M6.keep (Off.refl _ wr) rfl, M22.keep (Off.refl _ wr) rfl, hO⟩
                simp only [fill_eq, List.take_succ_cons, List.take_zero, List.cons_append, List.nil_append, Act.put, List.setIfInBounds_toArray, List.set_cons_zero, List.set_cons_succ, sel_new, sel_dep d17, sel_dep d24, sel_dep d30]
                rfl
            · as_aux_lemma =>
                rintro l a wr ⟨u69, u85, ha, M6, M22, hO⟩ hl hd K' hK
                have d17 := hd 17 (by decide)
                have d31 := hd 31 (by decide)
                have hx := X80.out; subst hx
                have hx := X94.out; subst hx
                have hx := X95.out; subst hx
                simp only [fill_eq, List.take_succ_cons, List.take_zero, List.cons_append, List.nil_append, Act.put, List.setIfInBounds_toArray, List.set_cons_zero, List.set_cons_succ, sel_of d17, sel_of d31] at ha
                subst ha
                rw [if_pos (by rfl)]
                go_simp
                refine hK.out _ _ ⟨u69, u85, ?_, M6.keep (Off.refl _ wr) rfl, M22.keep (Off.refl _ wr) rfl, hO⟩
                simp only [fill_eq, List.take_succ_cons, List.take_zero, List.cons_append, List.nil_append, Act.put, List.setIfInBounds_toArray, List.set_cons_zero, List.set_cons_succ, sel_new, sel_dep d17, sel_dep d31]
                rfl
            · as_aux_lemma =>
                rintro l a wr ⟨u69, u85, ha, M6, M22, hO⟩ hl hd K' hK
                have d32 := hd 32 (by decide)
                have hx := X95.out; subst hx
                have hx := X6.out; subst hx
                simp only [fill_eq, List.take_succ_cons, List.take_zero, List.cons_append, List.nil_append, Act.put, List.setIfInBounds_toArray, List.set_cons_zero, List.set_cons_succ, sel_of d32] at ha
                subst ha
                rw [if_pos (by rfl)]
                go_simp
                refine hK.out _ _ ⟨u69, u85, ?_, M6.keep (Off.refl _ wr) rfl, M22.keep (Off.refl _ wr) rfl, hO⟩
                simp only [fill_eq, List.take_succ_cons, List.take_zero, List.cons_append, List.nil_append, Act.put, List.setIfInBounds_toArray, List.set_cons_zero, List.set_cons_succ, sel_new, sel_dep d32]
                rfl
            · rintro l a wc ⟨u69, u85, ha, M6, M22, hO⟩ hd
              simp only [fill_eq, List.take_succ_cons, List.take_zero, List.cons_append, List.nil_append, Act.put, List.setIfInBounds_toArray, List.set_cons_zero, List.set_cons_succ, sel_of (hd 0 (by decide)), sel_of (hd 1 (by decide)), sel_of (hd 2 (by decide)), sel_of (hd 3 (by decide)), sel_of (hd 4 (by decide)), sel_of (hd 5 (by decide)), sel_of (hd 6 (by decide)), sel_of (hd 7 (by decide)), sel_of (hd 8 (by decide)), sel_of (hd 9 (by decide)), sel_of (hd 10 (by decide)), sel_of (hd 11 (by decide)), sel_of (hd 12 (by decide)), sel_of (hd 13 (by decide)), sel_of (hd 14 (by decide)), sel_of (hd 15 (by decide)), sel_of (hd 16 (by decide)), sel_of (hd 17 (by decide)), sel_of (hd 18 (by decide)), sel_of (hd 19 (by decide)), sel_of (hd 20 (by decide)), sel_of (hd 21 (by decide)), sel_of (hd 22 (by decide)), sel_of (hd 23 (by decide)), sel_of (hd 24 (by decide)), sel_of (hd 25 (by decide)), sel_of (hd 26 (by decide)), sel_of (hd 27 (by decide)), sel_of (hd 28 (by decide)), sel_of (hd 29 (by decide)), sel_of (hd 30 (by decide)), sel_of (hd 31 (by decide)), sel_of (hd 32 (by decide)), sel_of (hd 33 (by decide))] at ha
              subst ha
              have hx := X6.out; subst hx
              have HOf := Lib.hid (HOw.out.trans hO (fun _ _ c => c))
              clear hO hd
              go_wp2
              go_ret
              exact ⟨rfl, HOf.out⟩

theorem door_met (os : Os) (args : Array Value) : laidMetH Tryd.prog [("sharecore/field.fields", Rows.laid_sharecore_field_fields)] ((World.doorLaid Tryd.prog 400 os).forCall (fun _ _ => 0) ⟨#[], args, []⟩).memory :=
  laidMetH_of_parts3 (fuel := 8) (laidMet_of_run' 8 (by kernel_rfl) (by kernel_rfl)) (by kernel_rfl) (by kernel_rfl)

set_option maxRecDepth 100000 in
theorem lifted (os : Os) (started : os.Started) (H : Type) (enc : TypeId × Value → H) :
    ReturnsInHanded {} Tryd.checked os 8 .any (fun w args => (Rows.polyHomomorphismSpec.pre enc Tryd.prog Tryd.f8 [] false w args ∧ laidMetH Tryd.prog [("sharecore/field.fields", Rows.laid_sharecore_field_fields)] w) ∧ sizedMet enc Tryd.prog Tryd.f8 (OpenSpec.ofChange Rows.polyHomomorphismSpec) false w args)
      (Rows.polyHomomorphismSpec.post enc Tryd.prog Tryd.f8 false true false false) := by
  refine returnsInHanded_of_change_and (C := Tryd.checked) (X := fun w _ => laidMetH Tryd.prog [("sharecore/field.fields", Rows.laid_sharecore_field_fields)] w) (fun _ _ _ hh h => h.of_heap hh) own started (by kernel_rfl) Tryd.func8
    (ChangeSpec.witness_shaped (enc := enc) (C := Tryd.checked) (os := os) (X := fun w _ => laidMetH Tryd.prog [("sharecore/field.fields", Rows.laid_sharecore_field_fields)] w) false (World.doorLaid Tryd.prog 400 os) #[.bool false, .agg #[.slice none 0 0, .slice none 0 0], .agg #[.int .u64 0, .int .u64 0, .int .u64 0, .int .u64 0]] 8 rfl (World.shaped_of_RefB (by kernel_rfl) (by kernel_rfl)) (by kernel_rfl) (by kernel_rfl) (by kernel_rfl) (door_met os _)) ?_
  intro W base args ds gs before hval0 hW _ _ hL _
  have hval : ∀ (j : Nat) t v, Tryd.f8.params[j]? = some t → args[j]? = some v → Value.okWide Tryd.prog W .any base t v := hval0
  have hW' := hW
  obtain ⟨p, q, hA0, hV, rfl, hfz, hnd⟩ := hW
  have hA : DataW.TrodAll enc Tryd.prog W 0 (fun _ => true) true Tryd.f8.params.toList args.toList ds p := hA0
  rw [Tryd.params8] at hA hval
  obtain ⟨v0, vs0, d0, ds0, p0, q0, hargs, rfl, rfl, h0, r0⟩ := trodAll_cons hA
  obtain ⟨v1, vs1, d1, ds1, p1, q1, rfl, rfl, rfl, h1, r1⟩ := trodAll_cons r0
  obtain ⟨v2, vs2, d2, ds2, p2, q2, rfl, rfl, rfl, h2, r2⟩ := trodAll_cons r1
  obtain ⟨rfl, rfl, rfl⟩ := trodAll_nil r2
  obtain rfl : args = #[v0, v1, v2] := by cases args; simp_all
  obtain ⟨rfl, rfl⟩ := trodVars_none hV
  obtain ⟨i0, rfl, rfl, rfl⟩ := open_bool Tryd.underlying4 (hval 0 4 v0 rfl rfl) h0
  have w0 := trivial
  have k1 := h1
  have lt1 : ∀ x ∈ p1, x.block < W.heap.size := by obtain ⟨m, hm⟩ := k1; exact DataW.trod_lt m _ _ _ hm
  obtain ⟨a1, n1, cap1, xs1, b1, m1, dap1, ys1, w1, rfl⟩ := open_vecs2 (hval 1 57 v1 rfl rfl) h1
  have k2 := h2
  have lt2 : ∀ x ∈ p2, x.block < W.heap.size := by obtain ⟨m, hm⟩ := k2; exact DataW.trod_lt m _ _ _ hm
  obtain ⟨n2, w2, rfl⟩ := open_vec (hval 2 24 v2 rfl rfl) h2
  have hT := tab_of_laid hL
  clear hA0 hval0
  refine (walk i0 a1 n1 cap1 xs1 b1 m1 dap1 ys1 n2 W w0 w1 w2 hT).mono fun e W' ⟨he, hoff⟩ => ?_
  have bel : Below W.heap.size W W' := hoff.below (Nat.le_refl _) (fun _ _ c => c)
  subst he
  exact ⟨_, rfl, _, _, _, [], _, [], hW', trodAll_mk1 (shut_bool Tryd.underlying4 _), (trodAll_cons_mk (shut_bool Tryd.underlying4 _) (trodAll_cons_mk (Below.trod laidOut (by kernel_rfl) (of_decide_eq_true (by kernel_rfl)) k1 bel lt1) (trodAll_cons_mk (Below.trod laidOut (by kernel_rfl) (of_decide_eq_true (by kernel_rfl)) k2 bel lt2) trodAll_mk0))), rfl, bel.frame _, fun h => by cases h⟩

theorem over : Rows.polyHomomorphismRow.holds Tryd.pinned (OpenSpec.ofChange Rows.polyHomomorphismSpec) :=
  OpenClaim.holds_of_wide 8 Tryd.f8 rfl rfl rfl rfl rfl rfl rfl ⟨rfl, rfl, rfl, rfl, rfl⟩ rfl rfl rfl rfl rfl (by kernel_rfl) Tryd.func8 (by kernel_rfl)
    (of_decide_eq_true (by kernel_rfl)) (by unfold Func.isWrapper; first | (rw [if_pos (by decide +kernel)]; kernel_rfl) | (rw [if_neg (by decide +kernel)]; exact ⟨rfl, rfl⟩))
    (fun os started H enc _ => lifted os started H enc)

theorem proved : Rows.PolyHomomorphismCardSaid :=
  Claim7.holds_tied_plain_at .later [] [.data] true (true, "3d840ffc59f1f7eb92e6625ecf38349f13a4c620ea70c2d1380fae53a4373fdd") false
    over (fun _ h => by cases h) (by kernel_rfl) (fun _ h => by cases h) polyHomomorphism_row_tie rfl ⟨rfl, rfl⟩ (by kernel_rfl) rfl
    (fun f fn hf hfn => by
      obtain rfl : f = 8 := Option.some.inj ((show Tryd.prog.funcNamed "sharecore/sharecorelaw08.PolyHomomorphism" = some 8 by kernel_rfl).symm.trans hf) |>.symm
      obtain rfl : fn = Tryd.f8 := (Option.some.inj (Tryd.func8.symm.trans hfn)).symm
      exact ⟨by kernel_rfl, fun j t ht => by
        rw [Tryd.params8] at ht
        have hm : t ∈ [4, 57, 24] := by simpa using Array.mem_of_getElem? ht
        have hall : ([4, 57, 24].all fun u => !Tryd.prog.wantsStandIn u) = true := by kernel_rfl
        exact (show Tryd.prog.wantsStandIn t = false by simpa using List.all_eq_true.1 hall t hm)⟩)
    (by kernel_rfl)
#print axioms proved
end Go.Proofs.YtiemajbcmmbjbaaDoor.polyHomomorphism
