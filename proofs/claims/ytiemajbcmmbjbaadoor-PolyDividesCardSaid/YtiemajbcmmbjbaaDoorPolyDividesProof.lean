/-
  For every field, polynomial and number, the examples of the chapter hold, and the quotient times the linear polynomial plus the rest is the polynomial, the rest its value: the statement of P8.3. No condition.
-/
import Derived.Test.YtiemajbcmmbjbaaDoorRows
import Derived.Test.YtiemajbcmmbjbaaDoorTie
import Derived.Test.YtiemajbcmmbjbaaDoorCards
import Derived.LaidMore
import Derived.LaidHandle
import Derived.SevenTiedAt
import Derived.Stop.Joined
import Derived.JoinedOf
import Derived.Test.YtiemajbcmmbjbaaDoorLimbWords
import Derived.Test.YtiemajbcmmbjbaaDoorVecOpen
import Derived.Test.YtiemajbcmmbjbaaDoorFieldTab
import Derived.Test.YtiemajbcmmbjbaaDoorFieldHeld
import Derived.Test.YtiemajbcmmbjbaaDoorPolAlive
import Derived.Test.YtiemajbcmmbjbaaDoorPolRefM
import Derived.Test.YtiemajbcmmbjbaaDoorPowRef
import Derived.Test.YtiemajbcmmbjbaaDoorModDiff
import Derived.Test.YtiemajbcmmbjbaaDoorPolDiv
import Derived.WalkKit
import Derived.ProofKit
import Derived.OpenShut
import Derived.ShutString
import Derived.ChangeOld
import Derived.Below
namespace Go.Proofs.YtiemajbcmmbjbaaDoor.polyDivides
open Go.ChangeShapes Go.WideShapes Go.ChangeAt Go.RowKit
set_option linter.unusedVariables false

theorem own : ownKnob Tryd.prog.godebug = none := by kernel_rfl
theorem laidOut : laidOutB Tryd.prog = true := by kernel_rfl

theorem fld_odd {id : Int} {p i r s : Nat} (hF : Fld id p i r s) : p % 2 = 1 := by
  rcases modN_of hF.mp.one hF.mod with ⟨_, h⟩ | ⟨_, h⟩ <;> rw [h] <;> decide +kernel
theorem mods_lt {p : Nat} (h : 0 < p) (xs : List Nat) : ∀ v ∈ xs.map (· % p), v < p := by
  intro v hv
  obtain ⟨x, _, rfl⟩ := List.mem_map.1 hv
  exact Nat.mod_lt _ h
/-- What lies in a slot until operation i reassigns it. -/
def Was (l : Nat → Bool) (i : Nat) (u v : Value) : Prop := l i = false → u = v
theorem Was.start (i : Nat) (v : Value) : Was (fun _ => false) i v v := fun _ => rfl
theorem Was.keep {l : Nat → Bool} {i : Nat} {u v : Value} (h : Was l i u v) {k : Nat} (hk : (k == i) = false) : Was (upd l k) i u v := fun hl => by
  rw [upd_k l hk] at hl; exact h hl
theorem Was.gone (l : Nat → Bool) (i : Nat) (u v : Value) : Was (upd l i) i u v := fun hl => by
  rw [upd_same] at hl; cases hl
theorem build_x1 (w : World) (m : Nat) : Ls (w.alloc (.cells #[.int .u64 (wd m 0 : Int), .int .u64 (wd m 1 : Int), .int .u64 (wd m 2 : Int), .int .u64 (wd m 3 : Int), .int .u64 1, .int .u64 0, .int .u64 0, .int .u64 0] 24 (0, 0))) (.slice (some ⟨w.heap.size, 0, none⟩) 2 2) [m, 1] := by
  have h := ls_build w [m, 1] (by simp) 24
  rw [show (flat4 [m, 1]).toArray = #[.int .u64 (wd m 0 : Int), .int .u64 (wd m 1 : Int), .int .u64 (wd m 2 : Int), .int .u64 (wd m 3 : Int), .int .u64 1, .int .u64 0, .int .u64 0, .int .u64 0] from by kernel_rfl] at h
  exact h
theorem build_1 (w : World) (m : Nat) : Ls (w.alloc (.cells #[.int .u64 (wd m 0 : Int), .int .u64 (wd m 1 : Int), .int .u64 (wd m 2 : Int), .int .u64 (wd m 3 : Int)] 24 (0, 0))) (.slice (some ⟨w.heap.size, 0, none⟩) 1 1) [m] := ls_build w [m] (by simp) 24
set_option maxRecDepth 100000 in
set_option maxHeartbeats 4000000 in
theorem walk (i0 : Bool) (a1 : Option Addr) (n1 cap1 : Nat) (xs1 : List Nat) (n2 : Nat) (w : World) (w0 : True) (hn1 : n1 = xs1.length) (w1 : VsAt w (.slice a1 n1 cap1) xs1 (fun k => k < w.heap.size)) (w2 : n2 < R256) (hT : TabAt w) :
    Calls Tryd.prog 6 #[.bool i0, .slice a1 n1 cap1, V n2] w fun e w' => e = .returned (.bool true) ∧ Off (fun _ => False) w w' := by
  obtain ⟨id, p, i, r, s, hF, hid⟩ := fld_of i0
  have hp := hF.mp.lt
  have h1 := hF.mp.one
  have hp0 : 0 < p := by omega
  have FG := Lib.hid (fun W hT => get8_any i0 hF hid W hT)
  have FAL : Hid (∀ W, TabAt W → Calls Tryd.prog 9 #[] W fun e w' => e = .returned (.bool true) ∧ Off (fun _ => False) W w') := Lib.hid (fun W hT => alive8_any W hT)
  obtain ⟨hnl1, hnm1, hxs1⟩ := w1.len
  by_cases hbig : 12 < n1
  · have hbi : decide ((12 : Int) < (n1 : Int)) = true := by simp; omega
    have hbp : (12 : Int) < (n1 : Int) := by omega
    clear hn1 hnl1 hnm1 hxs1 hbig hF hid hp h1 hp0 FG
    go_enter Tryd.func6, Tryd.ntmps6
    go_wp2_with fail
    refine (FAL.out _ (hT.off ((Off.refl _ w).alloc _))).mono ?_
    rintro e u0 ⟨rfl, hO⟩
    have HO := Lib.hid (((Off.refl _ w).alloc _ : Off (fun _ => False) w _).trans hO (fun _ _ c => c))
    clear hO
    go_wp2
    go_ret
    exact ⟨rfl, HO.out⟩
  · have hbi : decide ((12 : Int) < (n1 : Int)) = false := by simp; omega
    have hbp : ¬ (12 : Int) < (n1 : Int) := by omega
    obtain ⟨vs, hvs⟩ : ∃ l, l = xs1.map (· % p) := ⟨_, rfl⟩
    have hvsl : vs.length = n1 := by rw [hvs, List.length_map]; exact hnl1.symm
    have hvsp : ∀ v ∈ vs, v < p := by rw [hvs]; exact mods_lt hp0 xs1
    have FV1 := Lib.hid (show ∀ W v, Ls W v xs1 → Calls Tryd.prog 11 #[V p, v] W fun e w' => ∃ z1 z2, e = .returned (.tuple #[z1, z2]) ∧ Ls w' z1 vs ∧ Ls w' z2 (vs.map (fm p)) ∧ Off (fun _ => False) W w' from fun W v h => by rw [hvs]; exact values_any hp h1 xs1 hxs1 (by omega) v W h)
    have HL1 := Lib.hid (ls_of_vs w1 (by omega))
    obtain ⟨c, hc⟩ : ∃ c, c = n2 % p := ⟨_, rfl⟩
    have hcp : c < p := by rw [hc]; exact Nat.mod_lt _ hp0
    have FMo := Lib.hid (show ∀ W, Calls Tryd.prog 12 #[V p, V n2] W fun e w' => e = .returned (V c) ∧ Off (fun _ => False) W w' from fun W => by rw [hc]; exact mod_mod p n2 hp h1 w2 W)
    obtain ⟨rv, hrv⟩ : ∃ v, v = pv vs c % p := ⟨_, rfl⟩
    have hrvp : rv < p := by rw [hrv]; exact Nat.mod_lt _ hp0
    obtain ⟨y, hy⟩ : ∃ y, y = fm p c := ⟨_, rfl⟩
    obtain ⟨rr, hrr⟩ : ∃ rr, rr = fm p rv := ⟨_, rfl⟩
    obtain ⟨ql, hql⟩ : ∃ l, l = quoL p vs c := ⟨_, rfl⟩
    have hqll : ql.length = vs.length - 1 := by rw [hql, quoL_length]
    have hqlp : ∀ v ∈ ql, v < p := by rw [hql]; intro v hv; unfold quoL at hv; obtain ⟨x, _, rfl⟩ := List.mem_map.1 hv; exact Nat.mod_lt _ hp0
    obtain ⟨mc, hmc⟩ : ∃ v, v = (0 + (p - c)) % p := ⟨_, rfl⟩
    have hmcp : mc < p := by rw [hmc]; exact Nat.mod_lt _ hp0
    obtain ⟨ml, hml⟩ : ∃ l, l = mulL p ql [mc, 1] := ⟨_, rfl⟩
    have hmlp : ∀ v ∈ ml, v < p := by rw [hml]; exact mulL_lt hp0 _ _
    have hmll : ml.length ≤ 100 := by
      rw [hml]
      by_cases h : ql.length = 0
      · unfold mulL; rw [if_pos (.inl h)]; simp
      · rw [mulL_length p ql [mc, 1] (by omega) (by simp)]; simp; omega
    obtain ⟨bl, hbl⟩ : ∃ l, l = sumL p ml [rv] := ⟨_, rfl⟩
    have hbll : bl.length ≤ 200 := by rw [hbl, sumL_length]; simp; omega
    have hback : ∀ k, k < vs.length → bl[k]? = some (vs.getD k 0) := by rw [hbl, hml, hql, hmc, hrv]; exact div_back hp0 vs hvsp c hcp
    have hodd : p % 2 = 1 := fld_odd hF
    have FFc := Lib.hid (show ∀ W, Calls Tryd.prog 14 #[V p, V c] W fun e w' => e = .returned (V y) ∧ Off (fun _ => False) W w' from fun W => by rw [hy]; exact form8_any p c hp h1 (by omega) W)
    have FFe := Lib.hid (show ∀ W, Calls Tryd.prog 14 #[V p, V rv] W fun e w' => e = .returned (V rr) ∧ Off (fun _ => False) W w' from fun W => by rw [hrr]; exact form8_any p rv hp h1 (by omega) W)
    have FQ := Lib.hid (show ∀ W v, Ls W v (vs.map (fm p)) → Calls Tryd.prog 23 #[.pointer none, FV id p i r s, v, V y] W fun e w' => ∃ z, e = .returned (.tuple #[z, V rr]) ∧ LsAt w' z (ql.map (fm p)) (fun k => W.heap.size ≤ k) ∧ Off (fun _ => False) W w' from fun W v h => by rw [hy, hrr, hrv, hql]; exact quotient_ls hF vs (by omega) c v W h)
    have FVl := Lib.hid (show ∀ a, a < p → ∀ W, Calls Tryd.prog 24 #[V p, V (fm p a)] W fun e w' => e = .returned (V a) ∧ Off (fun _ => False) W w' from fun a ha W => by have h := value_any p (fm p a) hF.mp hodd (fm_lt hp0 _) W; rw [mm_one hF.mp, Nat.mod_eq_of_lt ha] at h; exact h)
    have FVr := Lib.hid (show ∀ W, Calls Tryd.prog 24 #[V p, V rr] W fun e w' => e = .returned (V rv) ∧ Off (fun _ => False) W w' from fun W => by rw [hrr]; exact FVl.out rv hrvp W)
    have FSb := Lib.hid (show ∀ W, Calls Tryd.prog 25 #[V p, .agg #[.int .u64 0, .int .u64 0, .int .u64 0, .int .u64 0], V c] W fun e w' => e = .returned (V mc) ∧ Off (fun _ => False) W w' from fun W => by
      have h := mod_diff p 0 c hp hp0 hcp W
      rw [lit_small 0 (by decide), ← hmc] at h; exact h)
    have FRm := Lib.hid (show ∀ W v u, Ls W v ql → Ls W u [mc, 1] → Calls Tryd.prog 20 #[V p, v, u] W fun e w' => ∃ z, e = .returned z ∧ Ls w' z ml ∧ Off (fun _ => False) W w' from fun W v u h k => by rw [hml]; exact refmul_any hp h1 ql [mc, 1] hqlp (by intro x hx; simp at hx; omega) (by omega) (by simp) v u W h k)
    have FRa := Lib.hid (show ∀ W v u, Ls W v ml → Ls W u [rv] → Calls Tryd.prog 18 #[V p, v, u] W fun e w' => ∃ z, e = .returned z ∧ Ls w' z bl ∧ Off (fun _ => False) W w' from fun W v u h k => by rw [hbl]; exact refadd_any' hp h1 ml [rv] hmlp (by intro x hx; simp at hx; omega) (by omega) (by simp) v u W h k)
    have FRe := Lib.hid (show ∀ W v, Ls W v vs → Calls Tryd.prog 15 #[V p, v, V c] W fun e w' => e = .returned (V rv) ∧ Off (fun _ => False) W w' from fun W v h => by rw [hrv]; exact refeval_any hp h1 vs hvsp c hcp v W h)
    have HVl := Lib.hid hvsl
    have HQl := Lib.hid hqll
    have HQp := Lib.hid hqlp
    have HBk := Lib.hid hback
    have HBl := Lib.hid hbll
    have hn12 : n1 ≤ 12 := by omega
    have e2 := equalIn_same
    have e1 := equalIn_elem_same
    obtain ⟨j0, hj, hj0, hj1, hj2⟩ := info_parts vec_info
    clear hrv hrvp hy hrr hql hqll hqlp hmc hmcp hml hmlp hmll hbl hbll hback hodd
    have HTw := Lib.hid hT
    clear hvs hc hF hid hxs1 hnm1 hbig hn1 hnl1 hvsl hvsp
    go_enter Tryd.func6, Tryd.ntmps6
    go_wp2_with fail
    refine (FG.out _ (hT.off ((Off.refl _ w).alloc _))).mono ?_
    rintro e u0 ⟨rfl, hO1⟩
    have hO0 : Off (fun _ => False) w u0 := ((Off.refl _ w).alloc _ : Off (fun _ => False) w _).trans hO1 (fun _ _ c => c)
    have g_n2 : u0.heap[w.heap.size]? = some (.cells #[.int .u64 (wd n2 0 : Int), .int .u64 (wd n2 1 : Int), .int .u64 (wd n2 2 : Int), .int .u64 (wd n2 3 : Int)] 24 (0, 0)) := hO1.heap (heap_new' rfl _) (fun c => c)
    obtain ⟨W1, hW1⟩ : ∃ W1, W1 = (u0.alloc (.cells #[.int .i64 id, .int .u64 (wd p 0 : Int), .int .u64 (wd p 1 : Int), .int .u64 (wd p 2 : Int), .int .u64 (wd p 3 : Int), .int .u64 (i : Int), .int .u64 (wd r 0 : Int), .int .u64 (wd r 1 : Int), .int .u64 (wd r 2 : Int), .int .u64 (wd r 3 : Int), .int .u64 (wd s 0 : Int), .int .u64 (wd s 1 : Int), .int .u64 (wd s 2 : Int), .int .u64 (wd s 3 : Int)] 28)).alloc (.cells #[.int .u64 (wd p 0 : Int), .int .u64 (wd p 1 : Int), .int .u64 (wd p 2 : Int), .int .u64 (wd p 3 : Int)] 24) := ⟨_, rfl⟩
    have o1 : Off (fun _ => False) u0 W1 := by rw [hW1]; exact ((Off.refl _ u0).alloc _).alloc _
    have g_F : W1.heap[u0.heap.size]? = some (.cells #[.int .i64 id, .int .u64 (wd p 0 : Int), .int .u64 (wd p 1 : Int), .int .u64 (wd p 2 : Int), .int .u64 (wd p 3 : Int), .int .u64 (i : Int), .int .u64 (wd r 0 : Int), .int .u64 (wd r 1 : Int), .int .u64 (wd r 2 : Int), .int .u64 (wd r 3 : Int), .int .u64 (wd s 0 : Int), .int .u64 (wd s 1 : Int), .int .u64 (wd s 2 : Int), .int .u64 (wd s 3 : Int)] 28 (0, 0)) := by rw [hW1]; exact heap_old' (heap_new' rfl _) _
    have g_P : W1.heap[u0.heap.size + 1]? = some (.cells #[.int .u64 (wd p 0 : Int), .int .u64 (wd p 1 : Int), .int .u64 (wd p 2 : Int), .int .u64 (wd p 3 : Int)] 24 (0, 0)) := by rw [hW1]; exact heap_new' (by simp) _
    obtain ⟨fb, hfb⟩ : ∃ fb, fb = u0.heap.size := ⟨_, rfl⟩
    obtain ⟨pb, hpb⟩ : ∃ pb, pb = u0.heap.size + 1 := ⟨_, rfl⟩
    rw [← hfb] at g_F
    rw [← hpb] at g_P
    have g_n2 := o1.heap g_n2 (fun c => c)
    have hOw := hO0.trans o1 (fun _ _ c => c)
    clear hO1 hO0 o1
    rw [hW1] at hOw g_n2 g_F g_P
    go_wp2_with fail
    rw [← hW1] at hOw g_n2 g_F g_P ⊢
    rw [← hpb, ← hfb]
    refine (FV1.out _ _ (HL1.out.off hOw)).mono ?_
    rintro e u1 ⟨z1, z2, rfl, h_z1, h_z2, hO1⟩
    have g_n2 := hO1.heap g_n2 (fun c => c)
    have g_F := hO1.heap g_F (fun c => c)
    have g_P := hO1.heap g_P (fun c => c)
    have hOw := hOw.trans hO1 (fun _ _ c => c)
    clear hW1 hfb hpb
    obtain ⟨p0, p1, p2, p3⟩ := cells4 g_P
    obtain ⟨x0, x1, x2, x3⟩ := cells4 g_n2
    have GF := Lib.hid g_F
    have GP := Lib.hid g_P
    have H_z1 := Lib.hid h_z1
    have H_z2 := Lib.hid h_z2
    have HOw := Lib.hid hOw
    clear g_F g_P g_n2 h_z1 h_z2 hOw hO1
    go_wp2_with fail
    refine (FMo.out _).mono ?_
    rintro e u2 ⟨rfl, hO2⟩
    clear p0 p1 p2 p3 x0 x1 x2 x3
    obtain ⟨u3, hu3⟩ : ∃ u3, u3 = u2.alloc (.cells #[.int .u64 (wd c 0 : Int), .int .u64 (wd c 1 : Int), .int .u64 (wd c 2 : Int), .int .u64 (wd c 3 : Int)] 24) := ⟨_, rfl⟩
    obtain ⟨cb, hcb⟩ : ∃ cb, cb = u2.heap.size := ⟨_, rfl⟩
    have hO3 : Off (fun _ => False) u1 u3 := by rw [hu3]; exact hO2.alloc _
    have g_C : u3.heap[cb]? = some (.cells #[.int .u64 (wd c 0 : Int), .int .u64 (wd c 1 : Int), .int .u64 (wd c 2 : Int), .int .u64 (wd c 3 : Int)] 24 (0, 0)) := by rw [hu3, hcb]; exact heap_new' rfl _
    have g_F := hO3.heap GF.out (fun c => c)
    have g_P := hO3.heap GP.out (fun c => c)
    have h_z1 := H_z1.out.off hO3
    have h_z2 := H_z2.out.off hO3
    have hOw := HOw.out.trans hO3 (fun _ _ c => c)
    have HOw := Lib.hid hOw
    have HTW := Lib.hid (fun W (h : Off (fun _ => False) u3 W) => HTw.out.off (hOw.trans h (fun _ _ c => c)))
    have HU := Lib.hid (show u2.alloc (.cells #[.int .u64 (wd c 0 : Int), .int .u64 (wd c 1 : Int), .int .u64 (wd c 2 : Int), .int .u64 (wd c 3 : Int)] 24) = u3 ∧ u2.heap.size = cb from ⟨hu3.symm, hcb.symm⟩)
    clear hO2 hO3 hOw hu3 hcb GF GP H_z1 H_z2
    have FQ2 := Lib.hid (show ∀ W, Off (fun _ => False) u3 W → _ from fun W h => FQ.out W z2 (h_z2.off h))
    have HK6 : Hid (∀ W', Off (fun _ => False) u3 W' → (W'.cell? ⟨fb, 0, none⟩ = some (.int .i64 id) ∧ W'.cell? ⟨fb, 1, none⟩ = some (.int .u64 (wd p 0 : Int)) ∧ W'.cell? ⟨fb, 2, none⟩ = some (.int .u64 (wd p 1 : Int)) ∧ W'.cell? ⟨fb, 3, none⟩ = some (.int .u64 (wd p 2 : Int)) ∧ W'.cell? ⟨fb, 4, none⟩ = some (.int .u64 (wd p 3 : Int)) ∧ W'.cell? ⟨fb, 5, none⟩ = some (.int .u64 (i : Int)) ∧ W'.cell? ⟨fb, 6, none⟩ = some (.int .u64 (wd r 0 : Int)) ∧ W'.cell? ⟨fb, 7, none⟩ = some (.int .u64 (wd r 1 : Int)) ∧ W'.cell? ⟨fb, 8, none⟩ = some (.int .u64 (wd r 2 : Int)) ∧ W'.cell? ⟨fb, 9, none⟩ = some (.int .u64 (wd r 3 : Int)) ∧ W'.cell? ⟨fb, 10, none⟩ = some (.int .u64 (wd s 0 : Int)) ∧ W'.cell? ⟨fb, 11, none⟩ = some (.int .u64 (wd s 1 : Int)) ∧ W'.cell? ⟨fb, 12, none⟩ = some (.int .u64 (wd s 2 : Int)) ∧ W'.cell? ⟨fb, 13, none⟩ = some (.int .u64 (wd s 3 : Int))) ∧ (W'.cell? ⟨pb, 0, none⟩ = some (.int .u64 (wd p 0 : Int)) ∧ W'.cell? ⟨pb, 1, none⟩ = some (.int .u64 (wd p 1 : Int)) ∧ W'.cell? ⟨pb, 2, none⟩ = some (.int .u64 (wd p 2 : Int)) ∧ W'.cell? ⟨pb, 3, none⟩ = some (.int .u64 (wd p 3 : Int))) ∧ (W'.cell? ⟨cb, 0, none⟩ = some (.int .u64 (wd c 0 : Int)) ∧ W'.cell? ⟨cb, 1, none⟩ = some (.int .u64 (wd c 1 : Int)) ∧ W'.cell? ⟨cb, 2, none⟩ = some (.int .u64 (wd c 2 : Int)) ∧ W'.cell? ⟨cb, 3, none⟩ = some (.int .u64 (wd c 3 : Int))) ∧ Off (fun _ => False) u3 W') := Lib.hid (fun W' h => ⟨fv_cells (h.heap g_F (fun c => c)), cells4 (h.heap g_P (fun c => c)), cells4 (h.heap g_C (fun c => c)), h⟩)
    have GP := Lib.hid g_P
    have GC := Lib.hid g_C
    have HZ1 := Lib.hid h_z1
    have HZ2 := Lib.hid h_z2
    clear g_F g_P g_C h_z1 h_z2 FQ
    go_upto_region 6 with fail
    rw [HU.out.1, HU.out.2]
    refine wp_region_inv (fun a0 l a' w' => ∃ (u39 : Value) (u40 : Value) (u41 : Value) (u42 : Value) (u43 : Value) (u44 : Value) (u38 : Value) (u45 : Value) (u46 : Value) (u13 : Value) (u12 : Value) (v44 : Value) (b13 : Nat), a' = (Act.put (Act.put (Act.put (Act.put (Act.put (Act.put (Act.put (Act.put (Act.put (Act.put (Act.put a0 (some 39) u39) (some 40) u40) (some 41) u41) (some 42) u42) (some 43) u43) (some 44) u44) (some 38) u38) (some 45) u45) (some 46) u46) (some 13) u13) (some 12) u12) ∧ Slot l 0 u39 (FV id p i r s) ∧ Slot l 1 u40 (z2) ∧ Slot l 2 u41 (V p) ∧ Slot l 3 u42 (V c) ∧ Slot l 4 u43 (V y) ∧ Slot l 5 u44 (.tuple #[v44, V rr]) ∧ Slot l 6 u38 (.tuple #[v44, V rr]) ∧ Slot l 7 u45 (v44) ∧ Slot l 8 u46 (V rr) ∧ Slot l 10 u12 (v44) ∧ Blk l 9 11 u13 b13 u3 w' (.cells #[.int .u64 0, .int .u64 0, .int .u64 0, .int .u64 0] 26) (.cells #[.int .u64 (wd rr 0 : Int), .int .u64 (wd rr 1 : Int), .int .u64 (wd rr 2 : Int), .int .u64 (wd rr 3 : Int)] 26) ∧ Lx l 5 9 v44 b13 w' (ql.map (fm p)) ∧ Dep l 5 6 ∧ Dep l 5 7 ∧ Dep l 5 10 ∧ Off (fun _ => False) u3 w') (by kernel_rfl) (by kernel_rfl) ?_ ⟨?_, ?_, ?_, ?_, ?_, ?_, ?_, ?_, ?_, ?_, ?_, ?_, trivial⟩ ?_
    · refine ⟨?z39, ?z40, ?z41, ?z42, ?z43, ?z44, ?z38, ?z45, ?z46, ?z13, ?z12, undef, 0, ?fr, Slot.start _ _ _, Slot.start _ _ _, Slot.start _ _ _, Slot.start _ _ _, Slot.start _ _ _, Slot.start _ _ _, Slot.start _ _ _, Slot.start _ _ _, Slot.start _ _ _, Slot.start _ _ _, Blk.start _ _ _ _ _ _ _ _, Lx.start _ _ _ _ _ _, Dep.start _ _, Dep.start _ _, Dep.start _ _, (Off.refl _ u3).drew⟩
      case fr => first | (simp only [Act.put, List.setIfInBounds_toArray, List.set_cons_zero, List.set_cons_succ]; rfl) | simp only [Act.put, List.setIfInBounds_toArray, List.set_cons_zero, List.set_cons_succ]
    · intro l a wr hI hl hd K' hK
      obtain ⟨u39, u40, u41, u42, u43, u44, u38, u45, u46, u13, u12, v44, b13, ha, s0, s1, s2, s3, s4, s5, s6, s7, s8, s10, B9, M5, V5_6, V5_7, V5_10, hO⟩ := hI
      simp only [Act.put, List.setIfInBounds_toArray, List.set_cons_zero, List.set_cons_succ] at ha
      subst ha
      have hc := HK6.out wr hO
      have p0 := hc.1.1
      have p1 := hc.1.2.1
      have p2 := hc.1.2.2.1
      have p3 := hc.1.2.2.2.1
      have p4 := hc.1.2.2.2.2.1
      have p5 := hc.1.2.2.2.2.2.1
      have p6 := hc.1.2.2.2.2.2.2.1
      have p7 := hc.1.2.2.2.2.2.2.2.1
      have p8 := hc.1.2.2.2.2.2.2.2.2.1
      have p9 := hc.1.2.2.2.2.2.2.2.2.2.1
      have p10 := hc.1.2.2.2.2.2.2.2.2.2.2.1
      have p11 := hc.1.2.2.2.2.2.2.2.2.2.2.2.1
      have p12 := hc.1.2.2.2.2.2.2.2.2.2.2.2.2.1
      have p13 := hc.1.2.2.2.2.2.2.2.2.2.2.2.2.2
      clear hc
      go_simp
      refine hK.out _ _ ⟨_, _, _, _, _, _, _, _, _, _, _, v44, _, ?_, Slot.new _ _ _, s1.keep rfl, s2.keep rfl, s3.keep rfl, s4.keep rfl, s5.keep rfl, s6.keep rfl, s7.keep rfl, s8.keep rfl, s10.keep rfl, B9.keep (Off.refl _ wr) rfl rfl, M5.keep (Off.refl _ wr) rfl rfl, V5_6.keep rfl, V5_7.keep rfl, V5_10.keep rfl, hO⟩
      simp only [Act.put, List.setIfInBounds_toArray, List.set_cons_zero, List.set_cons_succ]
    · intro l a wr hI hl hd K' hK
      obtain ⟨u39, u40, u41, u42, u43, u44, u38, u45, u46, u13, u12, v44, b13, ha, s0, s1, s2, s3, s4, s5, s6, s7, s8, s10, B9, M5, V5_6, V5_7, V5_10, hO⟩ := hI
      simp only [Act.put, List.setIfInBounds_toArray, List.set_cons_zero, List.set_cons_succ] at ha
      subst ha
      go_simp
      refine hK.out _ _ ⟨_, _, _, _, _, _, _, _, _, _, _, v44, _, ?_, s0.keep rfl, Slot.new _ _ _, s2.keep rfl, s3.keep rfl, s4.keep rfl, s5.keep rfl, s6.keep rfl, s7.keep rfl, s8.keep rfl, s10.keep rfl, B9.keep (Off.refl _ wr) rfl rfl, M5.keep (Off.refl _ wr) rfl rfl, V5_6.keep rfl, V5_7.keep rfl, V5_10.keep rfl, hO⟩
      simp only [Act.put, List.setIfInBounds_toArray, List.set_cons_zero, List.set_cons_succ]
    · intro l a wr hI hl hd K' hK
      obtain ⟨u39, u40, u41, u42, u43, u44, u38, u45, u46, u13, u12, v44, b13, ha, s0, s1, s2, s3, s4, s5, s6, s7, s8, s10, B9, M5, V5_6, V5_7, V5_10, hO⟩ := hI
      simp only [Act.put, List.setIfInBounds_toArray, List.set_cons_zero, List.set_cons_succ] at ha
      subst ha
      have hc := HK6.out wr hO
      have p0 := hc.2.1.1
      have p1 := hc.2.1.2.1
      have p2 := hc.2.1.2.2.1
      have p3 := hc.2.1.2.2.2
      clear hc
      go_simp
      refine hK.out _ _ ⟨_, _, _, _, _, _, _, _, _, _, _, v44, _, ?_, s0.keep rfl, s1.keep rfl, Slot.new _ _ _, s3.keep rfl, s4.keep rfl, s5.keep rfl, s6.keep rfl, s7.keep rfl, s8.keep rfl, s10.keep rfl, B9.keep (Off.refl _ wr) rfl rfl, M5.keep (Off.refl _ wr) rfl rfl, V5_6.keep rfl, V5_7.keep rfl, V5_10.keep rfl, hO⟩
      simp only [Act.put, List.setIfInBounds_toArray, List.set_cons_zero, List.set_cons_succ]
    · intro l a wr hI hl hd K' hK
      obtain ⟨u39, u40, u41, u42, u43, u44, u38, u45, u46, u13, u12, v44, b13, ha, s0, s1, s2, s3, s4, s5, s6, s7, s8, s10, B9, M5, V5_6, V5_7, V5_10, hO⟩ := hI
      simp only [Act.put, List.setIfInBounds_toArray, List.set_cons_zero, List.set_cons_succ] at ha
      subst ha
      have hc := HK6.out wr hO
      have p0 := hc.2.2.1.1
      have p1 := hc.2.2.1.2.1
      have p2 := hc.2.2.1.2.2.1
      have p3 := hc.2.2.1.2.2.2
      clear hc
      go_simp
      refine hK.out _ _ ⟨_, _, _, _, _, _, _, _, _, _, _, v44, _, ?_, s0.keep rfl, s1.keep rfl, s2.keep rfl, Slot.new _ _ _, s4.keep rfl, s5.keep rfl, s6.keep rfl, s7.keep rfl, s8.keep rfl, s10.keep rfl, B9.keep (Off.refl _ wr) rfl rfl, M5.keep (Off.refl _ wr) rfl rfl, V5_6.keep rfl, V5_7.keep rfl, V5_10.keep rfl, hO⟩
      simp only [Act.put, List.setIfInBounds_toArray, List.set_cons_zero, List.set_cons_succ]
    · intro l a wr hI hl hd K' hK
      obtain ⟨u39, u40, u41, u42, u43, u44, u38, u45, u46, u13, u12, v44, b13, ha, s0, s1, s2, s3, s4, s5, s6, s7, s8, s10, B9, M5, V5_6, V5_7, V5_10, hO⟩ := hI
      simp only [Act.put, List.setIfInBounds_toArray, List.set_cons_zero, List.set_cons_succ] at ha
      have q2 := s2 (hd 2 (by decide))
      have q3 := s3 (hd 3 (by decide))
      subst ha q2 q3
      go_simp
      refine (held_inv (FFc.out wr) hO).mono ?_
      rintro e w1 ⟨rfl, hO1, hOW⟩
      go_wp2_with fail
      refine hK.out _ _ ⟨_, _, _, _, _, _, _, _, _, _, _, v44, _, ?_, s0.keep rfl, s1.keep rfl, s2.keep rfl, s3.keep rfl, Slot.new _ _ _, s5.keep rfl, s6.keep rfl, s7.keep rfl, s8.keep rfl, s10.keep rfl, B9.keep hOW rfl rfl, M5.keep hOW rfl rfl, V5_6.keep rfl, V5_7.keep rfl, V5_10.keep rfl, hO1⟩
      simp only [Act.put, List.setIfInBounds_toArray, List.set_cons_zero, List.set_cons_succ]
    · intro l a wr hI hl hd K' hK
      obtain ⟨u39, u40, u41, u42, u43, u44, u38, u45, u46, u13, u12, v44, b13, ha, s0, s1, s2, s3, s4, s5, s6, s7, s8, s10, B9, M5, V5_6, V5_7, V5_10, hO⟩ := hI
      simp only [Act.put, List.setIfInBounds_toArray, List.set_cons_zero, List.set_cons_succ] at ha
      have q0 := s0 (hd 0 (by decide))
      have q1 := (s1 (hd 1 (by decide))).symm
      have q4 := s4 (hd 4 (by decide))
      subst ha q0 q1 q4
      go_simp
      refine (FQ2.out wr hO).mono ?_
      rintro e w1 ⟨uv, rfl, hm, hOW⟩
      have hO1 := hO.trans hOW (fun _ _ c => c.elim)
      go_wp2_with fail
      refine hK.out _ _ ⟨_, _, _, _, _, _, _, _, _, _, _, uv, _, ?_, s0.keep rfl, s1.keep rfl, s2.keep rfl, s3.keep rfl, s4.keep rfl, Slot.new _ _ _, Slot.void (u := u38) (V5_6 hl) rfl, Slot.void (u := u45) (V5_7 hl) rfl, s8.keep rfl, Slot.void (u := u12) (V5_10 hl) rfl, B9.keep hOW rfl rfl, Lx.new hm (fun h => B9.lt h) rfl, V5_6.keep rfl, V5_7.keep rfl, V5_10.keep rfl, hO1⟩
      simp only [Act.put, List.setIfInBounds_toArray, List.set_cons_zero, List.set_cons_succ]
    · intro l a wr hI hl hd K' hK
      obtain ⟨u39, u40, u41, u42, u43, u44, u38, u45, u46, u13, u12, v44, b13, ha, s0, s1, s2, s3, s4, s5, s6, s7, s8, s10, B9, M5, V5_6, V5_7, V5_10, hO⟩ := hI
      simp only [Act.put, List.setIfInBounds_toArray, List.set_cons_zero, List.set_cons_succ] at ha
      have q5 := s5 (hd 5 (by decide))
      subst ha q5
      go_simp
      refine hK.out _ _ ⟨_, _, _, _, _, _, _, _, _, _, _, v44, _, ?_, s0.keep rfl, s1.keep rfl, s2.keep rfl, s3.keep rfl, s4.keep rfl, s5.keep rfl, Slot.new _ _ _, s7.keep rfl, s8.keep rfl, s10.keep rfl, B9.keep (Off.refl _ wr) rfl rfl, M5.keep (Off.refl _ wr) rfl rfl, Dep.at (hd 5 (by decide)), V5_7.keep rfl, V5_10.keep rfl, hO⟩
      simp only [Act.put, List.setIfInBounds_toArray, List.set_cons_zero, List.set_cons_succ]
    · intro l a wr hI hl hd K' hK
      obtain ⟨u39, u40, u41, u42, u43, u44, u38, u45, u46, u13, u12, v44, b13, ha, s0, s1, s2, s3, s4, s5, s6, s7, s8, s10, B9, M5, V5_6, V5_7, V5_10, hO⟩ := hI
      simp only [Act.put, List.setIfInBounds_toArray, List.set_cons_zero, List.set_cons_succ] at ha
      have q6 := s6 (hd 6 (by decide))
      subst ha q6
      go_simp
      refine hK.out _ _ ⟨_, _, _, _, _, _, _, _, _, _, _, v44, _, ?_, s0.keep rfl, s1.keep rfl, s2.keep rfl, s3.keep rfl, s4.keep rfl, s5.keep rfl, s6.keep rfl, Slot.new _ _ _, s8.keep rfl, s10.keep rfl, B9.keep (Off.refl _ wr) rfl rfl, M5.keep (Off.refl _ wr) rfl rfl, V5_6.keep rfl, Dep.at (V5_6.via (hd 6 (by decide))), V5_10.keep rfl, hO⟩
      simp only [Act.put, List.setIfInBounds_toArray, List.set_cons_zero, List.set_cons_succ]
    · intro l a wr hI hl hd K' hK
      obtain ⟨u39, u40, u41, u42, u43, u44, u38, u45, u46, u13, u12, v44, b13, ha, s0, s1, s2, s3, s4, s5, s6, s7, s8, s10, B9, M5, V5_6, V5_7, V5_10, hO⟩ := hI
      simp only [Act.put, List.setIfInBounds_toArray, List.set_cons_zero, List.set_cons_succ] at ha
      have q6 := s6 (hd 6 (by decide))
      subst ha q6
      go_simp
      refine hK.out _ _ ⟨_, _, _, _, _, _, _, _, _, _, _, v44, _, ?_, s0.keep rfl, s1.keep rfl, s2.keep rfl, s3.keep rfl, s4.keep rfl, s5.keep rfl, s6.keep rfl, s7.keep rfl, Slot.new _ _ _, s10.keep rfl, B9.keep (Off.refl _ wr) rfl rfl, M5.keep (Off.refl _ wr) rfl rfl, V5_6.keep rfl, V5_7.keep rfl, V5_10.keep rfl, hO⟩
      simp only [Act.put, List.setIfInBounds_toArray, List.set_cons_zero, List.set_cons_succ]
    · intro l a wr hI hl hd K' hK
      obtain ⟨u39, u40, u41, u42, u43, u44, u38, u45, u46, u13, u12, v44, b13, ha, s0, s1, s2, s3, s4, s5, s6, s7, s8, s10, B9, M5, V5_6, V5_7, V5_10, hO⟩ := hI
      simp only [Act.put, List.setIfInBounds_toArray, List.set_cons_zero, List.set_cons_succ] at ha
      subst ha
      go_simp
      refine hK.out _ _ ⟨_, _, _, _, _, _, _, _, _, _, _, v44, _, ?_, s0.keep rfl, s1.keep rfl, s2.keep rfl, s3.keep rfl, s4.keep rfl, s5.keep rfl, s6.keep rfl, s7.keep rfl, s8.keep rfl, s10.keep rfl, B9.make hl rfl hO, Lx.made M5 rfl, V5_6.keep rfl, V5_7.keep rfl, V5_10.keep rfl, hO.alloc _⟩
      simp only [Act.put, List.setIfInBounds_toArray, List.set_cons_zero, List.set_cons_succ]
    · intro l a wr hI hl hd K' hK
      obtain ⟨u39, u40, u41, u42, u43, u44, u38, u45, u46, u13, u12, v44, b13, ha, s0, s1, s2, s3, s4, s5, s6, s7, s8, s10, B9, M5, V5_6, V5_7, V5_10, hO⟩ := hI
      simp only [Act.put, List.setIfInBounds_toArray, List.set_cons_zero, List.set_cons_succ] at ha
      have q7 := (s7 (hd 7 (by decide))).symm
      subst ha q7
      go_simp
      refine hK.out _ _ ⟨_, _, _, _, _, _, _, _, _, _, _, v44, _, ?_, s0.keep rfl, s1.keep rfl, s2.keep rfl, s3.keep rfl, s4.keep rfl, s5.keep rfl, s6.keep rfl, s7.keep rfl, s8.keep rfl, Slot.new _ _ _, B9.keep (Off.refl _ wr) rfl rfl, M5.keep (Off.refl _ wr) rfl rfl, V5_6.keep rfl, V5_7.keep rfl, Dep.at (V5_7.via (hd 7 (by decide))), hO⟩
      simp only [Act.put, List.setIfInBounds_toArray, List.set_cons_zero, List.set_cons_succ]
    · intro l a wr hI hl hd K' hK
      obtain ⟨u39, u40, u41, u42, u43, u44, u38, u45, u46, u13, u12, v44, b13, ha, s0, s1, s2, s3, s4, s5, s6, s7, s8, s10, B9, M5, V5_6, V5_7, V5_10, hO⟩ := hI
      simp only [Act.put, List.setIfInBounds_toArray, List.set_cons_zero, List.set_cons_succ] at ha
      have h9 := hd 9 (by decide)
      have q9 := B9.ptr h9
      have q8 := s8 (hd 8 (by decide))
      subst ha q9 q8
      obtain ⟨⟨m0, m1, m2, m3⟩, fz, lt⟩ := zero_cells (B9.was h9 hl)
      go_simp
      refine hK.out _ _ ⟨_, _, _, _, _, _, _, _, _, _, _, v44, _, ?_, s0.keep rfl, s1.keep rfl, s2.keep rfl, s3.keep rfl, s4.keep rfl, s5.keep rfl, s6.keep rfl, s7.keep rfl, s8.keep rfl, s10.keep rfl, B9.put hl h9 rfl rfl, Lx.stored (vs := [.int .u64 (wd rr 0 : Int), .int .u64 (wd rr 1 : Int), .int .u64 (wd rr 2 : Int), .int .u64 (wd rr 3 : Int)]) M5 h9 rfl rfl, V5_6.keep rfl, V5_7.keep rfl, V5_10.keep rfl, setCells_in hO (fun c => absurd c (Nat.not_lt.2 (B9.new h9))) [.int .u64 (wd rr 0 : Int), .int .u64 (wd rr 1 : Int), .int .u64 (wd rr 2 : Int), .int .u64 (wd rr 3 : Int)]⟩
      simp only [Act.put, List.setIfInBounds_toArray, List.set_cons_zero, List.set_cons_succ]
    · intro l a wc hI hd
      obtain ⟨u39, u40, u41, u42, u43, u44, u38, u45, u46, u13, u12, v44, b13, ha, s0, s1, s2, s3, s4, s5, s6, s7, s8, s10, B9, M5, V5_6, V5_7, V5_10, hO⟩ := hI
      simp only [Act.put, List.setIfInBounds_toArray, List.set_cons_zero, List.set_cons_succ] at ha
      have q0 := s0 (hd 0 (by decide))
      have q1 := (s1 (hd 1 (by decide))).symm
      have q2 := s2 (hd 2 (by decide))
      have q3 := s3 (hd 3 (by decide))
      have q4 := s4 (hd 4 (by decide))
      have q5 := s5 (hd 5 (by decide))
      have q6 := s6 (hd 6 (by decide))
      have q7 := (s7 (hd 7 (by decide))).symm
      have q8 := s8 (hd 8 (by decide))
      have q10 := (s10 (hd 10 (by decide))).symm
      have q9 := B9.ptr (hd 9 (by decide))
      have n13 : wc.heap[b13]? = some (.cells #[.int .u64 (wd rr 0 : Int), .int .u64 (wd rr 1 : Int), .int .u64 (wd rr 2 : Int), .int .u64 (wd rr 3 : Int)] 26) := B9.now (hd 9 (by decide)) (hd 11 (by decide))
      have v13 := B9.new (hd 9 (by decide))
      have m44 := M5 (hd 5 (by decide))
      subst ha q0 q1 q2 q3 q4 q5 q6 q7 q8 q9 q10
      clear hd s0 s1 s2 s3 s4 s5 s6 s7 s8 s10 B9 M5 V5_6 V5_7 V5_10
      obtain ⟨u4, hu4⟩ : ∃ u, u = wc := ⟨_, rfl⟩
      subst hu4
      have GP4 := Lib.hid (hO.heap GP.out (fun c => c))
      have GC4 := Lib.hid (hO.heap GC.out (fun c => c))
      have GR4 := Lib.hid n13
      have HZ14 := Lib.hid (HZ1.out.off hO)
      have HOx := Lib.hid (HOw.out.trans hO (fun _ _ c => c))
      have HTX := Lib.hid (fun W (h : Off (fun _ => False) u4 W) => HTW.out W (hO.trans h (fun _ _ c => c)))
      obtain ⟨az2, capz2, hz2e, _⟩ := HZ2.out.open
      obtain ⟨az, capz, hz1e, _⟩ := HZ14.out.open
      have hmq := m44
      obtain ⟨aq, capq, hqe, _⟩ := m44
      rw [List.length_map] at hz2e hqe
      obtain ⟨nz, hnz⟩ : ∃ nz, nz = vs.length := ⟨_, rfl⟩
      obtain ⟨nq, hnq⟩ : ∃ nq, nq = ql.length := ⟨_, rfl⟩
      rw [← hnz] at hz1e hz2e
      rw [← hnq] at hqe
      have hqz : nq = nz - 1 := by rw [hnq, HQl.out, hnz]
      have hnz12 : nz ≤ 12 := by have := HVl.out; omega
      have hwz : IntKind.i64.wrap ((nz : Int) - 1) = (nz : Int) - 1 := by rw [IntKind.wrap_i64]; omega
      have hmx : max ((nz : Int) - 1) 0 = (nq : Int) := by omega
      have HNz := Lib.hid hnz
      have HNq := Lib.hid hnq
      have HQz := Lib.hid hqz
      subst hz2e
      subst hqe
      subst hz1e
      have HMq := Lib.hid hmq
      clear hO n13 v13 hnz hnq hqz hmq GP GC HZ1 HZ2 HOw HTW FQ2
      go_wp2
      clear hwz hmx
      go_loopw [14, 56] (fun v i wr => ∃ k : Nat, k ≤ nq ∧ i = .int .i64 (k : Int) ∧ (∃ a c, v = .slice a k c ∧ wr.ownsRow u4.heap.size 24 4 v k (flat4 (ql.take k))) ∧ Off (fun _ => False) u4 wr) (fun _ i _ => nq - (intOf i).toNat)
      case atStart => exact ⟨0, Nat.zero_le _, rfl, ⟨none, 0, rfl, World.ownsRow_nil _ _ _ _⟩, Off.refl _ _⟩
      case round =>
        obtain ⟨k, hk, rfl, ⟨va, vc, rfl, hown⟩, hO⟩ := hrel
        by_cases hlt : k < nq
        · obtain ⟨x, b, off, hxk, rfl, c0, c1, c2, c3⟩ := LsAt.at (HMq.out.off hO (fun _ _ _ c => c)) hlt
          obtain ⟨m, hmk⟩ : ∃ m, ql[k]? = some m := ⟨_, List.getElem?_eq_getElem (by have := HNq.out; omega)⟩
          have hxm : x = fm p m := by rw [List.getElem?_map, hmk] at hxk; simpa using hxk.symm
          have FMx := Lib.hid (fun W => by have h := FVl.out m (HQp.out m (List.mem_of_getElem? hmk)) W; rw [← hxm] at h; exact h)
          have HYt := Lib.hid (show flat4 (ql.take k) ++ words4 m = flat4 (ql.take (k + 1)) by
            obtain ⟨hlk, hxk2⟩ := List.getElem?_eq_some_iff.1 hmk
            rw [List.take_succ_eq_append_getElem hlk, hxk2, flat4_append]; rfl)
          have hP := hO.heap GP4.out (fun c => c)
          obtain ⟨p0, p1, p2, p3⟩ := cells4 hP
          have hpl := heap_lt hP
          have hki : (k : Int) < (nq : Int) := by omega
          have hq12 : nq ≤ 12 := by have := HQz.out; omega
          have hwk : IntKind.i64.wrap ((k : Int) + 1) = (k : Int) + 1 := by rw [IntKind.wrap_i64]; omega
          have H3 := Lib.hid hown
          have HO := Lib.hid hO
          clear hown hO hxk hmk hxm hP
          go_wp2_with fail
          clear c0 c1 c2 c3 p0 p1 p2 p3
          refine (FMx.out _).mono ?_
          rintro e u5 ⟨rfl, hO4⟩
          have hOa : Off (fun _ => False) wr u5 := ((Off.refl _ wr).alloc _).trans hO4 (fun _ _ c => c)
          have HO2 := Lib.hid (HO.out.trans hOa (fun _ _ c => c))
          have H4 := Lib.hid (own_off H3.out hOa)
          clear hO4 hOa hpl
          go_wp2_with (at_builtin; refine wpList_append_own _ rfl _ _ 22 rfl u4.heap.size 24 j0 _ 4 32 Tryd.underlying22 hj hj0 hj1 hj2 rfl (by decide) _ k _ rfl (H4.out.alloc _) ⟨u5.heap.size, 0, none⟩ 1 1 (words4 m) rfl rfl ?q1 (words4_one _) ?q2 ?q3 ?q4 ?_)
          case q1 => exact words4_at (heap_new' rfl _)
          case q2 => unfold maxLen; omega
          case q3 => omega
          case q4 => have := HO2.out.size; simp; omega
          intro v' w1 hown' hgrow hnil
          obtain ⟨g', cap', rfl⟩ := ownsRow_succ hown'
          have hO5 : Off (fun _ => False) u4 w1 := grown_off (HO2.out.alloc _) (Nat.le_refl _) (H4.out.alloc _) hgrow
          rw [HYt.out] at hown'
          have HW1 := Lib.hid hown'
          have HO5 := Lib.hid hO5
          clear hown' hgrow hnil hO5
          go_wp2
          go_roundw
          case rel => exact ⟨k + 1, by omega, by simp, ⟨_, _, rfl, HW1.out⟩, HO5.out⟩
          case measure => simp [intOf] <;> omega
        · obtain rfl : k = nq := by omega
          have hw := ls_of_own hown (by rw [List.take_of_length_le (by have := HNq.out; omega)]; exact HNq.out) (by have := HQz.out; omega)
          rw [List.take_of_length_le (by have := HNq.out; omega)] at hw
          have hw := Ls.of hw
          obtain ⟨zu, hzu⟩ : ∃ z, z = Value.slice va k vc := ⟨_, rfl⟩
          rw [← hzu] at hw
          obtain ⟨u5, hu5⟩ : ∃ u, u = wr := ⟨_, rfl⟩
          subst hu5
          have FM2 := Lib.hid (show ∀ W u, Off (fun _ => False) u5 W → Ls W u [mc, 1] → _ from fun W u h k => FRm.out W zu u (hw.off h) k)
          have hP := hO.heap GP4.out (fun c => c)
          have hC := hO.heap GC4.out (fun c => c)
          have GP5 := Lib.hid hP
          have GC5 := Lib.hid hC
          have GR5 := Lib.hid (hO.heap GR4.out (fun c => c))
          have HZ15 := Lib.hid (HZ14.out.off hO)
          have HO5 := Lib.hid hO
          have HZu := Lib.hid hzu
          have HK15 : Hid (∀ W', Off (fun _ => False) u5 W' → (W'.cell? ⟨pb, 0, none⟩ = some (.int .u64 (wd p 0 : Int)) ∧ W'.cell? ⟨pb, 1, none⟩ = some (.int .u64 (wd p 1 : Int)) ∧ W'.cell? ⟨pb, 2, none⟩ = some (.int .u64 (wd p 2 : Int)) ∧ W'.cell? ⟨pb, 3, none⟩ = some (.int .u64 (wd p 3 : Int))) ∧ (W'.cell? ⟨cb, 0, none⟩ = some (.int .u64 (wd c 0 : Int)) ∧ W'.cell? ⟨cb, 1, none⟩ = some (.int .u64 (wd c 1 : Int)) ∧ W'.cell? ⟨cb, 2, none⟩ = some (.int .u64 (wd c 2 : Int)) ∧ W'.cell? ⟨cb, 3, none⟩ = some (.int .u64 (wd c 3 : Int))) ∧ Off (fun _ => False) u5 W') := Lib.hid (fun W' h => ⟨cells4 (h.heap hP (fun c => c)), cells4 (h.heap hC (fun c => c)), h⟩)
          clear hown hw hO hzu hP hC GP4 GC4 GR4 HZ14
          go_upto_region 15 with fail
          rw [← HZu.out]
          refine wp_region_inv (fun a0 l a' w' => ∃ (u67 : Value) (u68 : Value) (u69 : Value) (u70 : Value) (u71 : Value) (u72 : Value) (u73 : Value) (u74 : Value) (u75 : Value) (u17 : Value), a' = (Act.put (Act.put (Act.put (Act.put (Act.put (Act.put (Act.put (Act.put (Act.put (Act.put a0 (some 67) u67) (some 68) u68) (some 69) u69) (some 70) u70) (some 71) u71) (some 72) u72) (some 73) u73) (some 74) u74) (some 75) u75) (some 17) u17) ∧ Slot l 0 u67 (V p) ∧ Slot l 1 u68 (zu) ∧ Slot l 2 u69 (V p) ∧ Slot l 3 u70 (.agg #[.int .u64 0, .int .u64 0, .int .u64 0, .int .u64 0]) ∧ Slot l 4 u71 (V c) ∧ Slot l 5 u72 (V mc) ∧ Slot l 6 u73 (.agg #[.int .u64 1, .int .u64 0, .int .u64 0, .int .u64 0]) ∧ Lk l 7 u74 w' ([mc, 1]) ∧ Lk l 8 u75 w' (ml) ∧ Lk l 9 u17 w' (ml) ∧ Off (fun _ => False) u5 w') (by kernel_rfl) (by kernel_rfl) ?_ ⟨?_, ?_, ?_, ?_, ?_, ?_, ?_, ?_, ?_, ?_, trivial⟩ ?_
          · refine ⟨?z67, ?z68, ?z69, ?z70, ?z71, ?z72, ?z73, ?z74, ?z75, ?z17, ?fr, Slot.start _ _ _, Slot.start _ _ _, Slot.start _ _ _, Slot.start _ _ _, Slot.start _ _ _, Slot.start _ _ _, Slot.start _ _ _, Lk.start _ _ _ _, Lk.start _ _ _ _, Lk.start _ _ _ _, (Off.refl _ u5).drew⟩
            case fr => first | (simp only [Act.put, List.setIfInBounds_toArray, List.set_cons_zero, List.set_cons_succ]; rfl) | simp only [Act.put, List.setIfInBounds_toArray, List.set_cons_zero, List.set_cons_succ]
          · intro l a wr hI hl hd K' hK
            obtain ⟨u67, u68, u69, u70, u71, u72, u73, u74, u75, u17, ha, s0, s1, s2, s3, s4, s5, s6, M7, M8, M9, hO⟩ := hI
            simp only [Act.put, List.setIfInBounds_toArray, List.set_cons_zero, List.set_cons_succ] at ha
            subst ha
            have hc := HK15.out wr hO
            have p0 := hc.1.1
            have p1 := hc.1.2.1
            have p2 := hc.1.2.2.1
            have p3 := hc.1.2.2.2
            clear hc
            go_simp
            refine hK.out _ _ ⟨_, _, _, _, _, _, _, _, _, _, ?_, Slot.new _ _ _, s1.keep rfl, s2.keep rfl, s3.keep rfl, s4.keep rfl, s5.keep rfl, s6.keep rfl, M7.keep (Off.refl _ wr) rfl, M8.keep (Off.refl _ wr) rfl, M9.keep (Off.refl _ wr) rfl, hO⟩
            simp only [Act.put, List.setIfInBounds_toArray, List.set_cons_zero, List.set_cons_succ]
          · intro l a wr hI hl hd K' hK
            obtain ⟨u67, u68, u69, u70, u71, u72, u73, u74, u75, u17, ha, s0, s1, s2, s3, s4, s5, s6, M7, M8, M9, hO⟩ := hI
            simp only [Act.put, List.setIfInBounds_toArray, List.set_cons_zero, List.set_cons_succ] at ha
            subst ha
            go_simp
            refine hK.out _ _ ⟨_, _, _, _, _, _, _, _, _, _, ?_, s0.keep rfl, Slot.new _ _ _, s2.keep rfl, s3.keep rfl, s4.keep rfl, s5.keep rfl, s6.keep rfl, M7.keep (Off.refl _ wr) rfl, M8.keep (Off.refl _ wr) rfl, M9.keep (Off.refl _ wr) rfl, hO⟩
            simp only [Act.put, List.setIfInBounds_toArray, List.set_cons_zero, List.set_cons_succ]
          · intro l a wr hI hl hd K' hK
            obtain ⟨u67, u68, u69, u70, u71, u72, u73, u74, u75, u17, ha, s0, s1, s2, s3, s4, s5, s6, M7, M8, M9, hO⟩ := hI
            simp only [Act.put, List.setIfInBounds_toArray, List.set_cons_zero, List.set_cons_succ] at ha
            subst ha
            have hc := HK15.out wr hO
            have p0 := hc.1.1
            have p1 := hc.1.2.1
            have p2 := hc.1.2.2.1
            have p3 := hc.1.2.2.2
            clear hc
            go_simp
            refine hK.out _ _ ⟨_, _, _, _, _, _, _, _, _, _, ?_, s0.keep rfl, s1.keep rfl, Slot.new _ _ _, s3.keep rfl, s4.keep rfl, s5.keep rfl, s6.keep rfl, M7.keep (Off.refl _ wr) rfl, M8.keep (Off.refl _ wr) rfl, M9.keep (Off.refl _ wr) rfl, hO⟩
            simp only [Act.put, List.setIfInBounds_toArray, List.set_cons_zero, List.set_cons_succ]
          · intro l a wr hI hl hd K' hK
            obtain ⟨u67, u68, u69, u70, u71, u72, u73, u74, u75, u17, ha, s0, s1, s2, s3, s4, s5, s6, M7, M8, M9, hO⟩ := hI
            simp only [Act.put, List.setIfInBounds_toArray, List.set_cons_zero, List.set_cons_succ] at ha
            subst ha
            go_simp
            refine hK.out _ _ ⟨_, _, _, _, _, _, _, _, _, _, ?_, s0.keep rfl, s1.keep rfl, s2.keep rfl, Slot.new _ _ _, s4.keep rfl, s5.keep rfl, s6.keep rfl, M7.keep (Off.refl _ wr) rfl, M8.keep (Off.refl _ wr) rfl, M9.keep (Off.refl _ wr) rfl, hO⟩
            simp only [Act.put, List.setIfInBounds_toArray, List.set_cons_zero, List.set_cons_succ]
          · intro l a wr hI hl hd K' hK
            obtain ⟨u67, u68, u69, u70, u71, u72, u73, u74, u75, u17, ha, s0, s1, s2, s3, s4, s5, s6, M7, M8, M9, hO⟩ := hI
            simp only [Act.put, List.setIfInBounds_toArray, List.set_cons_zero, List.set_cons_succ] at ha
            subst ha
            have hc := HK15.out wr hO
            have p0 := hc.2.1.1
            have p1 := hc.2.1.2.1
            have p2 := hc.2.1.2.2.1
            have p3 := hc.2.1.2.2.2
            clear hc
            go_simp
            refine hK.out _ _ ⟨_, _, _, _, _, _, _, _, _, _, ?_, s0.keep rfl, s1.keep rfl, s2.keep rfl, s3.keep rfl, Slot.new _ _ _, s5.keep rfl, s6.keep rfl, M7.keep (Off.refl _ wr) rfl, M8.keep (Off.refl _ wr) rfl, M9.keep (Off.refl _ wr) rfl, hO⟩
            simp only [Act.put, List.setIfInBounds_toArray, List.set_cons_zero, List.set_cons_succ]
          · intro l a wr hI hl hd K' hK
            obtain ⟨u67, u68, u69, u70, u71, u72, u73, u74, u75, u17, ha, s0, s1, s2, s3, s4, s5, s6, M7, M8, M9, hO⟩ := hI
            simp only [Act.put, List.setIfInBounds_toArray, List.set_cons_zero, List.set_cons_succ] at ha
            have q2 := s2 (hd 2 (by decide))
            have q3 := s3 (hd 3 (by decide))
            have q4 := s4 (hd 4 (by decide))
            subst ha q2 q3 q4
            go_simp
            refine (held_inv (FSb.out wr) hO).mono ?_
            rintro e w1 ⟨rfl, hO1, hOW⟩
            go_wp2_with fail
            refine hK.out _ _ ⟨_, _, _, _, _, _, _, _, _, _, ?_, s0.keep rfl, s1.keep rfl, s2.keep rfl, s3.keep rfl, s4.keep rfl, Slot.new _ _ _, s6.keep rfl, M7.keep hOW rfl, M8.keep hOW rfl, M9.keep hOW rfl, hO1⟩
            simp only [Act.put, List.setIfInBounds_toArray, List.set_cons_zero, List.set_cons_succ]
          · intro l a wr hI hl hd K' hK
            obtain ⟨u67, u68, u69, u70, u71, u72, u73, u74, u75, u17, ha, s0, s1, s2, s3, s4, s5, s6, M7, M8, M9, hO⟩ := hI
            simp only [Act.put, List.setIfInBounds_toArray, List.set_cons_zero, List.set_cons_succ] at ha
            subst ha
            go_simp
            refine hK.out _ _ ⟨_, _, _, _, _, _, _, _, _, _, ?_, s0.keep rfl, s1.keep rfl, s2.keep rfl, s3.keep rfl, s4.keep rfl, s5.keep rfl, Slot.new _ _ _, M7.keep (Off.refl _ wr) rfl, M8.keep (Off.refl _ wr) rfl, M9.keep (Off.refl _ wr) rfl, hO⟩
            simp only [Act.put, List.setIfInBounds_toArray, List.set_cons_zero, List.set_cons_succ]
          · intro l a wr hI hl hd K' hK
            obtain ⟨u67, u68, u69, u70, u71, u72, u73, u74, u75, u17, ha, s0, s1, s2, s3, s4, s5, s6, M7, M8, M9, hO⟩ := hI
            simp only [Act.put, List.setIfInBounds_toArray, List.set_cons_zero, List.set_cons_succ] at ha
            have q5 := s5 (hd 5 (by decide))
            have q6 := s6 (hd 6 (by decide))
            subst ha q5 q6
            go_simp
            refine hK.out _ _ ⟨_, _, _, _, _, _, _, _, _, _, ?_, s0.keep rfl, s1.keep rfl, s2.keep rfl, s3.keep rfl, s4.keep rfl, s5.keep rfl, s6.keep rfl, (fun _ => build_x1 wr mc), M8.keep ((Off.refl _ wr).alloc _) rfl, M9.keep ((Off.refl _ wr).alloc _) rfl, hO.alloc _⟩
            simp only [Act.put, List.setIfInBounds_toArray, List.set_cons_zero, List.set_cons_succ]
          · intro l a wr hI hl hd K' hK
            obtain ⟨u67, u68, u69, u70, u71, u72, u73, u74, u75, u17, ha, s0, s1, s2, s3, s4, s5, s6, M7, M8, M9, hO⟩ := hI
            simp only [Act.put, List.setIfInBounds_toArray, List.set_cons_zero, List.set_cons_succ] at ha
            have q0 := s0 (hd 0 (by decide))
            have q1 := (s1 (hd 1 (by decide))).symm
            have m7 := M7 (hd 7 (by decide))
            subst ha q0 q1
            go_simp
            refine (FM2.out wr u74 hO m7).mono ?_
            rintro e w1 ⟨uv, rfl, hm, hOW⟩
            have hO1 := hO.trans hOW (fun _ _ c => c.elim)
            go_wp2_with fail
            refine hK.out _ _ ⟨_, _, _, _, _, _, _, _, _, _, ?_, s0.keep rfl, s1.keep rfl, s2.keep rfl, s3.keep rfl, s4.keep rfl, s5.keep rfl, s6.keep rfl, M7.keep hOW rfl, Lk.new hm, M9.keep hOW rfl, hO1⟩
            simp only [Act.put, List.setIfInBounds_toArray, List.set_cons_zero, List.set_cons_succ]
          · intro l a wr hI hl hd K' hK
            obtain ⟨u67, u68, u69, u70, u71, u72, u73, u74, u75, u17, ha, s0, s1, s2, s3, s4, s5, s6, M7, M8, M9, hO⟩ := hI
            simp only [Act.put, List.setIfInBounds_toArray, List.set_cons_zero, List.set_cons_succ] at ha
            have m8 := M8 (hd 8 (by decide))
            subst ha
            go_simp
            refine hK.out _ _ ⟨_, _, _, _, _, _, _, _, _, _, ?_, s0.keep rfl, s1.keep rfl, s2.keep rfl, s3.keep rfl, s4.keep rfl, s5.keep rfl, s6.keep rfl, M7.keep (Off.refl _ wr) rfl, M8.keep (Off.refl _ wr) rfl, Lk.new (m8), hO⟩
            simp only [Act.put, List.setIfInBounds_toArray, List.set_cons_zero, List.set_cons_succ]
          · intro l a wc hI hd
            obtain ⟨u67, u68, u69, u70, u71, u72, u73, u74, u75, u17, ha, s0, s1, s2, s3, s4, s5, s6, M7, M8, M9, hO⟩ := hI
            simp only [Act.put, List.setIfInBounds_toArray, List.set_cons_zero, List.set_cons_succ] at ha
            have q0 := s0 (hd 0 (by decide))
            have q1 := (s1 (hd 1 (by decide))).symm
            have q2 := s2 (hd 2 (by decide))
            have q3 := s3 (hd 3 (by decide))
            have q4 := s4 (hd 4 (by decide))
            have q5 := s5 (hd 5 (by decide))
            have q6 := s6 (hd 6 (by decide))
            have m74 := M7 (hd 7 (by decide))
            have m75 := M8 (hd 8 (by decide))
            have m17 := M9 (hd 9 (by decide))
            subst ha q0 q1 q2 q3 q4 q5 q6
            clear hd s0 s1 s2 s3 s4 s5 s6 M7 M8 M9
            obtain ⟨zm, hzm⟩ : ∃ z, z = u17 := ⟨_, rfl⟩
            subst hzm
            obtain ⟨u6, hu6⟩ : ∃ u, u = wc := ⟨_, rfl⟩
            subst hu6
            have FA2 := Lib.hid (show ∀ W u, Off (fun _ => False) u6 W → Ls W u [rv] → _ from fun W u h k => FRa.out W zm u (m17.off h) k)
            have hP := hO.heap GP5.out (fun c => c)
            have hR := hO.heap GR5.out (fun c => c)
            have GP6 := Lib.hid hP
            have GR6 := Lib.hid hR
            have GC6 := Lib.hid (hO.heap GC5.out (fun c => c))
            have HZ16 := Lib.hid (HZ15.out.off hO)
            have HO6 := Lib.hid (HO5.out.trans hO (fun _ _ c => c))
            have HK16 : Hid (∀ W', Off (fun _ => False) u6 W' → (W'.cell? ⟨pb, 0, none⟩ = some (.int .u64 (wd p 0 : Int)) ∧ W'.cell? ⟨pb, 1, none⟩ = some (.int .u64 (wd p 1 : Int)) ∧ W'.cell? ⟨pb, 2, none⟩ = some (.int .u64 (wd p 2 : Int)) ∧ W'.cell? ⟨pb, 3, none⟩ = some (.int .u64 (wd p 3 : Int))) ∧ (W'.cell? ⟨b13, 0, none⟩ = some (.int .u64 (wd rr 0 : Int)) ∧ W'.cell? ⟨b13, 1, none⟩ = some (.int .u64 (wd rr 1 : Int)) ∧ W'.cell? ⟨b13, 2, none⟩ = some (.int .u64 (wd rr 2 : Int)) ∧ W'.cell? ⟨b13, 3, none⟩ = some (.int .u64 (wd rr 3 : Int))) ∧ Off (fun _ => False) u6 W') := Lib.hid (fun W' h => ⟨cells4 (h.heap hP (fun c => c)), cells4 (h.heap hR (fun c => c)), h⟩)
            clear hO hP hR m17 m74 m75 GP5 GC5 GR5 HZ15 HO5 FM2
            go_upto_region 16 with fail
            refine wp_region_inv (fun a0 l a' w' => ∃ (u76 : Value) (u77 : Value) (u78 : Value) (u79 : Value) (u80 : Value) (u81 : Value) (u82 : Value) (u17 : Value), a' = (Act.put (Act.put (Act.put (Act.put (Act.put (Act.put (Act.put (Act.put a0 (some 76) u76) (some 77) u77) (some 78) u78) (some 79) u79) (some 80) u80) (some 81) u81) (some 82) u82) (some 17) u17) ∧ Slot l 0 u76 (V p) ∧ Slot l 1 u77 (zm) ∧ Slot l 2 u78 (V p) ∧ Slot l 3 u79 (V rr) ∧ Slot l 4 u80 (V rv) ∧ Lk l 5 u81 w' ([rv]) ∧ Lk l 6 u82 w' (bl) ∧ Lk l 7 u17 w' (bl) ∧ Dep l 1 6 ∧ Dep l 1 7 ∧ Was l 7 u17 (zm) ∧ Off (fun _ => False) u6 w') (by kernel_rfl) (by kernel_rfl) ?_ ⟨?_, ?_, ?_, ?_, ?_, ?_, ?_, ?_, trivial⟩ ?_
            · refine ⟨?z76, ?z77, ?z78, ?z79, ?z80, ?z81, ?z82, zm, ?fr, Slot.start _ _ _, Slot.start _ _ _, Slot.start _ _ _, Slot.start _ _ _, Slot.start _ _ _, Lk.start _ _ _ _, Lk.start _ _ _ _, Lk.start _ _ _ _, Dep.start _ _, Dep.start _ _, Was.start _ _, (Off.refl _ u6).drew⟩
              case fr => first | (simp only [Act.put, List.setIfInBounds_toArray, List.set_cons_zero, List.set_cons_succ]; rfl) | simp only [Act.put, List.setIfInBounds_toArray, List.set_cons_zero, List.set_cons_succ]
            · intro l a wr hI hl hd K' hK
              obtain ⟨u76, u77, u78, u79, u80, u81, u82, u17, ha, s0, s1, s2, s3, s4, M5, M6, M7, V1_6, V1_7, W7, hO⟩ := hI
              simp only [Act.put, List.setIfInBounds_toArray, List.set_cons_zero, List.set_cons_succ] at ha
              subst ha
              have hc := HK16.out wr hO
              have p0 := hc.1.1
              have p1 := hc.1.2.1
              have p2 := hc.1.2.2.1
              have p3 := hc.1.2.2.2
              clear hc
              go_simp
              refine hK.out _ _ ⟨_, _, _, _, _, _, _, _, ?_, Slot.new _ _ _, s1.keep rfl, s2.keep rfl, s3.keep rfl, s4.keep rfl, M5.keep (Off.refl _ wr) rfl, M6.keep (Off.refl _ wr) rfl, M7.keep (Off.refl _ wr) rfl, V1_6.keep rfl, V1_7.keep rfl, W7.keep rfl, hO⟩
              simp only [Act.put, List.setIfInBounds_toArray, List.set_cons_zero, List.set_cons_succ]
            · intro l a wr hI hl hd K' hK
              obtain ⟨u76, u77, u78, u79, u80, u81, u82, u17, ha, s0, s1, s2, s3, s4, M5, M6, M7, V1_6, V1_7, W7, hO⟩ := hI
              simp only [Act.put, List.setIfInBounds_toArray, List.set_cons_zero, List.set_cons_succ] at ha
              have qw := (W7 (V1_7 hl)).symm
              subst ha qw
              go_simp
              refine hK.out _ _ ⟨_, _, _, _, _, _, _, _, ?_, s0.keep rfl, Slot.new _ _ _, s2.keep rfl, s3.keep rfl, s4.keep rfl, M5.keep (Off.refl _ wr) rfl, M6.keep (Off.refl _ wr) rfl, M7.keep (Off.refl _ wr) rfl, V1_6.keep rfl, V1_7.keep rfl, W7.keep rfl, hO⟩
              simp only [Act.put, List.setIfInBounds_toArray, List.set_cons_zero, List.set_cons_succ]
            · intro l a wr hI hl hd K' hK
              obtain ⟨u76, u77, u78, u79, u80, u81, u82, u17, ha, s0, s1, s2, s3, s4, M5, M6, M7, V1_6, V1_7, W7, hO⟩ := hI
              simp only [Act.put, List.setIfInBounds_toArray, List.set_cons_zero, List.set_cons_succ] at ha
              subst ha
              have hc := HK16.out wr hO
              have p0 := hc.1.1
              have p1 := hc.1.2.1
              have p2 := hc.1.2.2.1
              have p3 := hc.1.2.2.2
              clear hc
              go_simp
              refine hK.out _ _ ⟨_, _, _, _, _, _, _, _, ?_, s0.keep rfl, s1.keep rfl, Slot.new _ _ _, s3.keep rfl, s4.keep rfl, M5.keep (Off.refl _ wr) rfl, M6.keep (Off.refl _ wr) rfl, M7.keep (Off.refl _ wr) rfl, V1_6.keep rfl, V1_7.keep rfl, W7.keep rfl, hO⟩
              simp only [Act.put, List.setIfInBounds_toArray, List.set_cons_zero, List.set_cons_succ]
            · intro l a wr hI hl hd K' hK
              obtain ⟨u76, u77, u78, u79, u80, u81, u82, u17, ha, s0, s1, s2, s3, s4, M5, M6, M7, V1_6, V1_7, W7, hO⟩ := hI
              simp only [Act.put, List.setIfInBounds_toArray, List.set_cons_zero, List.set_cons_succ] at ha
              subst ha
              have hc := HK16.out wr hO
              have p0 := hc.2.1.1
              have p1 := hc.2.1.2.1
              have p2 := hc.2.1.2.2.1
              have p3 := hc.2.1.2.2.2
              clear hc
              go_simp
              refine hK.out _ _ ⟨_, _, _, _, _, _, _, _, ?_, s0.keep rfl, s1.keep rfl, s2.keep rfl, Slot.new _ _ _, s4.keep rfl, M5.keep (Off.refl _ wr) rfl, M6.keep (Off.refl _ wr) rfl, M7.keep (Off.refl _ wr) rfl, V1_6.keep rfl, V1_7.keep rfl, W7.keep rfl, hO⟩
              simp only [Act.put, List.setIfInBounds_toArray, List.set_cons_zero, List.set_cons_succ]
            · intro l a wr hI hl hd K' hK
              obtain ⟨u76, u77, u78, u79, u80, u81, u82, u17, ha, s0, s1, s2, s3, s4, M5, M6, M7, V1_6, V1_7, W7, hO⟩ := hI
              simp only [Act.put, List.setIfInBounds_toArray, List.set_cons_zero, List.set_cons_succ] at ha
              have q2 := s2 (hd 2 (by decide))
              have q3 := s3 (hd 3 (by decide))
              subst ha q2 q3
              go_simp
              refine (held_inv (FVr.out wr) hO).mono ?_
              rintro e w1 ⟨rfl, hO1, hOW⟩
              go_wp2_with fail
              refine hK.out _ _ ⟨_, _, _, _, _, _, _, _, ?_, s0.keep rfl, s1.keep rfl, s2.keep rfl, s3.keep rfl, Slot.new _ _ _, M5.keep hOW rfl, M6.keep hOW rfl, M7.keep hOW rfl, V1_6.keep rfl, V1_7.keep rfl, W7.keep rfl, hO1⟩
              simp only [Act.put, List.setIfInBounds_toArray, List.set_cons_zero, List.set_cons_succ]
            · intro l a wr hI hl hd K' hK
              obtain ⟨u76, u77, u78, u79, u80, u81, u82, u17, ha, s0, s1, s2, s3, s4, M5, M6, M7, V1_6, V1_7, W7, hO⟩ := hI
              simp only [Act.put, List.setIfInBounds_toArray, List.set_cons_zero, List.set_cons_succ] at ha
              have q4 := s4 (hd 4 (by decide))
              subst ha q4
              go_simp
              refine hK.out _ _ ⟨_, _, _, _, _, _, _, _, ?_, s0.keep rfl, s1.keep rfl, s2.keep rfl, s3.keep rfl, s4.keep rfl, (fun _ => build_1 wr rv), M6.keep ((Off.refl _ wr).alloc _) rfl, M7.keep ((Off.refl _ wr).alloc _) rfl, V1_6.keep rfl, V1_7.keep rfl, W7.keep rfl, hO.alloc _⟩
              simp only [Act.put, List.setIfInBounds_toArray, List.set_cons_zero, List.set_cons_succ]
            · intro l a wr hI hl hd K' hK
              obtain ⟨u76, u77, u78, u79, u80, u81, u82, u17, ha, s0, s1, s2, s3, s4, M5, M6, M7, V1_6, V1_7, W7, hO⟩ := hI
              simp only [Act.put, List.setIfInBounds_toArray, List.set_cons_zero, List.set_cons_succ] at ha
              have q0 := s0 (hd 0 (by decide))
              have q1 := (s1 (hd 1 (by decide))).symm
              have m5 := M5 (hd 5 (by decide))
              subst ha q0 q1
              go_simp
              refine (FA2.out wr u81 hO m5).mono ?_
              rintro e w1 ⟨uv, rfl, hm, hOW⟩
              have hO1 := hO.trans hOW (fun _ _ c => c.elim)
              go_wp2_with fail
              refine hK.out _ _ ⟨_, _, _, _, _, _, _, _, ?_, s0.keep rfl, s1.keep rfl, s2.keep rfl, s3.keep rfl, s4.keep rfl, M5.keep hOW rfl, Lk.new hm, M7.keep hOW rfl, Dep.at (hd 1 (by decide)), V1_7.keep rfl, W7.keep rfl, hO1⟩
              simp only [Act.put, List.setIfInBounds_toArray, List.set_cons_zero, List.set_cons_succ]
            · intro l a wr hI hl hd K' hK
              obtain ⟨u76, u77, u78, u79, u80, u81, u82, u17, ha, s0, s1, s2, s3, s4, M5, M6, M7, V1_6, V1_7, W7, hO⟩ := hI
              simp only [Act.put, List.setIfInBounds_toArray, List.set_cons_zero, List.set_cons_succ] at ha
              have m6 := M6 (hd 6 (by decide))
              subst ha
              go_simp
              refine hK.out _ _ ⟨_, _, _, _, _, _, _, _, ?_, s0.keep rfl, s1.keep rfl, s2.keep rfl, s3.keep rfl, s4.keep rfl, M5.keep (Off.refl _ wr) rfl, M6.keep (Off.refl _ wr) rfl, Lk.new (m6), V1_6.keep rfl, Dep.at (V1_6.via (hd 6 (by decide))), Was.gone _ _ _ _, hO⟩
              simp only [Act.put, List.setIfInBounds_toArray, List.set_cons_zero, List.set_cons_succ]
            · intro l a wc hI hd
              obtain ⟨u76, u77, u78, u79, u80, u81, u82, u17, ha, s0, s1, s2, s3, s4, M5, M6, M7, V1_6, V1_7, W7, hO⟩ := hI
              simp only [Act.put, List.setIfInBounds_toArray, List.set_cons_zero, List.set_cons_succ] at ha
              have q0 := s0 (hd 0 (by decide))
              have q1 := (s1 (hd 1 (by decide))).symm
              have q2 := s2 (hd 2 (by decide))
              have q3 := s3 (hd 3 (by decide))
              have q4 := s4 (hd 4 (by decide))
              have m81 := M5 (hd 5 (by decide))
              have m82 := M6 (hd 6 (by decide))
              have m17 := M7 (hd 7 (by decide))
              subst ha q0 q1 q2 q3 q4
              clear hd s0 s1 s2 s3 s4 M5 M6 M7 V1_6 V1_7 W7
              obtain ⟨ab, capb, hbe, hbL⟩ := Ls.open m17
              obtain ⟨nb, hnb⟩ : ∃ nb, nb = bl.length := ⟨_, rfl⟩
              rw [← hnb] at hbe hbL
              subst hbe
              obtain ⟨u7, hu7⟩ : ∃ u, u = wc := ⟨_, rfl⟩
              subst hu7
              have HB7 := Lib.hid hbL
              have HNb := Lib.hid hnb
              have hnb200 : nb ≤ 200 := by rw [hnb]; exact HBl.out
              have GP7 := Lib.hid (hO.heap GP6.out (fun c => c))
              have GR7 := Lib.hid (hO.heap GR6.out (fun c => c))
              have GC7 := Lib.hid (hO.heap GC6.out (fun c => c))
              have HZ17 := Lib.hid (HZ16.out.off hO)
              have HO7 := Lib.hid (HO6.out.trans hO (fun _ _ c => c))
              clear hO hbL hnb m17 m81 m82 GP6 GC6 GR6 HZ16 HO6 FA2
              go_wp2
              go_loopw [85] (fun i wr => ∃ k : Nat, k ≤ nz ∧ i = .int .i64 (k : Int) ∧ Off (fun _ => False) u7 wr) (fun i _ => nz - (intOf i).toNat)
              case atStart => exact ⟨0, Nat.zero_le _, rfl, Off.refl _ _⟩
              case round =>
                obtain ⟨k, hk, rfl, hO⟩ := hrel
                by_cases hlt : k < nz
                · obtain ⟨x, b, off, hxk, rfl, c0, c1, c2, c3⟩ := LsAt.at (HZ17.out.off hO) hlt
                  have hbk : bl[k]? = some x := by rw [HBk.out k (by have := HNz.out; omega), List.getD_eq_getElem?_getD, hxk]; rfl
                  have hknb : k < nb := by rw [HNb.out]; exact (List.getElem?_eq_some_iff.1 hbk).1
                  obtain ⟨x2, bb, ob, hx2, rfl, d0, d1, d2, d3⟩ := LsAt.at (HB7.out.off hO (fun _ _ _ c => c)) hknb
                  obtain rfl : x = x2 := by rw [hbk] at hx2; simpa using hx2
                  have hki : (k : Int) < (nz : Int) := by omega
                  have hkb : (k : Int) < (nb : Int) := by omega
                  have hge : ¬ nb ≤ k := by omega
                  have hgd : decide (nb ≤ k) = false := by simp; omega
                  have hwk : IntKind.i64.wrap ((k : Int) + 1) = (k : Int) + 1 := by rw [IntKind.wrap_i64]; omega
                  obtain ⟨u8, hu8⟩ : ∃ u, u = wr.alloc (.cells #[.int .u64 (wd x 0 : Int), .int .u64 (wd x 1 : Int), .int .u64 (wd x 2 : Int), .int .u64 (wd x 3 : Int)] 24) := ⟨_, rfl⟩
                  obtain ⟨xb, hxb⟩ : ∃ b, b = wr.heap.size := ⟨_, rfl⟩
                  have hO8 : Off (fun _ => False) wr u8 := by rw [hu8]; exact (Off.refl _ wr).alloc _
                  have hX8 : u8.heap[xb]? = some (.cells #[.int .u64 (wd x 0 : Int), .int .u64 (wd x 1 : Int), .int .u64 (wd x 2 : Int), .int .u64 (wd x 3 : Int)] 24 (0, 0)) := by rw [hu8, hxb]; exact heap_new' rfl _
                  have HU8 := Lib.hid (show wr.alloc (.cells #[.int .u64 (wd x 0 : Int), .int .u64 (wd x 1 : Int), .int .u64 (wd x 2 : Int), .int .u64 (wd x 3 : Int)] 24) = u8 ∧ wr.heap.size = xb from ⟨hu8.symm, hxb.symm⟩)
                  have d0' := hO8.cell d0 (fun c => c)
                  have d1' := hO8.cell d1 (fun c => c)
                  have d2' := hO8.cell d2 (fun c => c)
                  have d3' := hO8.cell d3 (fun c => c)
                  have HK20 : Hid (∀ W', Off (fun _ => False) u8 W' → (W'.cell? ⟨bb, ob + k * 4, none⟩ = some (.int .u64 (wd x 0 : Int)) ∧ W'.cell? ⟨bb, ob + k * 4 + 1, none⟩ = some (.int .u64 (wd x 1 : Int)) ∧ W'.cell? ⟨bb, ob + k * 4 + 2, none⟩ = some (.int .u64 (wd x 2 : Int)) ∧ W'.cell? ⟨bb, ob + k * 4 + 3, none⟩ = some (.int .u64 (wd x 3 : Int))) ∧ (W'.cell? ⟨xb, 0, none⟩ = some (.int .u64 (wd x 0 : Int)) ∧ W'.cell? ⟨xb, 1, none⟩ = some (.int .u64 (wd x 1 : Int)) ∧ W'.cell? ⟨xb, 2, none⟩ = some (.int .u64 (wd x 2 : Int)) ∧ W'.cell? ⟨xb, 3, none⟩ = some (.int .u64 (wd x 3 : Int))) ∧ Off (fun _ => False) u8 W') := Lib.hid (fun W' h => ⟨⟨h.cell d0' (fun c => c), h.cell d1' (fun c => c), h.cell d2' (fun c => c), h.cell d3' (fun c => c)⟩, cells4 (h.heap hX8 (fun c => c)), h⟩)
                  have HO8 := Lib.hid (hO.trans hO8 (fun _ _ c => c))
                  clear hO hO8 hX8 hu8 hxb hxk hbk hknb hx2 d0 d1 d2 d3 d0' d1' d2' d3'
                  go_upto_region 20 with fail
                  clear c0 c1 c2 c3
                  rw [HU8.out.1, HU8.out.2]
                  refine wp_region_inv (fun a0 l a' w' => ∃ (u90 : Value) (u91 : Value) (u92 : Value) (u93 : Value) (u94 : Value) (u95 : Value) (u96 : Value) (u97 : Value) (u98 : Value) (u99 : Value) (u100 : Value) (u101 : Value), a' = (Act.put (Act.put (Act.put (Act.put (Act.put (Act.put (Act.put (Act.put (Act.put (Act.put (Act.put (Act.put a0 (some 90) u90) (some 91) u91) (some 92) u92) (some 93) u93) (some 94) u94) (some 95) u95) (some 96) u96) (some 97) u97) (some 98) u98) (some 99) u99) (some 100) u100) (some 101) u101) ∧ Slot l 0 u90 (.int .i64 (k : Int)) ∧ Slot l 1 u91 (.slice (some ⟨bb, ob, none⟩) nb capb) ∧ Slot l 2 u92 (.int .i64 (nb : Int)) ∧ Slot l 3 u93 (.bool false) ∧ Slot l 4 u94 (.bool false) ∧ Slot l 5 u95 (.slice (some ⟨bb, ob, none⟩) nb capb) ∧ Slot l 6 u96 (.int .i64 (k : Int)) ∧ Slot l 7 u97 (.pointer (some ⟨bb, ob + k * 4, none⟩)) ∧ Slot l 8 u98 (V x) ∧ Slot l 9 u99 (V x) ∧ Slot l 10 u100 (.bool false) ∧ Slot l 11 u101 (.bool false) ∧ Off (fun _ => False) u8 w') (by kernel_rfl) (by kernel_rfl) ?_ ⟨?_, ?_, ?_, ?_, ?_, ?_, ?_, ?_, ?_, ?_, ?_, ?_, trivial⟩ ?_
                  · refine ⟨?z90, ?z91, ?z92, ?z93, ?z94, ?z95, ?z96, ?z97, ?z98, ?z99, ?z100, ?z101, ?fr, Slot.start _ _ _, Slot.start _ _ _, Slot.start _ _ _, Slot.start _ _ _, Slot.start _ _ _, Slot.start _ _ _, Slot.start _ _ _, Slot.start _ _ _, Slot.start _ _ _, Slot.start _ _ _, Slot.start _ _ _, Slot.start _ _ _, (Off.refl _ u8).drew⟩
                    case fr => first | (simp only [Act.put, List.setIfInBounds_toArray, List.set_cons_zero, List.set_cons_succ]; rfl) | simp only [Act.put, List.setIfInBounds_toArray, List.set_cons_zero, List.set_cons_succ]
                  · intro l a wr hI hl hd K' hK
                    obtain ⟨u90, u91, u92, u93, u94, u95, u96, u97, u98, u99, u100, u101, ha, s0, s1, s2, s3, s4, s5, s6, s7, s8, s9, s10, s11, hO⟩ := hI
                    simp only [Act.put, List.setIfInBounds_toArray, List.set_cons_zero, List.set_cons_succ] at ha
                    subst ha
                    go_simp
                    refine hK.out _ _ ⟨_, _, _, _, _, _, _, _, _, _, _, _, ?_, Slot.new _ _ _, s1.keep rfl, s2.keep rfl, s3.keep rfl, s4.keep rfl, s5.keep rfl, s6.keep rfl, s7.keep rfl, s8.keep rfl, s9.keep rfl, s10.keep rfl, s11.keep rfl, hO⟩
                    simp only [Act.put, List.setIfInBounds_toArray, List.set_cons_zero, List.set_cons_succ]
                  · intro l a wr hI hl hd K' hK
                    obtain ⟨u90, u91, u92, u93, u94, u95, u96, u97, u98, u99, u100, u101, ha, s0, s1, s2, s3, s4, s5, s6, s7, s8, s9, s10, s11, hO⟩ := hI
                    simp only [Act.put, List.setIfInBounds_toArray, List.set_cons_zero, List.set_cons_succ] at ha
                    subst ha
                    go_simp
                    refine hK.out _ _ ⟨_, _, _, _, _, _, _, _, _, _, _, _, ?_, s0.keep rfl, Slot.new _ _ _, s2.keep rfl, s3.keep rfl, s4.keep rfl, s5.keep rfl, s6.keep rfl, s7.keep rfl, s8.keep rfl, s9.keep rfl, s10.keep rfl, s11.keep rfl, hO⟩
                    simp only [Act.put, List.setIfInBounds_toArray, List.set_cons_zero, List.set_cons_succ]
                  · intro l a wr hI hl hd K' hK
                    obtain ⟨u90, u91, u92, u93, u94, u95, u96, u97, u98, u99, u100, u101, ha, s0, s1, s2, s3, s4, s5, s6, s7, s8, s9, s10, s11, hO⟩ := hI
                    simp only [Act.put, List.setIfInBounds_toArray, List.set_cons_zero, List.set_cons_succ] at ha
                    have q1 := s1 (hd 1 (by decide))
                    subst ha q1
                    go_simp
                    refine hK.out _ _ ⟨_, _, _, _, _, _, _, _, _, _, _, _, ?_, s0.keep rfl, s1.keep rfl, Slot.new _ _ _, s3.keep rfl, s4.keep rfl, s5.keep rfl, s6.keep rfl, s7.keep rfl, s8.keep rfl, s9.keep rfl, s10.keep rfl, s11.keep rfl, hO⟩
                    simp only [Act.put, List.setIfInBounds_toArray, List.set_cons_zero, List.set_cons_succ]
                  · intro l a wr hI hl hd K' hK
                    obtain ⟨u90, u91, u92, u93, u94, u95, u96, u97, u98, u99, u100, u101, ha, s0, s1, s2, s3, s4, s5, s6, s7, s8, s9, s10, s11, hO⟩ := hI
                    simp only [Act.put, List.setIfInBounds_toArray, List.set_cons_zero, List.set_cons_succ] at ha
                    have q0 := s0 (hd 0 (by decide))
                    have q2 := s2 (hd 2 (by decide))
                    subst ha q0 q2
                    go_simp
                    refine hK.out _ _ ⟨_, _, _, _, _, _, _, _, _, _, _, _, ?_, s0.keep rfl, s1.keep rfl, s2.keep rfl, Slot.new _ _ _, s4.keep rfl, s5.keep rfl, s6.keep rfl, s7.keep rfl, s8.keep rfl, s9.keep rfl, s10.keep rfl, s11.keep rfl, hO⟩
                    simp only [Act.put, List.setIfInBounds_toArray, List.set_cons_zero, List.set_cons_succ]
                  · intro l a wr hI hl hd K' hK
                    obtain ⟨u90, u91, u92, u93, u94, u95, u96, u97, u98, u99, u100, u101, ha, s0, s1, s2, s3, s4, s5, s6, s7, s8, s9, s10, s11, hO⟩ := hI
                    simp only [Act.put, List.setIfInBounds_toArray, List.set_cons_zero, List.set_cons_succ] at ha
                    have q3 := s3 (hd 3 (by decide))
                    subst ha q3
                    go_simp
                    refine hK.out _ _ ⟨_, _, _, _, _, _, _, _, _, _, _, _, ?_, s0.keep rfl, s1.keep rfl, s2.keep rfl, s3.keep rfl, Slot.new _ _ _, s5.keep rfl, s6.keep rfl, s7.keep rfl, s8.keep rfl, s9.keep rfl, s10.keep rfl, s11.keep rfl, hO⟩
                    simp only [Act.put, List.setIfInBounds_toArray, List.set_cons_zero, List.set_cons_succ]
                  · intro l a wr hI hl hd K' hK
                    obtain ⟨u90, u91, u92, u93, u94, u95, u96, u97, u98, u99, u100, u101, ha, s0, s1, s2, s3, s4, s5, s6, s7, s8, s9, s10, s11, hO⟩ := hI
                    simp only [Act.put, List.setIfInBounds_toArray, List.set_cons_zero, List.set_cons_succ] at ha
                    have q4 := s4 (hd 4 (by decide))
                    subst ha q4
                    go_simp
                    refine hK.out _ _ ⟨_, _, _, _, _, _, _, _, _, _, _, _, ?_, s0.keep rfl, s1.keep rfl, s2.keep rfl, s3.keep rfl, s4.keep rfl, Slot.new _ _ _, s6.keep rfl, s7.keep rfl, s8.keep rfl, s9.keep rfl, s10.keep rfl, s11.keep rfl, hO⟩
                    simp only [Act.put, List.setIfInBounds_toArray, List.set_cons_zero, List.set_cons_succ]
                  · intro l a wr hI hl hd K' hK
                    obtain ⟨u90, u91, u92, u93, u94, u95, u96, u97, u98, u99, u100, u101, ha, s0, s1, s2, s3, s4, s5, s6, s7, s8, s9, s10, s11, hO⟩ := hI
                    simp only [Act.put, List.setIfInBounds_toArray, List.set_cons_zero, List.set_cons_succ] at ha
                    have q4 := s4 (hd 4 (by decide))
                    subst ha q4
                    go_simp
                    refine hK.out _ _ ⟨_, _, _, _, _, _, _, _, _, _, _, _, ?_, s0.keep rfl, s1.keep rfl, s2.keep rfl, s3.keep rfl, s4.keep rfl, s5.keep rfl, Slot.new _ _ _, s7.keep rfl, s8.keep rfl, s9.keep rfl, s10.keep rfl, s11.keep rfl, hO⟩
                    simp only [Act.put, List.setIfInBounds_toArray, List.set_cons_zero, List.set_cons_succ]
                  · intro l a wr hI hl hd K' hK
                    obtain ⟨u90, u91, u92, u93, u94, u95, u96, u97, u98, u99, u100, u101, ha, s0, s1, s2, s3, s4, s5, s6, s7, s8, s9, s10, s11, hO⟩ := hI
                    simp only [Act.put, List.setIfInBounds_toArray, List.set_cons_zero, List.set_cons_succ] at ha
                    have q4 := s4 (hd 4 (by decide))
                    have q5 := s5 (hd 5 (by decide))
                    have q6 := s6 (hd 6 (by decide))
                    subst ha q4 q5 q6
                    go_simp
                    refine hK.out _ _ ⟨_, _, _, _, _, _, _, _, _, _, _, _, ?_, s0.keep rfl, s1.keep rfl, s2.keep rfl, s3.keep rfl, s4.keep rfl, s5.keep rfl, s6.keep rfl, Slot.new _ _ _, s8.keep rfl, s9.keep rfl, s10.keep rfl, s11.keep rfl, hO⟩
                    simp only [Act.put, List.setIfInBounds_toArray, List.set_cons_zero, List.set_cons_succ]
                  · intro l a wr hI hl hd K' hK
                    obtain ⟨u90, u91, u92, u93, u94, u95, u96, u97, u98, u99, u100, u101, ha, s0, s1, s2, s3, s4, s5, s6, s7, s8, s9, s10, s11, hO⟩ := hI
                    simp only [Act.put, List.setIfInBounds_toArray, List.set_cons_zero, List.set_cons_succ] at ha
                    have q4 := s4 (hd 4 (by decide))
                    have q7 := s7 (hd 7 (by decide))
                    subst ha q4 q7
                    have hc := HK20.out wr hO
                    have p0 := hc.1.1
                    have p1 := hc.1.2.1
                    have p2 := hc.1.2.2.1
                    have p3 := hc.1.2.2.2
                    clear hc
                    go_simp
                    refine hK.out _ _ ⟨_, _, _, _, _, _, _, _, _, _, _, _, ?_, s0.keep rfl, s1.keep rfl, s2.keep rfl, s3.keep rfl, s4.keep rfl, s5.keep rfl, s6.keep rfl, s7.keep rfl, Slot.new _ _ _, s9.keep rfl, s10.keep rfl, s11.keep rfl, hO⟩
                    simp only [Act.put, List.setIfInBounds_toArray, List.set_cons_zero, List.set_cons_succ]
                  · intro l a wr hI hl hd K' hK
                    obtain ⟨u90, u91, u92, u93, u94, u95, u96, u97, u98, u99, u100, u101, ha, s0, s1, s2, s3, s4, s5, s6, s7, s8, s9, s10, s11, hO⟩ := hI
                    simp only [Act.put, List.setIfInBounds_toArray, List.set_cons_zero, List.set_cons_succ] at ha
                    have q4 := s4 (hd 4 (by decide))
                    subst ha q4
                    have hc := HK20.out wr hO
                    have p0 := hc.2.1.1
                    have p1 := hc.2.1.2.1
                    have p2 := hc.2.1.2.2.1
                    have p3 := hc.2.1.2.2.2
                    clear hc
                    go_simp
                    refine hK.out _ _ ⟨_, _, _, _, _, _, _, _, _, _, _, _, ?_, s0.keep rfl, s1.keep rfl, s2.keep rfl, s3.keep rfl, s4.keep rfl, s5.keep rfl, s6.keep rfl, s7.keep rfl, s8.keep rfl, Slot.new _ _ _, s10.keep rfl, s11.keep rfl, hO⟩
                    simp only [Act.put, List.setIfInBounds_toArray, List.set_cons_zero, List.set_cons_succ]
                  · intro l a wr hI hl hd K' hK
                    obtain ⟨u90, u91, u92, u93, u94, u95, u96, u97, u98, u99, u100, u101, ha, s0, s1, s2, s3, s4, s5, s6, s7, s8, s9, s10, s11, hO⟩ := hI
                    simp only [Act.put, List.setIfInBounds_toArray, List.set_cons_zero, List.set_cons_succ] at ha
                    have q4 := s4 (hd 4 (by decide))
                    have q8 := s8 (hd 8 (by decide))
                    have q9 := s9 (hd 9 (by decide))
                    subst ha q4 q8 q9
                    go_simp
                    refine hK.out _ _ ⟨_, _, _, _, _, _, _, _, _, _, _, _, ?_, s0.keep rfl, s1.keep rfl, s2.keep rfl, s3.keep rfl, s4.keep rfl, s5.keep rfl, s6.keep rfl, s7.keep rfl, s8.keep rfl, s9.keep rfl, Slot.new _ _ _, s11.keep rfl, hO⟩
                    simp only [Act.put, List.setIfInBounds_toArray, List.set_cons_zero, List.set_cons_succ]
                  · intro l a wr hI hl hd K' hK
                    obtain ⟨u90, u91, u92, u93, u94, u95, u96, u97, u98, u99, u100, u101, ha, s0, s1, s2, s3, s4, s5, s6, s7, s8, s9, s10, s11, hO⟩ := hI
                    simp only [Act.put, List.setIfInBounds_toArray, List.set_cons_zero, List.set_cons_succ] at ha
                    have q4 := s4 (hd 4 (by decide))
                    have q10 := s10 (hd 10 (by decide))
                    subst ha q4 q10
                    go_simp
                    refine hK.out _ _ ⟨_, _, _, _, _, _, _, _, _, _, _, _, ?_, s0.keep rfl, s1.keep rfl, s2.keep rfl, s3.keep rfl, s4.keep rfl, s5.keep rfl, s6.keep rfl, s7.keep rfl, s8.keep rfl, s9.keep rfl, s10.keep rfl, Slot.new _ _ _, hO⟩
                    simp only [Act.put, List.setIfInBounds_toArray, List.set_cons_zero, List.set_cons_succ]
                  · intro l a wc hI hd
                    obtain ⟨u90, u91, u92, u93, u94, u95, u96, u97, u98, u99, u100, u101, ha, s0, s1, s2, s3, s4, s5, s6, s7, s8, s9, s10, s11, hO⟩ := hI
                    simp only [Act.put, List.setIfInBounds_toArray, List.set_cons_zero, List.set_cons_succ] at ha
                    have q0 := s0 (hd 0 (by decide))
                    have q1 := s1 (hd 1 (by decide))
                    have q2 := s2 (hd 2 (by decide))
                    have q3 := s3 (hd 3 (by decide))
                    have q4 := s4 (hd 4 (by decide))
                    have q5 := s5 (hd 5 (by decide))
                    have q6 := s6 (hd 6 (by decide))
                    have q7 := s7 (hd 7 (by decide))
                    have q8 := s8 (hd 8 (by decide))
                    have q9 := s9 (hd 9 (by decide))
                    have q10 := s10 (hd 10 (by decide))
                    have q11 := s11 (hd 11 (by decide))
                    subst ha q0 q1 q2 q3 q4 q5 q6 q7 q8 q9 q10 q11
                    clear hd s0 s1 s2 s3 s4 s5 s6 s7 s8 s9 s10 s11
                    have HO9 := Lib.hid (HO8.out.trans hO (fun _ _ c => c))
                    clear hO
                    go_wp2
                    go_roundw
                    case rel => exact ⟨k + 1, by omega, by simp, HO9.out⟩
                    case measure => simp [intOf] <;> omega
                · obtain rfl : k = nz := by omega
                  obtain ⟨zv, hzv⟩ : ∃ z, z = Value.slice az k capz := ⟨_, rfl⟩
                  have hz := HZ17.out.off hO
                  rw [← hzv] at hz
                  have hP := hO.heap GP7.out (fun c => c)
                  have hC := hO.heap GC7.out (fun c => c)
                  have hR := hO.heap GR7.out (fun c => c)
                  have FE2 := Lib.hid (show ∀ W, Off (fun _ => False) wr W → _ from fun W h => FRe.out W zv (hz.off h))
                  have hOf := HO7.out.trans hO (fun _ _ c => c)
                  have HTW := Lib.hid (fun W (h : Off (fun _ => False) wr W) => HTX.out W (hOf.trans h (fun _ _ c => c)))
                  have HK23 : Hid (∀ W', Off (fun _ => False) wr W' → (W'.cell? ⟨pb, 0, none⟩ = some (.int .u64 (wd p 0 : Int)) ∧ W'.cell? ⟨pb, 1, none⟩ = some (.int .u64 (wd p 1 : Int)) ∧ W'.cell? ⟨pb, 2, none⟩ = some (.int .u64 (wd p 2 : Int)) ∧ W'.cell? ⟨pb, 3, none⟩ = some (.int .u64 (wd p 3 : Int))) ∧ (W'.cell? ⟨cb, 0, none⟩ = some (.int .u64 (wd c 0 : Int)) ∧ W'.cell? ⟨cb, 1, none⟩ = some (.int .u64 (wd c 1 : Int)) ∧ W'.cell? ⟨cb, 2, none⟩ = some (.int .u64 (wd c 2 : Int)) ∧ W'.cell? ⟨cb, 3, none⟩ = some (.int .u64 (wd c 3 : Int))) ∧ (W'.cell? ⟨b13, 0, none⟩ = some (.int .u64 (wd rr 0 : Int)) ∧ W'.cell? ⟨b13, 1, none⟩ = some (.int .u64 (wd rr 1 : Int)) ∧ W'.cell? ⟨b13, 2, none⟩ = some (.int .u64 (wd rr 2 : Int)) ∧ W'.cell? ⟨b13, 3, none⟩ = some (.int .u64 (wd rr 3 : Int))) ∧ Off (fun _ => False) wr W') := Lib.hid (fun W' h => ⟨cells4 (h.heap hP (fun c => c)), cells4 (h.heap hC (fun c => c)), cells4 (h.heap hR (fun c => c)), h⟩)
                  have HOw := Lib.hid (HOx.out.trans hOf (fun _ _ c => c))
                  have HZv := Lib.hid hzv
                  clear hz hP hC hR hO hOf hzv GP7 GC7 GR7 HZ17 HO7
                  obtain ⟨wq, hwq⟩ : ∃ wq, wq = wr := ⟨_, rfl⟩
                  subst hwq
                  go_upto_region 23 with fail
                  rw [← HZv.out]
                  obtain ⟨x103, hx⟩ : ∃ x : Value, x = .bool true := ⟨_, rfl⟩
                  have X103 := Lib.hid hx
                  clear hx
                  obtain ⟨x104, hx⟩ : ∃ x : Value, x = .bool true := ⟨_, rfl⟩
                  have X104 := Lib.hid hx
                  clear hx
                  obtain ⟨x105, hx⟩ : ∃ x : Value, x = V rr := ⟨_, rfl⟩
                  have X105 := Lib.hid hx
                  clear hx
                  obtain ⟨x106, hx⟩ : ∃ x : Value, x = V p := ⟨_, rfl⟩
                  have X106 := Lib.hid hx
                  clear hx
                  obtain ⟨x107, hx⟩ : ∃ x : Value, x = V p := ⟨_, rfl⟩
                  have X107 := Lib.hid hx
                  clear hx
                  obtain ⟨x108, hx⟩ : ∃ x : Value, x = zv := ⟨_, rfl⟩
                  have X108 := Lib.hid hx
                  clear hx
                  obtain ⟨x109, hx⟩ : ∃ x : Value, x = V c := ⟨_, rfl⟩
                  have X109 := Lib.hid hx
                  clear hx
                  obtain ⟨x110, hx⟩ : ∃ x : Value, x = V rv := ⟨_, rfl⟩
                  have X110 := Lib.hid hx
                  clear hx
                  obtain ⟨x111, hx⟩ : ∃ x : Value, x = V rr := ⟨_, rfl⟩
                  have X111 := Lib.hid hx
                  clear hx
                  obtain ⟨x112, hx⟩ : ∃ x : Value, x = .bool true := ⟨_, rfl⟩
                  have X112 := Lib.hid hx
                  clear hx
                  obtain ⟨x113, hx⟩ : ∃ x : Value, x = .bool true := ⟨_, rfl⟩
                  have X113 := Lib.hid hx
                  clear hx
                  obtain ⟨x6, hx⟩ : ∃ x : Value, x = .bool true := ⟨_, rfl⟩
                  have X6 := Lib.hid hx
                  clear hx
                  refine wp_region_inv (fun a0 l a' w' => a' = (Act.put (fill a0 103 [sel (l 0) x103 undef, sel (l 1) x104 undef, sel (l 2) x105 undef, sel (l 3) x106 undef, sel (l 4) x107 undef, sel (l 5) x108 undef, sel (l 6) x109 undef, sel (l 7) x110 undef, sel (l 8) x111 undef, sel (l 9) x112 undef, sel (l 10) x113 undef]) (some 6) (sel (l 11) x6 (u6))) ∧ Off (fun _ => False) wq w') (by kernel_rfl) (by kernel_rfl) ?_ ⟨?_, ?_, ?_, ?_, ?_, ?_, ?_, ?_, ?_, ?_, ?_, ?_, trivial⟩ ?_
                  · refine ⟨?_, (Off.refl _ wq).drew⟩
                    simp only [fill_eq, List.take_succ_cons, List.take_zero, List.cons_append, List.nil_append, Act.put, List.setIfInBounds_toArray, List.set_cons_zero, List.set_cons_succ, sel_start]
                  · as_aux_lemma =>
                      rintro l a wr ⟨ha, hO⟩ hl hd K' hK
                      have hx := X103.out; subst hx
                      simp only [fill_eq, List.take_succ_cons, List.take_zero, List.cons_append, List.nil_append, Act.put, List.setIfInBounds_toArray, List.set_cons_zero, List.set_cons_succ] at ha
                      subst ha
                      rw [if_pos (by rfl)]
                      go_simp
                      refine (held_inv (FAL.out wr (HTW.out wr hO)) hO).mono ?_
                      rintro e w1 ⟨rfl, hO1, hOW⟩
                      go_wp2_with fail
                      refine hK.out _ _ ⟨?_, hO1⟩
                      simp only [fill_eq, List.take_succ_cons, List.take_zero, List.cons_append, List.nil_append, Act.put, List.setIfInBounds_toArray, List.set_cons_zero, List.set_cons_succ, sel_new]
                      rfl
                  · as_aux_lemma =>
                      rintro l a wr ⟨ha, hO⟩ hl hd K' hK
                      have d0 := hd 0 (by decide)
                      have hx := X103.out; subst hx
                      have hx := X104.out; subst hx
                      simp only [fill_eq, List.take_succ_cons, List.take_zero, List.cons_append, List.nil_append, Act.put, List.setIfInBounds_toArray, List.set_cons_zero, List.set_cons_succ, sel_of d0] at ha
                      subst ha
                      rw [if_pos (by rfl)]
                      go_simp
                      refine hK.out _ _ ⟨?_, hO⟩
                      simp only [fill_eq, List.take_succ_cons, List.take_zero, List.cons_append, List.nil_append, Act.put, List.setIfInBounds_toArray, List.set_cons_zero, List.set_cons_succ, sel_new, sel_dep d0]
                      rfl
                  · as_aux_lemma =>
                      rintro l a wr ⟨ha, hO⟩ hl hd K' hK
                      have d1 := hd 1 (by decide)
                      have hx := X104.out; subst hx
                      have hx := X105.out; subst hx
                      simp only [fill_eq, List.take_succ_cons, List.take_zero, List.cons_append, List.nil_append, Act.put, List.setIfInBounds_toArray, List.set_cons_zero, List.set_cons_succ, sel_of d1] at ha
                      subst ha
                      have hc := HK23.out wr hO
                      have p0 := hc.2.2.1.1
                      have p1 := hc.2.2.1.2.1
                      have p2 := hc.2.2.1.2.2.1
                      have p3 := hc.2.2.1.2.2.2
                      clear hc
                      rw [if_pos (by rfl)]
                      go_simp
                      refine hK.out _ _ ⟨?_, hO⟩
                      simp only [fill_eq, List.take_succ_cons, List.take_zero, List.cons_append, List.nil_append, Act.put, List.setIfInBounds_toArray, List.set_cons_zero, List.set_cons_succ, sel_new, sel_dep d1]
                      rfl
                  · as_aux_lemma =>
                      rintro l a wr ⟨ha, hO⟩ hl hd K' hK
                      have d1 := hd 1 (by decide)
                      have hx := X104.out; subst hx
                      have hx := X106.out; subst hx
                      simp only [fill_eq, List.take_succ_cons, List.take_zero, List.cons_append, List.nil_append, Act.put, List.setIfInBounds_toArray, List.set_cons_zero, List.set_cons_succ, sel_of d1] at ha
                      subst ha
                      have hc := HK23.out wr hO
                      have p0 := hc.1.1
                      have p1 := hc.1.2.1
                      have p2 := hc.1.2.2.1
                      have p3 := hc.1.2.2.2
                      clear hc
                      rw [if_pos (by rfl)]
                      go_simp
                      refine hK.out _ _ ⟨?_, hO⟩
                      simp only [fill_eq, List.take_succ_cons, List.take_zero, List.cons_append, List.nil_append, Act.put, List.setIfInBounds_toArray, List.set_cons_zero, List.set_cons_succ, sel_new, sel_dep d1]
                      rfl
                  · as_aux_lemma =>
                      rintro l a wr ⟨ha, hO⟩ hl hd K' hK
                      have d1 := hd 1 (by decide)
                      have hx := X104.out; subst hx
                      have hx := X107.out; subst hx
                      simp only [fill_eq, List.take_succ_cons, List.take_zero, List.cons_append, List.nil_append, Act.put, List.setIfInBounds_toArray, List.set_cons_zero, List.set_cons_succ, sel_of d1] at ha
                      subst ha
                      have hc := HK23.out wr hO
                      have p0 := hc.1.1
                      have p1 := hc.1.2.1
                      have p2 := hc.1.2.2.1
                      have p3 := hc.1.2.2.2
                      clear hc
                      rw [if_pos (by rfl)]
                      go_simp
                      refine hK.out _ _ ⟨?_, hO⟩
                      simp only [fill_eq, List.take_succ_cons, List.take_zero, List.cons_append, List.nil_append, Act.put, List.setIfInBounds_toArray, List.set_cons_zero, List.set_cons_succ, sel_new, sel_dep d1]
                      rfl
                  · as_aux_lemma =>
                      rintro l a wr ⟨ha, hO⟩ hl hd K' hK
                      have d1 := hd 1 (by decide)
                      have hx := X104.out; subst hx
                      have hx := X108.out; subst hx
                      simp only [fill_eq, List.take_succ_cons, List.take_zero, List.cons_append, List.nil_append, Act.put, List.setIfInBounds_toArray, List.set_cons_zero, List.set_cons_succ, sel_of d1] at ha
                      subst ha
                      rw [if_pos (by rfl)]
                      go_simp
                      refine hK.out _ _ ⟨?_, hO⟩
                      simp only [fill_eq, List.take_succ_cons, List.take_zero, List.cons_append, List.nil_append, Act.put, List.setIfInBounds_toArray, List.set_cons_zero, List.set_cons_succ, sel_new, sel_dep d1]
                      rfl
                  · as_aux_lemma =>
                      rintro l a wr ⟨ha, hO⟩ hl hd K' hK
                      have d1 := hd 1 (by decide)
                      have hx := X104.out; subst hx
                      have hx := X109.out; subst hx
                      simp only [fill_eq, List.take_succ_cons, List.take_zero, List.cons_append, List.nil_append, Act.put, List.setIfInBounds_toArray, List.set_cons_zero, List.set_cons_succ, sel_of d1] at ha
                      subst ha
                      have hc := HK23.out wr hO
                      have p0 := hc.2.1.1
                      have p1 := hc.2.1.2.1
                      have p2 := hc.2.1.2.2.1
                      have p3 := hc.2.1.2.2.2
                      clear hc
                      rw [if_pos (by rfl)]
                      go_simp
                      refine hK.out _ _ ⟨?_, hO⟩
                      simp only [fill_eq, List.take_succ_cons, List.take_zero, List.cons_append, List.nil_append, Act.put, List.setIfInBounds_toArray, List.set_cons_zero, List.set_cons_succ, sel_new, sel_dep d1]
                      rfl
                  · as_aux_lemma =>
                      rintro l a wr ⟨ha, hO⟩ hl hd K' hK
                      have d1 := hd 1 (by decide)
                      have d4 := hd 4 (by decide)
                      have d5 := hd 5 (by decide)
                      have d6 := hd 6 (by decide)
                      have hx := X104.out; subst hx
                      have hx := X107.out; subst hx
                      have hx := X108.out; subst hx
                      have hx := X109.out; subst hx
                      have hx := X110.out; subst hx
                      simp only [fill_eq, List.take_succ_cons, List.take_zero, List.cons_append, List.nil_append, Act.put, List.setIfInBounds_toArray, List.set_cons_zero, List.set_cons_succ, sel_of d1, sel_of d4, sel_of d5, sel_of d6] at ha
                      subst ha
                      rw [if_pos (by rfl)]
                      go_simp
                      refine (held_inv (FE2.out wr hO) hO).mono ?_
                      rintro e w1 ⟨rfl, hO1, hOW⟩
                      go_wp2_with fail
                      refine hK.out _ _ ⟨?_, hO1⟩
                      simp only [fill_eq, List.take_succ_cons, List.take_zero, List.cons_append, List.nil_append, Act.put, List.setIfInBounds_toArray, List.set_cons_zero, List.set_cons_succ, sel_new, sel_dep d1, sel_dep d4, sel_dep d5, sel_dep d6]
                      rfl
                  · as_aux_lemma =>
                      rintro l a wr ⟨ha, hO⟩ hl hd K' hK
                      have d1 := hd 1 (by decide)
                      have d3 := hd 3 (by decide)
                      have d7 := hd 7 (by decide)
                      have hx := X104.out; subst hx
                      have hx := X106.out; subst hx
                      have hx := X110.out; subst hx
                      have hx := X111.out; subst hx
                      simp only [fill_eq, List.take_succ_cons, List.take_zero, List.cons_append, List.nil_append, Act.put, List.setIfInBounds_toArray, List.set_cons_zero, List.set_cons_succ, sel_of d1, sel_of d3, sel_of d7] at ha
                      subst ha
                      rw [if_pos (by rfl)]
                      go_simp
                      refine (held_inv (FFe.out wr) hO).mono ?_
                      rintro e w1 ⟨rfl, hO1, hOW⟩
                      go_wp2_with fail
                      refine hK.out _ _ ⟨?_, hO1⟩
                      simp only [fill_eq, List.take_succ_cons, List.take_zero, List.cons_append, List.nil_append, Act.put, List.setIfInBounds_toArray, List.set_cons_zero, List.set_cons_succ, sel_new, sel_dep d1, sel_dep d3, sel_dep d7]
                      rfl
                  · as_aux_lemma =>
                      rintro l a wr ⟨ha, hO⟩ hl hd K' hK
                      have d1 := hd 1 (by decide)
                      have d2 := hd 2 (by decide)
                      have d8 := hd 8 (by decide)
                      have hx := X104.out; subst hx
                      have hx := X105.out; subst hx
                      have hx := X111.out; subst hx
                      have hx := X112.out; subst hx
                      simp only [fill_eq, List.take_succ_cons, List.take_zero, List.cons_append, List.nil_append, Act.put, List.setIfInBounds_toArray, List.set_cons_zero, List.set_cons_succ, sel_of d1, sel_of d2, sel_of d8] at ha
                      subst ha
                      rw [if_pos (by rfl)]
                      go_simp
                      refine hK.out _ _ ⟨?_, hO⟩
                      simp only [fill_eq, List.take_succ_cons, List.take_zero, List.cons_append, List.nil_append, Act.put, List.setIfInBounds_toArray, List.set_cons_zero, List.set_cons_succ, sel_new, sel_dep d1, sel_dep d2, sel_dep d8]
                      rfl
                  · as_aux_lemma =>
                      rintro l a wr ⟨ha, hO⟩ hl hd K' hK
                      have d1 := hd 1 (by decide)
                      have d9 := hd 9 (by decide)
                      have hx := X104.out; subst hx
                      have hx := X112.out; subst hx
                      have hx := X113.out; subst hx
                      simp only [fill_eq, List.take_succ_cons, List.take_zero, List.cons_append, List.nil_append, Act.put, List.setIfInBounds_toArray, List.set_cons_zero, List.set_cons_succ, sel_of d1, sel_of d9] at ha
                      subst ha
                      rw [if_pos (by rfl)]
                      go_simp
                      refine hK.out _ _ ⟨?_, hO⟩
                      simp only [fill_eq, List.take_succ_cons, List.take_zero, List.cons_append, List.nil_append, Act.put, List.setIfInBounds_toArray, List.set_cons_zero, List.set_cons_succ, sel_new, sel_dep d1, sel_dep d9]
                      rfl
                  · as_aux_lemma =>
                      rintro l a wr ⟨ha, hO⟩ hl hd K' hK
                      have d10 := hd 10 (by decide)
                      have hx := X113.out; subst hx
                      have hx := X6.out; subst hx
                      simp only [fill_eq, List.take_succ_cons, List.take_zero, List.cons_append, List.nil_append, Act.put, List.setIfInBounds_toArray, List.set_cons_zero, List.set_cons_succ, sel_of d10] at ha
                      subst ha
                      rw [if_pos (by rfl)]
                      go_simp
                      refine hK.out _ _ ⟨?_, hO⟩
                      simp only [fill_eq, List.take_succ_cons, List.take_zero, List.cons_append, List.nil_append, Act.put, List.setIfInBounds_toArray, List.set_cons_zero, List.set_cons_succ, sel_new, sel_dep d10]
                      rfl
                  · rintro l a wc ⟨ha, hO⟩ hd
                    simp only [fill_eq, List.take_succ_cons, List.take_zero, List.cons_append, List.nil_append, Act.put, List.setIfInBounds_toArray, List.set_cons_zero, List.set_cons_succ, sel_of (hd 0 (by decide)), sel_of (hd 1 (by decide)), sel_of (hd 2 (by decide)), sel_of (hd 3 (by decide)), sel_of (hd 4 (by decide)), sel_of (hd 5 (by decide)), sel_of (hd 6 (by decide)), sel_of (hd 7 (by decide)), sel_of (hd 8 (by decide)), sel_of (hd 9 (by decide)), sel_of (hd 10 (by decide)), sel_of (hd 11 (by decide))] at ha
                    subst ha
                    have hx := X6.out; subst hx
                    have HOf := Lib.hid (HOw.out.trans hO (fun _ _ c => c))
                    clear hO hd
                    go_wp2
                    go_ret
                    exact ⟨rfl, HOf.out⟩

theorem door_met (os : Os) (args : Array Value) : laidMetH Tryd.prog [("sharecore/field.fields", Rows.laid_sharecore_field_fields)] ((World.doorLaid Tryd.prog 400 os).forCall (fun _ _ => 0) ⟨#[], args, []⟩).memory :=
  laidMetH_of_parts3 (fuel := 8) (laidMet_of_run' 8 (by kernel_rfl) (by kernel_rfl)) (by kernel_rfl) (by kernel_rfl)

set_option maxRecDepth 100000 in
theorem lifted (os : Os) (started : os.Started) (H : Type) (enc : TypeId × Value → H) :
    ReturnsInHanded {} Tryd.checked os 6 .any (fun w args => (Rows.polyDividesSpec.pre enc Tryd.prog Tryd.f6 [] false w args ∧ laidMetH Tryd.prog [("sharecore/field.fields", Rows.laid_sharecore_field_fields)] w) ∧ sizedMet enc Tryd.prog Tryd.f6 (OpenSpec.ofChange Rows.polyDividesSpec) false w args)
      (Rows.polyDividesSpec.post enc Tryd.prog Tryd.f6 false true false false) := by
  refine returnsInHanded_of_change_and (C := Tryd.checked) (X := fun w _ => laidMetH Tryd.prog [("sharecore/field.fields", Rows.laid_sharecore_field_fields)] w) (fun _ _ _ hh h => h.of_heap hh) own started (by kernel_rfl) Tryd.func6
    (ChangeSpec.witness_shaped (enc := enc) (C := Tryd.checked) (os := os) (X := fun w _ => laidMetH Tryd.prog [("sharecore/field.fields", Rows.laid_sharecore_field_fields)] w) false (World.doorLaid Tryd.prog 400 os) #[.bool false, .slice none 0 0, .agg #[.int .u64 0, .int .u64 0, .int .u64 0, .int .u64 0]] 8 rfl (World.shaped_of_RefB (by kernel_rfl) (by kernel_rfl)) (by kernel_rfl) (by kernel_rfl) (by kernel_rfl) (door_met os _)) ?_
  intro W base args ds gs before hval0 hW _ _ hL _
  have hval : ∀ (j : Nat) t v, Tryd.f6.params[j]? = some t → args[j]? = some v → Value.okWide Tryd.prog W .any base t v := hval0
  have hW' := hW
  obtain ⟨p, q, hA0, hV, rfl, hfz, hnd⟩ := hW
  have hA : DataW.TrodAll enc Tryd.prog W 0 (fun _ => true) true Tryd.f6.params.toList args.toList ds p := hA0
  rw [Tryd.params6] at hA hval
  obtain ⟨v0, vs0, d0, ds0, p0, q0, hargs, rfl, rfl, h0, r0⟩ := trodAll_cons hA
  obtain ⟨v1, vs1, d1, ds1, p1, q1, rfl, rfl, rfl, h1, r1⟩ := trodAll_cons r0
  obtain ⟨v2, vs2, d2, ds2, p2, q2, rfl, rfl, rfl, h2, r2⟩ := trodAll_cons r1
  obtain ⟨rfl, rfl, rfl⟩ := trodAll_nil r2
  obtain rfl : args = #[v0, v1, v2] := by cases args; simp_all
  obtain ⟨rfl, rfl⟩ := trodVars_none hV
  obtain ⟨i0, rfl, rfl, rfl⟩ := open_bool Tryd.underlying4 (hval 0 4 v0 rfl rfl) h0
  have w0 := trivial
  obtain ⟨a1, n1, cap1, rfl⟩ := okWide_slice Tryd.underlying22 (hval 1 22 v1 rfl rfl)
  have k1 := h1
  have lt1 : ∀ x ∈ p1, x.block < W.heap.size := by obtain ⟨m, hm⟩ := k1; exact DataW.trod_lt m _ _ _ hm
  obtain ⟨xs1, hn1, w1⟩ : ∃ xs, n1 = xs.length ∧ VsAt W (.slice a1 n1 cap1) xs (fun k => k < W.heap.size) := by
    obtain ⟨fuel, hf⟩ := h1
    exact vecs_of_trod hf
  have k2 := h2
  have lt2 : ∀ x ∈ p2, x.block < W.heap.size := by obtain ⟨m, hm⟩ := k2; exact DataW.trod_lt m _ _ _ hm
  obtain ⟨n2, w2, rfl⟩ := open_vec (hval 2 24 v2 rfl rfl) h2
  have hT := tab_of_laid hL
  clear hA0 hval0
  refine (walk i0 a1 n1 cap1 xs1 n2 W w0 hn1 w1 w2 hT).mono fun e W' ⟨he, hoff⟩ => ?_
  have bel : Below W.heap.size W W' := hoff.below (Nat.le_refl _) (fun _ _ c => c)
  subst he
  exact ⟨_, rfl, _, _, _, [], _, [], hW', trodAll_mk1 (shut_bool Tryd.underlying4 _), (trodAll_cons_mk (shut_bool Tryd.underlying4 _) (trodAll_cons_mk (Below.trod laidOut (by kernel_rfl) (of_decide_eq_true (by kernel_rfl)) k1 bel lt1) (trodAll_cons_mk (Below.trod laidOut (by kernel_rfl) (of_decide_eq_true (by kernel_rfl)) k2 bel lt2) trodAll_mk0))), rfl, bel.frame _, fun h => by cases h⟩

theorem over : Rows.polyDividesRow.holds Tryd.pinned (OpenSpec.ofChange Rows.polyDividesSpec) :=
  OpenClaim.holds_of_wide 6 Tryd.f6 rfl rfl rfl rfl rfl rfl rfl ⟨rfl, rfl, rfl, rfl, rfl⟩ rfl rfl rfl rfl rfl (by kernel_rfl) Tryd.func6 (by kernel_rfl)
    (of_decide_eq_true (by kernel_rfl)) (by unfold Func.isWrapper; first | (rw [if_pos (by decide +kernel)]; kernel_rfl) | (rw [if_neg (by decide +kernel)]; exact ⟨rfl, rfl⟩))
    (fun os started H enc _ => lifted os started H enc)

theorem proved : Rows.PolyDividesCardSaid :=
  Claim7.holds_tied_plain_at .later [] [.data] true (true, "3d840ffc59f1f7eb92e6625ecf38349f13a4c620ea70c2d1380fae53a4373fdd") false
    over (fun _ h => by cases h) (by kernel_rfl) (fun _ h => by cases h) polyDivides_row_tie rfl ⟨rfl, rfl⟩ (by kernel_rfl) rfl
    (fun f fn hf hfn => by
      obtain rfl : f = 6 := Option.some.inj ((show Tryd.prog.funcNamed "sharecore/sharecorelaw08.PolyDivides" = some 6 by kernel_rfl).symm.trans hf) |>.symm
      obtain rfl : fn = Tryd.f6 := (Option.some.inj (Tryd.func6.symm.trans hfn)).symm
      exact ⟨by kernel_rfl, fun j t ht => by
        rw [Tryd.params6] at ht
        have hm : t ∈ [4, 22, 24] := by simpa using Array.mem_of_getElem? ht
        have hall : ([4, 22, 24].all fun u => !Tryd.prog.wantsStandIn u) = true := by kernel_rfl
        exact (show Tryd.prog.wantsStandIn t = false by simpa using List.all_eq_true.1 hall t hm)⟩)
    (by kernel_rfl)
#print axioms proved
end Go.Proofs.YtiemajbcmmbjbaaDoor.polyDivides
