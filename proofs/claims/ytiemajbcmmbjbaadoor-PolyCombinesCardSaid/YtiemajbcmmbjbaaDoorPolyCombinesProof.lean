/-
  For every field and two polynomials, the examples of the chapter hold, and Add and Mul return the same polynomials as the reference: the statement of P8.2. No condition.
-/
import Derived.Test.YtiemajbcmmbjbaaDoorRows
import Derived.Test.YtiemajbcmmbjbaaDoorTie
import Derived.Test.YtiemajbcmmbjbaaDoorCards
import Derived.LaidMore
import Derived.LaidHandle
import Derived.SevenTiedAt
import Derived.Stop.Joined
import Derived.JoinedOf
import Derived.Test.YtiemajbcmmbjbaaDoorLimbWords
import Derived.Test.YtiemajbcmmbjbaaDoorVecOpen
import Derived.Test.YtiemajbcmmbjbaaDoorFieldTab
import Derived.Test.YtiemajbcmmbjbaaDoorFieldHeld
import Derived.Test.YtiemajbcmmbjbaaDoorPolAlive
import Derived.Test.YtiemajbcmmbjbaaDoorPolRefM
import Derived.WalkKit
import Derived.ProofKit
import Derived.OpenShut
import Derived.ShutString
import Derived.ChangeOld
import Derived.Below
namespace Go.Proofs.YtiemajbcmmbjbaaDoor.polyCombines
open Go.ChangeShapes Go.WideShapes Go.ChangeAt Go.RowKit
set_option linter.unusedVariables false

theorem own : ownKnob Tryd.prog.godebug = none := by kernel_rfl
theorem laidOut : laidOutB Tryd.prog = true := by kernel_rfl

theorem mods_lt {p : Nat} (h : 0 < p) (xs : List Nat) : ∀ v ∈ xs.map (· % p), v < p := by
  intro v hv
  obtain ⟨x, _, rfl⟩ := List.mem_map.1 hv
  exact Nat.mod_lt _ h
set_option maxRecDepth 100000 in
set_option maxHeartbeats 4000000 in
theorem walk (i0 : Bool) (a1 : Option Addr) (n1 cap1 : Nat) (xs1 : List Nat) (a2 : Option Addr) (n2 cap2 : Nat) (xs2 : List Nat) (w : World) (w0 : True) (hn1 : n1 = xs1.length) (w1 : VsAt w (.slice a1 n1 cap1) xs1 (fun k => k < w.heap.size)) (hn2 : n2 = xs2.length) (w2 : VsAt w (.slice a2 n2 cap2) xs2 (fun k => k < w.heap.size)) (hT : TabAt w) :
    Calls Tryd.prog 4 #[.bool i0, .slice a1 n1 cap1, .slice a2 n2 cap2] w fun e w' => e = .returned (.bool true) ∧ Off (fun _ => False) w w' := by
  obtain ⟨id, p, i, r, s, hF, hid⟩ := fld_of i0
  have hp := hF.mp.lt
  have h1 := hF.mp.one
  have hp0 : 0 < p := by omega
  have FG := Lib.hid (fun W hT => get8_any i0 hF hid W hT)
  have FAL : Hid (∀ W, TabAt W → Calls Tryd.prog 9 #[] W fun e w' => e = .returned (.bool true) ∧ Off (fun _ => False) W w') := Lib.hid (fun W hT => alive8_any W hT)
  obtain ⟨hnl1, hnm1, hxs1⟩ := w1.len
  obtain ⟨hnl2, hnm2, hxs2⟩ := w2.len
  by_cases hbig : 12 < n1
  · have hbi : decide ((12 : Int) < (n1 : Int)) = true := by simp; omega
    have hbp : (12 : Int) < (n1 : Int) := by omega
    clear hn1 hnl1 hnm1 hxs1 hn2 hnl2 hnm2 hxs2 hF hid hp h1 hp0 FG hbig
    go_enter Tryd.func4, Tryd.ntmps4
    go_wp2_with fail
    refine (FAL.out _ (hT.off (Off.refl _ w))).mono ?_
    rintro e u0 ⟨rfl, hO⟩
    have HO := Lib.hid ((Off.refl _ w : Off (fun _ => False) w _).trans hO (fun _ _ c => c))
    clear hO
    go_wp2
    go_ret
    exact ⟨rfl, HO.out⟩
  · have hbi : decide ((12 : Int) < (n1 : Int)) = false := by simp; omega
    have hbp : ¬ (12 : Int) < (n1 : Int) := by omega
    by_cases hbig2 : 12 < n2
    · have hbi2 : decide ((12 : Int) < (n2 : Int)) = true := by simp; omega
      have hbp2 : (12 : Int) < (n2 : Int) := by omega
      clear hn1 hnl1 hnm1 hxs1 hn2 hnl2 hnm2 hxs2 hF hid hp h1 hp0 FG hbig hbig2
      go_enter Tryd.func4, Tryd.ntmps4
      go_wp2_with fail
      refine (FAL.out _ (hT.off (Off.refl _ w))).mono ?_
      rintro e u0 ⟨rfl, hO⟩
      have HO := Lib.hid ((Off.refl _ w : Off (fun _ => False) w _).trans hO (fun _ _ c => c))
      clear hO
      go_wp2
      go_ret
      exact ⟨rfl, HO.out⟩
    · have hbi2 : decide ((12 : Int) < (n2 : Int)) = false := by simp; omega
      have hbp2 : ¬ (12 : Int) < (n2 : Int) := by omega
      obtain ⟨vs, hvs⟩ : ∃ l, l = xs1.map (· % p) := ⟨_, rfl⟩
      have hvsl : vs.length = n1 := by rw [hvs, List.length_map]; exact hnl1.symm
      have hvsp : ∀ v ∈ vs, v < p := by rw [hvs]; exact mods_lt hp0 xs1
      have FV1 := Lib.hid (show ∀ W v, Ls W v xs1 → Calls Tryd.prog 11 #[V p, v] W fun e w' => ∃ z1 z2, e = .returned (.tuple #[z1, z2]) ∧ Ls w' z1 vs ∧ Ls w' z2 (vs.map (fm p)) ∧ Off (fun _ => False) W w' from fun W v h => by rw [hvs]; exact values_any hp h1 xs1 hxs1 (by omega) v W h)
      have HL1 := Lib.hid (ls_of_vs w1 (by omega))
      obtain ⟨us, hus⟩ : ∃ l, l = xs2.map (· % p) := ⟨_, rfl⟩
      have husl : us.length = n2 := by rw [hus, List.length_map]; exact hnl2.symm
      have husp : ∀ v ∈ us, v < p := by rw [hus]; exact mods_lt hp0 xs2
      have FV2 := Lib.hid (show ∀ W v, Ls W v xs2 → Calls Tryd.prog 11 #[V p, v] W fun e w' => ∃ z1 z2, e = .returned (.tuple #[z1, z2]) ∧ Ls w' z1 us ∧ Ls w' z2 (us.map (fm p)) ∧ Off (fun _ => False) W w' from fun W v h => by rw [hus]; exact values_any hp h1 xs2 hxs2 (by omega) v W h)
      have HL2 := Lib.hid (ls_of_vs w2 (by omega))
      obtain ⟨sl, hsl⟩ : ∃ l, l = sumL p vs us := ⟨_, rfl⟩
      obtain ⟨ml, hml⟩ : ∃ l, l = mulL p vs us := ⟨_, rfl⟩
      have FAd := Lib.hid (show ∀ W v u, Ls W v (vs.map (fm p)) → Ls W u (us.map (fm p)) → Calls Tryd.prog 17 #[.pointer none, FV id p i r s, v, u] W fun e w' => ∃ z, e = .returned z ∧ Ls w' z (sl.map (fm p)) ∧ Off (fun _ => False) W w' from fun W v u h k => by rw [hsl]; exact add_ls hF vs us (by omega) (by omega) v u W h k)
      have FMu := Lib.hid (show ∀ W v u, Ls W v (vs.map (fm p)) → Ls W u (us.map (fm p)) → Calls Tryd.prog 19 #[.pointer none, FV id p i r s, v, u] W fun e w' => ∃ z, e = .returned z ∧ Ls w' z (ml.map (fm p)) ∧ Off (fun _ => False) W w' from fun W v u h k => by rw [hml]; exact mul_ls hF vs us (by omega) (by omega) v u W h k)
      have FRa := Lib.hid (show ∀ W v u, Ls W v vs → Ls W u us → Calls Tryd.prog 18 #[V p, v, u] W fun e w' => ∃ z, e = .returned z ∧ Ls w' z sl ∧ Off (fun _ => False) W w' from fun W v u h k => by rw [hsl]; exact refadd_any' hp h1 vs us hvsp husp (by omega) (by omega) v u W h k)
      have FRm := Lib.hid (show ∀ W v u, Ls W v vs → Ls W u us → Calls Tryd.prog 20 #[V p, v, u] W fun e w' => ∃ z, e = .returned z ∧ Ls w' z ml ∧ Off (fun _ => False) W w' from fun W v u h k => by rw [hml]; exact refmul_any hp h1 vs us hvsp husp (by omega) (by omega) v u W h k)
      have FSs := Lib.hid (show ∀ W u v, Ls W u (sl.map (fm p)) → Ls W v sl → Calls Tryd.prog 16 #[V p, u, v] W fun e w' => e = .returned (.bool true) ∧ Off (fun _ => False) W w' from fun W u v h k => same8_any hp h1 sl (by rw [hsl]; exact fun x hx => Nat.lt_trans (sumL_lt hp0 _ _ x hx) hp) u v W h k)
      have FSm := Lib.hid (show ∀ W u v, Ls W u (ml.map (fm p)) → Ls W v ml → Calls Tryd.prog 16 #[V p, u, v] W fun e w' => e = .returned (.bool true) ∧ Off (fun _ => False) W w' from fun W u v h k => same8_any hp h1 ml (by rw [hml]; exact fun x hx => Nat.lt_trans (mulL_lt hp0 _ _ x hx) hp) u v W h k)
      clear hsl hml
      have HTw := Lib.hid hT
      clear hvs hus hF hid hxs1 hnm1 hn1 hnl1 hvsl hvsp hxs2 hnm2 hn2 hnl2 husl husp hbig hbig2
      go_enter Tryd.func4, Tryd.ntmps4
      go_wp2_with fail
      refine (FG.out _ (hT.off (Off.refl _ w))).mono ?_
      rintro e u0 ⟨rfl, hO1⟩
      have hO0 : Off (fun _ => False) w u0 := (Off.refl _ w : Off (fun _ => False) w _).trans hO1 (fun _ _ c => c)
      obtain ⟨W1, hW1⟩ : ∃ W1, W1 = (u0.alloc (.cells #[.int .i64 id, .int .u64 (wd p 0 : Int), .int .u64 (wd p 1 : Int), .int .u64 (wd p 2 : Int), .int .u64 (wd p 3 : Int), .int .u64 (i : Int), .int .u64 (wd r 0 : Int), .int .u64 (wd r 1 : Int), .int .u64 (wd r 2 : Int), .int .u64 (wd r 3 : Int), .int .u64 (wd s 0 : Int), .int .u64 (wd s 1 : Int), .int .u64 (wd s 2 : Int), .int .u64 (wd s 3 : Int)] 28)).alloc (.cells #[.int .u64 (wd p 0 : Int), .int .u64 (wd p 1 : Int), .int .u64 (wd p 2 : Int), .int .u64 (wd p 3 : Int)] 24) := ⟨_, rfl⟩
      have o1 : Off (fun _ => False) u0 W1 := by rw [hW1]; exact ((Off.refl _ u0).alloc _).alloc _
      have g_F : W1.heap[u0.heap.size]? = some (.cells #[.int .i64 id, .int .u64 (wd p 0 : Int), .int .u64 (wd p 1 : Int), .int .u64 (wd p 2 : Int), .int .u64 (wd p 3 : Int), .int .u64 (i : Int), .int .u64 (wd r 0 : Int), .int .u64 (wd r 1 : Int), .int .u64 (wd r 2 : Int), .int .u64 (wd r 3 : Int), .int .u64 (wd s 0 : Int), .int .u64 (wd s 1 : Int), .int .u64 (wd s 2 : Int), .int .u64 (wd s 3 : Int)] 28 (0, 0)) := by rw [hW1]; exact heap_old' (heap_new' rfl _) _
      have g_P : W1.heap[u0.heap.size + 1]? = some (.cells #[.int .u64 (wd p 0 : Int), .int .u64 (wd p 1 : Int), .int .u64 (wd p 2 : Int), .int .u64 (wd p 3 : Int)] 24 (0, 0)) := by rw [hW1]; exact heap_new' (by simp) _
      obtain ⟨fb, hfb⟩ : ∃ fb, fb = u0.heap.size := ⟨_, rfl⟩
      obtain ⟨pb, hpb⟩ : ∃ pb, pb = u0.heap.size + 1 := ⟨_, rfl⟩
      rw [← hfb] at g_F
      rw [← hpb] at g_P
      have hOw := hO0.trans o1 (fun _ _ c => c)
      clear hO1 hO0 o1
      rw [hW1] at hOw g_F g_P
      go_wp2_with fail
      rw [← hW1] at hOw g_F g_P ⊢
      rw [← hpb, ← hfb]
      refine (FV1.out _ _ (HL1.out.off hOw)).mono ?_
      rintro e u1 ⟨z1, z2, rfl, h_z1, h_z2, hO1⟩
      have g_F := hO1.heap g_F (fun c => c)
      have g_P := hO1.heap g_P (fun c => c)
      have hOw := hOw.trans hO1 (fun _ _ c => c)
      clear hW1 hfb hpb
      obtain ⟨p0, p1, p2, p3⟩ := cells4 g_P
      have GF := Lib.hid g_F
      have GP := Lib.hid g_P
      have H_z1 := Lib.hid h_z1
      have H_z2 := Lib.hid h_z2
      have HOw := Lib.hid hOw
      clear g_F g_P h_z1 h_z2 hOw hO1
      go_wp2_with fail
      clear p0 p1 p2 p3
      refine (FV2.out _ _ (HL2.out.off HOw.out)).mono ?_
      rintro e u2 ⟨z3, z4, rfl, h_z3, h_z4, hO2⟩
      have g_F := hO2.heap GF.out (fun c => c)
      have g_P := hO2.heap GP.out (fun c => c)
      have h_z1 := H_z1.out.off hO2
      have h_z2 := H_z2.out.off hO2
      have hOw := HOw.out.trans hO2 (fun _ _ c => c)
      have HOw := Lib.hid hOw
      have HTW := Lib.hid (fun W (h : Off (fun _ => False) u2 W) => HTw.out.off (hOw.trans h (fun _ _ c => c)))
      clear hO2 hOw GF GP H_z1 H_z2
      have FA2 := Lib.hid (show ∀ W, Off (fun _ => False) u2 W → _ from fun W h => FAd.out W z2 z4 (h_z2.off h) (h_z4.off h))
      have FM2 := Lib.hid (show ∀ W, Off (fun _ => False) u2 W → _ from fun W h => FMu.out W z2 z4 (h_z2.off h) (h_z4.off h))
      have FR2 := Lib.hid (show ∀ W, Off (fun _ => False) u2 W → _ from fun W h => FRa.out W z1 z3 (h_z1.off h) (h_z3.off h))
      have FN2 := Lib.hid (show ∀ W, Off (fun _ => False) u2 W → _ from fun W h => FRm.out W z1 z3 (h_z1.off h) (h_z3.off h))
      have HK : Hid (∀ W', Off (fun _ => False) u2 W' → (W'.cell? ⟨fb, 0, none⟩ = some (.int .i64 id) ∧ W'.cell? ⟨fb, 1, none⟩ = some (.int .u64 (wd p 0 : Int)) ∧ W'.cell? ⟨fb, 2, none⟩ = some (.int .u64 (wd p 1 : Int)) ∧ W'.cell? ⟨fb, 3, none⟩ = some (.int .u64 (wd p 2 : Int)) ∧ W'.cell? ⟨fb, 4, none⟩ = some (.int .u64 (wd p 3 : Int)) ∧ W'.cell? ⟨fb, 5, none⟩ = some (.int .u64 (i : Int)) ∧ W'.cell? ⟨fb, 6, none⟩ = some (.int .u64 (wd r 0 : Int)) ∧ W'.cell? ⟨fb, 7, none⟩ = some (.int .u64 (wd r 1 : Int)) ∧ W'.cell? ⟨fb, 8, none⟩ = some (.int .u64 (wd r 2 : Int)) ∧ W'.cell? ⟨fb, 9, none⟩ = some (.int .u64 (wd r 3 : Int)) ∧ W'.cell? ⟨fb, 10, none⟩ = some (.int .u64 (wd s 0 : Int)) ∧ W'.cell? ⟨fb, 11, none⟩ = some (.int .u64 (wd s 1 : Int)) ∧ W'.cell? ⟨fb, 12, none⟩ = some (.int .u64 (wd s 2 : Int)) ∧ W'.cell? ⟨fb, 13, none⟩ = some (.int .u64 (wd s 3 : Int))) ∧ (W'.cell? ⟨pb, 0, none⟩ = some (.int .u64 (wd p 0 : Int)) ∧ W'.cell? ⟨pb, 1, none⟩ = some (.int .u64 (wd p 1 : Int)) ∧ W'.cell? ⟨pb, 2, none⟩ = some (.int .u64 (wd p 2 : Int)) ∧ W'.cell? ⟨pb, 3, none⟩ = some (.int .u64 (wd p 3 : Int))) ∧ Off (fun _ => False) u2 W') := Lib.hid (fun W' h => ⟨fv_cells (h.heap g_F (fun c => c)), cells4 (h.heap g_P (fun c => c)), h⟩)
      clear g_F g_P h_z1 h_z2 h_z3 h_z4 FAd FMu FRa FRm
      go_upto_region 6 with fail
      obtain ⟨x39, hx⟩ : ∃ x : Value, x = .bool true := ⟨_, rfl⟩
      have X39 := Lib.hid hx
      clear hx
      obtain ⟨x40, hx⟩ : ∃ x : Value, x = .bool true := ⟨_, rfl⟩
      have X40 := Lib.hid hx
      clear hx
      obtain ⟨x41, hx⟩ : ∃ x : Value, x = V p := ⟨_, rfl⟩
      have X41 := Lib.hid hx
      clear hx
      obtain ⟨x42, hx⟩ : ∃ x : Value, x = FV id p i r s := ⟨_, rfl⟩
      have X42 := Lib.hid hx
      clear hx
      obtain ⟨x43, hx⟩ : ∃ x : Value, x = z2 := ⟨_, rfl⟩
      have X43 := Lib.hid hx
      clear hx
      obtain ⟨x44, hx⟩ : ∃ x : Value, x = z4 := ⟨_, rfl⟩
      have X44 := Lib.hid hx
      clear hx
      obtain ⟨x46, hx⟩ : ∃ x : Value, x = V p := ⟨_, rfl⟩
      have X46 := Lib.hid hx
      clear hx
      obtain ⟨x47, hx⟩ : ∃ x : Value, x = z1 := ⟨_, rfl⟩
      have X47 := Lib.hid hx
      clear hx
      obtain ⟨x48, hx⟩ : ∃ x : Value, x = z3 := ⟨_, rfl⟩
      have X48 := Lib.hid hx
      clear hx
      obtain ⟨x50, hx⟩ : ∃ x : Value, x = .bool true := ⟨_, rfl⟩
      have X50 := Lib.hid hx
      clear hx
      obtain ⟨x51, hx⟩ : ∃ x : Value, x = .bool true := ⟨_, rfl⟩
      have X51 := Lib.hid hx
      clear hx
      obtain ⟨x52, hx⟩ : ∃ x : Value, x = .bool true := ⟨_, rfl⟩
      have X52 := Lib.hid hx
      clear hx
      obtain ⟨x53, hx⟩ : ∃ x : Value, x = V p := ⟨_, rfl⟩
      have X53 := Lib.hid hx
      clear hx
      obtain ⟨x54, hx⟩ : ∃ x : Value, x = FV id p i r s := ⟨_, rfl⟩
      have X54 := Lib.hid hx
      clear hx
      obtain ⟨x55, hx⟩ : ∃ x : Value, x = z2 := ⟨_, rfl⟩
      have X55 := Lib.hid hx
      clear hx
      obtain ⟨x56, hx⟩ : ∃ x : Value, x = z4 := ⟨_, rfl⟩
      have X56 := Lib.hid hx
      clear hx
      obtain ⟨x58, hx⟩ : ∃ x : Value, x = V p := ⟨_, rfl⟩
      have X58 := Lib.hid hx
      clear hx
      obtain ⟨x59, hx⟩ : ∃ x : Value, x = z1 := ⟨_, rfl⟩
      have X59 := Lib.hid hx
      clear hx
      obtain ⟨x60, hx⟩ : ∃ x : Value, x = z3 := ⟨_, rfl⟩
      have X60 := Lib.hid hx
      clear hx
      obtain ⟨x62, hx⟩ : ∃ x : Value, x = .bool true := ⟨_, rfl⟩
      have X62 := Lib.hid hx
      clear hx
      obtain ⟨x63, hx⟩ : ∃ x : Value, x = .bool true := ⟨_, rfl⟩
      have X63 := Lib.hid hx
      clear hx
      obtain ⟨x6, hx⟩ : ∃ x : Value, x = .bool true := ⟨_, rfl⟩
      have X6 := Lib.hid hx
      clear hx
      refine wp_region_inv (fun a0 l a' w' => ∃ (u45 : Value), ∃ (u49 : Value), ∃ (u57 : Value), ∃ (u61 : Value), a' = (Act.put (fill a0 39 [sel (l 0) x39 undef, sel (l 1) x40 undef, sel (l 2) x41 undef, sel (l 3) x42 undef, sel (l 4) x43 undef, sel (l 5) x44 undef, sel (l 6) u45 undef, sel (l 7) x46 undef, sel (l 8) x47 undef, sel (l 9) x48 undef, sel (l 10) u49 undef, sel (l 11) x50 undef, sel (l 12) x51 undef, sel (l 13) x52 undef, sel (l 14) x53 undef, sel (l 15) x54 undef, sel (l 16) x55 undef, sel (l 17) x56 undef, sel (l 18) u57 undef, sel (l 19) x58 undef, sel (l 20) x59 undef, sel (l 21) x60 undef, sel (l 22) u61 undef, sel (l 23) x62 undef, sel (l 24) x63 undef]) (some 6) (sel (l 25) x6 (.bool false))) ∧ Lk l 6 u45 w' (sl.map (fm p)) ∧ Lk l 10 u49 w' (sl) ∧ Lk l 18 u57 w' (ml.map (fm p)) ∧ Lk l 22 u61 w' (ml) ∧ Off (fun _ => False) u2 w') (by kernel_rfl) (by kernel_rfl) ?_ ⟨?_, ?_, ?_, ?_, ?_, ?_, ?_, ?_, ?_, ?_, ?_, ?_, ?_, ?_, ?_, ?_, ?_, ?_, ?_, ?_, ?_, ?_, ?_, ?_, ?_, ?_, trivial⟩ ?_
      · refine ⟨undef, undef, undef, undef, ?_, Lk.start _ _ _ _, Lk.start _ _ _ _, Lk.start _ _ _ _, Lk.start _ _ _ _, (Off.refl _ u2).drew⟩
        simp only [fill_eq, List.take_succ_cons, List.take_zero, List.cons_append, List.nil_append, Act.put, List.setIfInBounds_toArray, List.set_cons_zero, List.set_cons_succ, sel_start]
      · as_aux_lemma =>
          rintro l a wr ⟨u45, u49, u57, u61, ha, M6, M10, M18, M22, hO⟩ hl hd K' hK
          have hx := X39.out; subst hx
          simp only [fill_eq, List.take_succ_cons, List.take_zero, List.cons_append, List.nil_append, Act.put, List.setIfInBounds_toArray, List.set_cons_zero, List.set_cons_succ] at ha
          subst ha
          rw [if_pos (by rfl)]
          go_simp
          refine (held_inv (FAL.out wr (HTW.out wr hO)) hO).mono ?_
          rintro e w1 ⟨rfl, hO1, hOW⟩
          go_wp2_with fail
          refine hK.out _ _ ⟨u45, u49, u57, u61, ?_, M6.keep hOW rfl, M10.keep hOW rfl, M18.keep hOW rfl, M22.keep hOW rfl, hO1⟩
          simp only [fill_eq, List.take_succ_cons, List.take_zero, List.cons_append, List.nil_append, Act.put, List.setIfInBounds_toArray, List.set_cons_zero, List.set_cons_succ, sel_new]
          rfl
      · as_aux_lemma =>
          rintro l a wr ⟨u45, u49, u57, u61, ha, M6, M10, M18, M22, hO⟩ hl hd K' hK
          have d0 := hd 0 (by decide)
          have hx := X39.out; subst hx
          have hx := X40.out; subst hx
          simp only [fill_eq, List.take_succ_cons, List.take_zero, List.cons_append, List.nil_append, Act.put, List.setIfInBounds_toArray, List.set_cons_zero, List.set_cons_succ, sel_of d0] at ha
          subst ha
          rw [if_pos (by rfl)]
          go_simp
          refine hK.out _ _ ⟨u45, u49, u57, u61, ?_, M6.keep (Off.refl _ wr) rfl, M10.keep (Off.refl _ wr) rfl, M18.keep (Off.refl _ wr) rfl, M22.keep (Off.refl _ wr) rfl, hO⟩
          simp only [fill_eq, List.take_succ_cons, List.take_zero, List.cons_append, List.nil_append, Act.put, List.setIfInBounds_toArray, List.set_cons_zero, List.set_cons_succ, sel_new, sel_dep d0]
          rfl
      · as_aux_lemma =>
          rintro l a wr ⟨u45, u49, u57, u61, ha, M6, M10, M18, M22, hO⟩ hl hd K' hK
          have d1 := hd 1 (by decide)
          have hx := X40.out; subst hx
          have hx := X41.out; subst hx
          simp only [fill_eq, List.take_succ_cons, List.take_zero, List.cons_append, List.nil_append, Act.put, List.setIfInBounds_toArray, List.set_cons_zero, List.set_cons_succ, sel_of d1] at ha
          subst ha
          have hc := HK.out wr hO
          have p0 := hc.2.1.1
          have p1 := hc.2.1.2.1
          have p2 := hc.2.1.2.2.1
          have p3 := hc.2.1.2.2.2
          clear hc
          rw [if_pos (by rfl)]
          go_simp
          refine hK.out _ _ ⟨u45, u49, u57, u61, ?_, M6.keep (Off.refl _ wr) rfl, M10.keep (Off.refl _ wr) rfl, M18.keep (Off.refl _ wr) rfl, M22.keep (Off.refl _ wr) rfl, hO⟩
          simp only [fill_eq, List.take_succ_cons, List.take_zero, List.cons_append, List.nil_append, Act.put, List.setIfInBounds_toArray, List.set_cons_zero, List.set_cons_succ, sel_new, sel_dep d1]
          rfl
      · as_aux_lemma =>
          rintro l a wr ⟨u45, u49, u57, u61, ha, M6, M10, M18, M22, hO⟩ hl hd K' hK
          have d1 := hd 1 (by decide)
          have hx := X40.out; subst hx
          have hx := X42.out; subst hx
          simp only [fill_eq, List.take_succ_cons, List.take_zero, List.cons_append, List.nil_append, Act.put, List.setIfInBounds_toArray, List.set_cons_zero, List.set_cons_succ, sel_of d1] at ha
          subst ha
          have hc := HK.out wr hO
          have p0 := hc.1.1
          have p1 := hc.1.2.1
          have p2 := hc.1.2.2.1
          have p3 := hc.1.2.2.2.1
          have p4 := hc.1.2.2.2.2.1
          have p5 := hc.1.2.2.2.2.2.1
          have p6 := hc.1.2.2.2.2.2.2.1
          have p7 := hc.1.2.2.2.2.2.2.2.1
          have p8 := hc.1.2.2.2.2.2.2.2.2.1
          have p9 := hc.1.2.2.2.2.2.2.2.2.2.1
          have p10 := hc.1.2.2.2.2.2.2.2.2.2.2.1
          have p11 := hc.1.2.2.2.2.2.2.2.2.2.2.2.1
          have p12 := hc.1.2.2.2.2.2.2.2.2.2.2.2.2.1
          have p13 := hc.1.2.2.2.2.2.2.2.2.2.2.2.2.2
          clear hc
          rw [if_pos (by rfl)]
          go_simp
          refine hK.out _ _ ⟨u45, u49, u57, u61, ?_, M6.keep (Off.refl _ wr) rfl, M10.keep (Off.refl _ wr) rfl, M18.keep (Off.refl _ wr) rfl, M22.keep (Off.refl _ wr) rfl, hO⟩
          simp only [fill_eq, List.take_succ_cons, List.take_zero, List.cons_append, List.nil_append, Act.put, List.setIfInBounds_toArray, List.set_cons_zero, List.set_cons_succ, sel_new, sel_dep d1]
          rfl
      · as_aux_lemma =>
          rintro l a wr ⟨u45, u49, u57, u61, ha, M6, M10, M18, M22, hO⟩ hl hd K' hK
          have d1 := hd 1 (by decide)
          have hx := X40.out; subst hx
          have hx := X43.out; subst hx
          simp only [fill_eq, List.take_succ_cons, List.take_zero, List.cons_append, List.nil_append, Act.put, List.setIfInBounds_toArray, List.set_cons_zero, List.set_cons_succ, sel_of d1] at ha
          subst ha
          rw [if_pos (by rfl)]
          go_simp
          refine hK.out _ _ ⟨u45, u49, u57, u61, ?_, M6.keep (Off.refl _ wr) rfl, M10.keep (Off.refl _ wr) rfl, M18.keep (Off.refl _ wr) rfl, M22.keep (Off.refl _ wr) rfl, hO⟩
          simp only [fill_eq, List.take_succ_cons, List.take_zero, List.cons_append, List.nil_append, Act.put, List.setIfInBounds_toArray, List.set_cons_zero, List.set_cons_succ, sel_new, sel_dep d1]
          rfl
      · as_aux_lemma =>
          rintro l a wr ⟨u45, u49, u57, u61, ha, M6, M10, M18, M22, hO⟩ hl hd K' hK
          have d1 := hd 1 (by decide)
          have hx := X40.out; subst hx
          have hx := X44.out; subst hx
          simp only [fill_eq, List.take_succ_cons, List.take_zero, List.cons_append, List.nil_append, Act.put, List.setIfInBounds_toArray, List.set_cons_zero, List.set_cons_succ, sel_of d1] at ha
          subst ha
          rw [if_pos (by rfl)]
          go_simp
          refine hK.out _ _ ⟨u45, u49, u57, u61, ?_, M6.keep (Off.refl _ wr) rfl, M10.keep (Off.refl _ wr) rfl, M18.keep (Off.refl _ wr) rfl, M22.keep (Off.refl _ wr) rfl, hO⟩
          simp only [fill_eq, List.take_succ_cons, List.take_zero, List.cons_append, List.nil_append, Act.put, List.setIfInBounds_toArray, List.set_cons_zero, List.set_cons_succ, sel_new, sel_dep d1]
          rfl
      · as_aux_lemma =>
          rintro l a wr ⟨u45, u49, u57, u61, ha, M6, M10, M18, M22, hO⟩ hl hd K' hK
          have d1 := hd 1 (by decide)
          have d3 := hd 3 (by decide)
          have d4 := hd 4 (by decide)
          have d5 := hd 5 (by decide)
          have hx := X40.out; subst hx
          have hx := X42.out; subst hx
          have hx := X43.out; subst hx
          have hx := X44.out; subst hx
          simp only [fill_eq, List.take_succ_cons, List.take_zero, List.cons_append, List.nil_append, Act.put, List.setIfInBounds_toArray, List.set_cons_zero, List.set_cons_succ, sel_of d1, sel_of d3, sel_of d4, sel_of d5] at ha
          subst ha
          rw [if_pos (by rfl)]
          go_simp
          refine (FA2.out wr hO).mono ?_
          rintro e w1 ⟨uv, rfl, hm, hOW⟩
          have hO1 := hO.trans hOW (fun _ _ c => c)
          go_wp2_with fail
          refine hK.out _ _ ⟨uv, u49, u57, u61, ?_, Lk.new hm, M10.keep hOW rfl, M18.keep hOW rfl, M22.keep hOW rfl, hO1⟩
          simp only [fill_eq, List.take_succ_cons, List.take_zero, List.cons_append, List.nil_append, Act.put, List.setIfInBounds_toArray, List.set_cons_zero, List.set_cons_succ, sel_new, sel_dep d1, sel_dep d3, sel_dep d4, sel_dep d5]
          rfl
      · as_aux_lemma =>
          rintro l a wr ⟨u45, u49, u57, u61, ha, M6, M10, M18, M22, hO⟩ hl hd K' hK
          have d1 := hd 1 (by decide)
          have hx := X40.out; subst hx
          have hx := X46.out; subst hx
          simp only [fill_eq, List.take_succ_cons, List.take_zero, List.cons_append, List.nil_append, Act.put, List.setIfInBounds_toArray, List.set_cons_zero, List.set_cons_succ, sel_of d1] at ha
          subst ha
          have hc := HK.out wr hO
          have p0 := hc.2.1.1
          have p1 := hc.2.1.2.1
          have p2 := hc.2.1.2.2.1
          have p3 := hc.2.1.2.2.2
          clear hc
          rw [if_pos (by rfl)]
          go_simp
          refine hK.out _ _ ⟨u45, u49, u57, u61, ?_, M6.keep (Off.refl _ wr) rfl, M10.keep (Off.refl _ wr) rfl, M18.keep (Off.refl _ wr) rfl, M22.keep (Off.refl _ wr) rfl, hO⟩
          simp only [fill_eq, List.take_succ_cons, List.take_zero, List.cons_append, List.nil_append, Act.put, List.setIfInBounds_toArray, List.set_cons_zero, List.set_cons_succ, sel_new, sel_dep d1]
          rfl
      · as_aux_lemma =>
          rintro l a wr ⟨u45, u49, u57, u61, ha, M6, M10, M18, M22, hO⟩ hl hd K' hK
          have d1 := hd 1 (by decide)
          have hx := X40.out; subst hx
          have hx := X47.out; subst hx
          simp only [fill_eq, List.take_succ_cons, List.take_zero, List.cons_append, List.nil_append, Act.put, List.setIfInBounds_toArray, List.set_cons_zero, List.set_cons_succ, sel_of d1] at ha
          subst ha
          rw [if_pos (by rfl)]
          go_simp
          refine hK.out _ _ ⟨u45, u49, u57, u61, ?_, M6.keep (Off.refl _ wr) rfl, M10.keep (Off.refl _ wr) rfl, M18.keep (Off.refl _ wr) rfl, M22.keep (Off.refl _ wr) rfl, hO⟩
          simp only [fill_eq, List.take_succ_cons, List.take_zero, List.cons_append, List.nil_append, Act.put, List.setIfInBounds_toArray, List.set_cons_zero, List.set_cons_succ, sel_new, sel_dep d1]
          rfl
      · as_aux_lemma =>
          rintro l a wr ⟨u45, u49, u57, u61, ha, M6, M10, M18, M22, hO⟩ hl hd K' hK
          have d1 := hd 1 (by decide)
          have hx := X40.out; subst hx
          have hx := X48.out; subst hx
          simp only [fill_eq, List.take_succ_cons, List.take_zero, List.cons_append, List.nil_append, Act.put, List.setIfInBounds_toArray, List.set_cons_zero, List.set_cons_succ, sel_of d1] at ha
          subst ha
          rw [if_pos (by rfl)]
          go_simp
          refine hK.out _ _ ⟨u45, u49, u57, u61, ?_, M6.keep (Off.refl _ wr) rfl, M10.keep (Off.refl _ wr) rfl, M18.keep (Off.refl _ wr) rfl, M22.keep (Off.refl _ wr) rfl, hO⟩
          simp only [fill_eq, List.take_succ_cons, List.take_zero, List.cons_append, List.nil_append, Act.put, List.setIfInBounds_toArray, List.set_cons_zero, List.set_cons_succ, sel_new, sel_dep d1]
          rfl
      · as_aux_lemma =>
          rintro l a wr ⟨u45, u49, u57, u61, ha, M6, M10, M18, M22, hO⟩ hl hd K' hK
          have d1 := hd 1 (by decide)
          have d7 := hd 7 (by decide)
          have d8 := hd 8 (by decide)
          have d9 := hd 9 (by decide)
          have hx := X40.out; subst hx
          have hx := X46.out; subst hx
          have hx := X47.out; subst hx
          have hx := X48.out; subst hx
          simp only [fill_eq, List.take_succ_cons, List.take_zero, List.cons_append, List.nil_append, Act.put, List.setIfInBounds_toArray, List.set_cons_zero, List.set_cons_succ, sel_of d1, sel_of d7, sel_of d8, sel_of d9] at ha
          subst ha
          rw [if_pos (by rfl)]
          go_simp
          refine (FR2.out wr hO).mono ?_
          rintro e w1 ⟨uv, rfl, hm, hOW⟩
          have hO1 := hO.trans hOW (fun _ _ c => c)
          go_wp2_with fail
          refine hK.out _ _ ⟨u45, uv, u57, u61, ?_, M6.keep hOW rfl, Lk.new hm, M18.keep hOW rfl, M22.keep hOW rfl, hO1⟩
          simp only [fill_eq, List.take_succ_cons, List.take_zero, List.cons_append, List.nil_append, Act.put, List.setIfInBounds_toArray, List.set_cons_zero, List.set_cons_succ, sel_new, sel_dep d1, sel_dep d7, sel_dep d8, sel_dep d9]
          rfl
      · as_aux_lemma =>
          rintro l a wr ⟨u45, u49, u57, u61, ha, M6, M10, M18, M22, hO⟩ hl hd K' hK
          have d1 := hd 1 (by decide)
          have d2 := hd 2 (by decide)
          have d6 := hd 6 (by decide)
          have d10 := hd 10 (by decide)
          have hx := X40.out; subst hx
          have hx := X41.out; subst hx
          have m6 := M6 d6
          have m10 := M10 d10
          have hx := X50.out; subst hx
          simp only [fill_eq, List.take_succ_cons, List.take_zero, List.cons_append, List.nil_append, Act.put, List.setIfInBounds_toArray, List.set_cons_zero, List.set_cons_succ, sel_of d1, sel_of d2, sel_of d6, sel_of d10] at ha
          subst ha
          rw [if_pos (by rfl)]
          go_simp
          refine (held_inv (FSs.out wr u45 u49 m6 m10) hO).mono ?_
          rintro e w1 ⟨rfl, hO1, hOW⟩
          go_wp2_with fail
          refine hK.out _ _ ⟨u45, u49, u57, u61, ?_, M6.keep hOW rfl, M10.keep hOW rfl, M18.keep hOW rfl, M22.keep hOW rfl, hO1⟩
          simp only [fill_eq, List.take_succ_cons, List.take_zero, List.cons_append, List.nil_append, Act.put, List.setIfInBounds_toArray, List.set_cons_zero, List.set_cons_succ, sel_new, sel_dep d1, sel_dep d2, sel_dep d6, sel_dep d10]
          rfl
      · as_aux_lemma =>
          rintro l a wr ⟨u45, u49, u57, u61, ha, M6, M10, M18, M22, hO⟩ hl hd K' hK
          have d1 := hd 1 (by decide)
          have d11 := hd 11 (by decide)
          have hx := X40.out; subst hx
          have hx := X50.out; subst hx
          have hx := X51.out; subst hx
          simp only [fill_eq, List.take_succ_cons, List.take_zero, List.cons_append, List.nil_append, Act.put, List.setIfInBounds_toArray, List.set_cons_zero, List.set_cons_succ, sel_of d1, sel_of d11] at ha
          subst ha
          rw [if_pos (by rfl)]
          go_simp
          refine hK.out _ _ ⟨u45, u49, u57, u61, ?_, M6.keep (Off.refl _ wr) rfl, M10.keep (Off.refl _ wr) rfl, M18.keep (Off.refl _ wr) rfl, M22.keep (Off.refl _ wr) rfl, hO⟩
          simp only [fill_eq, List.take_succ_cons, List.take_zero, List.cons_append, List.nil_append, Act.put, List.setIfInBounds_toArray, List.set_cons_zero, List.set_cons_succ, sel_new, sel_dep d1, sel_dep d11]
          rfl
      · as_aux_lemma =>
          rintro l a wr ⟨u45, u49, u57, u61, ha, M6, M10, M18, M22, hO⟩ hl hd K' hK
          have d12 := hd 12 (by decide)
          have hx := X51.out; subst hx
          have hx := X52.out; subst hx
          simp only [fill_eq, List.take_succ_cons, List.take_zero, List.cons_append, List.nil_append, Act.put, List.setIfInBounds_toArray, List.set_cons_zero, List.set_cons_succ, sel_of d12] at ha
          subst ha
          rw [if_pos (by rfl)]
          go_simp
          refine hK.out _ _ ⟨u45, u49, u57, u61, ?_, M6.keep (Off.refl _ wr) rfl, M10.keep (Off.refl _ wr) rfl, M18.keep (Off.refl _ wr) rfl, M22.keep (Off.refl _ wr) rfl, hO⟩
          simp only [fill_eq, List.take_succ_cons, List.take_zero, List.cons_append, List.nil_append, Act.put, List.setIfInBounds_toArray, List.set_cons_zero, List.set_cons_succ, sel_new, sel_dep d12]
          rfl
      · as_aux_lemma =>
          rintro l a wr ⟨u45, u49, u57, u61, ha, M6, M10, M18, M22, hO⟩ hl hd K' hK
          have d13 := hd 13 (by decide)
          have hx := X52.out; subst hx
          have hx := X53.out; subst hx
          simp only [fill_eq, List.take_succ_cons, List.take_zero, List.cons_append, List.nil_append, Act.put, List.setIfInBounds_toArray, List.set_cons_zero, List.set_cons_succ, sel_of d13] at ha
          subst ha
          have hc := HK.out wr hO
          have p0 := hc.2.1.1
          have p1 := hc.2.1.2.1
          have p2 := hc.2.1.2.2.1
          have p3 := hc.2.1.2.2.2
          clear hc
          rw [if_pos (by rfl)]
          go_simp
          refine hK.out _ _ ⟨u45, u49, u57, u61, ?_, M6.keep (Off.refl _ wr) rfl, M10.keep (Off.refl _ wr) rfl, M18.keep (Off.refl _ wr) rfl, M22.keep (Off.refl _ wr) rfl, hO⟩
          simp only [fill_eq, List.take_succ_cons, List.take_zero, List.cons_append, List.nil_append, Act.put, List.setIfInBounds_toArray, List.set_cons_zero, List.set_cons_succ, sel_new, sel_dep d13]
          rfl
      · as_aux_lemma =>
          rintro l a wr ⟨u45, u49, u57, u61, ha, M6, M10, M18, M22, hO⟩ hl hd K' hK
          have d13 := hd 13 (by decide)
          have hx := X52.out; subst hx
          have hx := X54.out; subst hx
          simp only [fill_eq, List.take_succ_cons, List.take_zero, List.cons_append, List.nil_append, Act.put, List.setIfInBounds_toArray, List.set_cons_zero, List.set_cons_succ, sel_of d13] at ha
          subst ha
          have hc := HK.out wr hO
          have p0 := hc.1.1
          have p1 := hc.1.2.1
          have p2 := hc.1.2.2.1
          have p3 := hc.1.2.2.2.1
          have p4 := hc.1.2.2.2.2.1
          have p5 := hc.1.2.2.2.2.2.1
          have p6 := hc.1.2.2.2.2.2.2.1
          have p7 := hc.1.2.2.2.2.2.2.2.1
          have p8 := hc.1.2.2.2.2.2.2.2.2.1
          have p9 := hc.1.2.2.2.2.2.2.2.2.2.1
          have p10 := hc.1.2.2.2.2.2.2.2.2.2.2.1
          have p11 := hc.1.2.2.2.2.2.2.2.2.2.2.2.1
          have p12 := hc.1.2.2.2.2.2.2.2.2.2.2.2.2.1
          have p13 := hc.1.2.2.2.2.2.2.2.2.2.2.2.2.2
          clear hc
          rw [if_pos (by rfl)]
          go_simp
          refine hK.out _ _ ⟨u45, u49, u57, u61, ?_, M6.keep (Off.refl _ wr) rfl, M10.keep (Off.refl _ wr) rfl, M18.keep (Off.refl _ wr) rfl, M22.keep (Off.refl _ wr) rfl, hO⟩
          simp only [fill_eq, List.take_succ_cons, List.take_zero, List.cons_append, List.nil_append, Act.put, List.setIfInBounds_toArray, List.set_cons_zero, List.set_cons_succ, sel_new, sel_dep d13]
          rfl
      · as_aux_lemma =>
          rintro l a wr ⟨u45, u49, u57, u61, ha, M6, M10, M18, M22, hO⟩ hl hd K' hK
          have d13 := hd 13 (by decide)
          have hx := X52.out; subst hx
          have hx := X55.out; subst hx
          simp only [fill_eq, List.take_succ_cons, List.take_zero, List.cons_append, List.nil_append, Act.put, List.setIfInBounds_toArray, List.set_cons_zero, List.set_cons_succ, sel_of d13] at ha
          subst ha
          rw [if_pos (by rfl)]
          go_simp
          refine hK.out _ _ ⟨u45, u49, u57, u61, ?_, M6.keep (Off.refl _ wr) rfl, M10.keep (Off.refl _ wr) rfl, M18.keep (Off.refl _ wr) rfl, M22.keep (Off.refl _ wr) rfl, hO⟩
          simp only [fill_eq, List.take_succ_cons, List.take_zero, List.cons_append, List.nil_append, Act.put, List.setIfInBounds_toArray, List.set_cons_zero, List.set_cons_succ, sel_new, sel_dep d13]
          rfl
      · as_aux_lemma =>
          rintro l a wr ⟨u45, u49, u57, u61, ha, M6, M10, M18, M22, hO⟩ hl hd K' hK
          have d13 := hd 13 (by decide)
          have hx := X52.out; subst hx
          have hx := X56.out; subst hx
          simp only [fill_eq, List.take_succ_cons, List.take_zero, List.cons_append, List.nil_append, Act.put, List.setIfInBounds_toArray, List.set_cons_zero, List.set_cons_succ, sel_of d13] at ha
          subst ha
          rw [if_pos (by rfl)]
          go_simp
          refine hK.out _ _ ⟨u45, u49, u57, u61, ?_, M6.keep (Off.refl _ wr) rfl, M10.keep (Off.refl _ wr) rfl, M18.keep (Off.refl _ wr) rfl, M22.keep (Off.refl _ wr) rfl, hO⟩
          simp only [fill_eq, List.take_succ_cons, List.take_zero, List.cons_append, List.nil_append, Act.put, List.setIfInBounds_toArray, List.set_cons_zero, List.set_cons_succ, sel_new, sel_dep d13]
          rfl
      · as_aux_lemma =>
          rintro l a wr ⟨u45, u49, u57, u61, ha, M6, M10, M18, M22, hO⟩ hl hd K' hK
          have d13 := hd 13 (by decide)
          have d15 := hd 15 (by decide)
          have d16 := hd 16 (by decide)
          have d17 := hd 17 (by decide)
          have hx := X52.out; subst hx
          have hx := X54.out; subst hx
          have hx := X55.out; subst hx
          have hx := X56.out; subst hx
          simp only [fill_eq, List.take_succ_cons, List.take_zero, List.cons_append, List.nil_append, Act.put, List.setIfInBounds_toArray, List.set_cons_zero, List.set_cons_succ, sel_of d13, sel_of d15, sel_of d16, sel_of d17] at ha
          subst ha
          rw [if_pos (by rfl)]
          go_simp
          refine (FM2.out wr hO).mono ?_
          rintro e w1 ⟨uv, rfl, hm, hOW⟩
          have hO1 := hO.trans hOW (fun _ _ c => c)
          go_wp2_with fail
          refine hK.out _ _ ⟨u45, u49, uv, u61, ?_, M6.keep hOW rfl, M10.keep hOW rfl, Lk.new hm, M22.keep hOW rfl, hO1⟩
          simp only [fill_eq, List.take_succ_cons, List.take_zero, List.cons_append, List.nil_append, Act.put, List.setIfInBounds_toArray, List.set_cons_zero, List.set_cons_succ, sel_new, sel_dep d13, sel_dep d15, sel_dep d16, sel_dep d17]
          rfl
      · as_aux_lemma =>
          rintro l a wr ⟨u45, u49, u57, u61, ha, M6, M10, M18, M22, hO⟩ hl hd K' hK
          have d13 := hd 13 (by decide)
          have hx := X52.out; subst hx
          have hx := X58.out; subst hx
          simp only [fill_eq, List.take_succ_cons, List.take_zero, List.cons_append, List.nil_append, Act.put, List.setIfInBounds_toArray, List.set_cons_zero, List.set_cons_succ, sel_of d13] at ha
          subst ha
          have hc := HK.out wr hO
          have p0 := hc.2.1.1
          have p1 := hc.2.1.2.1
          have p2 := hc.2.1.2.2.1
          have p3 := hc.2.1.2.2.2
          clear hc
          rw [if_pos (by rfl)]
          go_simp
          refine hK.out _ _ ⟨u45, u49, u57, u61, ?_, M6.keep (Off.refl _ wr) rfl, M10.keep (Off.refl _ wr) rfl, M18.keep (Off.refl _ wr) rfl, M22.keep (Off.refl _ wr) rfl, hO⟩
          simp only [fill_eq, List.take_succ_cons, List.take_zero, List.cons_append, List.nil_append, Act.put, List.setIfInBounds_toArray, List.set_cons_zero, List.set_cons_succ, sel_new, sel_dep d13]
          rfl
      · as_aux_lemma =>
          rintro l a wr ⟨u45, u49, u57, u61, ha, M6, M10, M18, M22, hO⟩ hl hd K' hK
          have d13 := hd 13 (by decide)
          have hx := X52.out; subst hx
          have hx := X59.out; subst hx
          simp only [fill_eq, List.take_succ_cons, List.take_zero, List.cons_append, List.nil_append, Act.put, List.setIfInBounds_toArray, List.set_cons_zero, List.set_cons_succ, sel_of d13] at ha
          subst ha
          rw [if_pos (by rfl)]
          go_simp
          refine hK.out _ _ ⟨u45, u49, u57, u61, ?_, M6.keep (Off.refl _ wr) rfl, M10.keep (Off.refl _ wr) rfl, M18.keep (Off.refl _ wr) rfl, M22.keep (Off.refl _ wr) rfl, hO⟩
          simp only [fill_eq, List.take_succ_cons, List.take_zero, List.cons_append, List.nil_append, Act.put, List.setIfInBounds_toArray, List.set_cons_zero, List.set_cons_succ, sel_new, sel_dep d13]
          rfl
      · as_aux_lemma =>
          rintro l a wr ⟨u45, u49, u57, u61, ha, M6, M10, M18, M22, hO⟩ hl hd K' hK
          have d13 := hd 13 (by decide)
          have hx := X52.out; subst hx
          have hx := X60.out; subst hx
          simp only [fill_eq, List.take_succ_cons, List.take_zero, List.cons_append, List.nil_append, Act.put, List.setIfInBounds_toArray, List.set_cons_zero, List.set_cons_succ, sel_of d13] at ha
          subst ha
          rw [if_pos (by rfl)]
          go_simp
          refine hK.out _ _ ⟨u45, u49, u57, u61, ?_, M6.keep (Off.refl _ wr) rfl, M10.keep (Off.refl _ wr) rfl, M18.keep (Off.refl _ wr) rfl, M22.keep (Off.refl _ wr) rfl, hO⟩
          simp only [fill_eq, List.take_succ_cons, List.take_zero, List.cons_append, List.nil_append, Act.put, List.setIfInBounds_toArray, List.set_cons_zero, List.set_cons_succ, sel_new, sel_dep d13]
          rfl
      · as_aux_lemma =>
          rintro l a wr ⟨u45, u49, u57, u61, ha, M6, M10, M18, M22, hO⟩ hl hd K' hK
          have d13 := hd 13 (by decide)
          have d19 := hd 19 (by decide)
          have d20 := hd 20 (by decide)
          have d21 := hd 21 (by decide)
          have hx := X52.out; subst hx
          have hx := X58.out; subst hx
          have hx := X59.out; subst hx
          have hx := X60.out; subst hx
          simp only [fill_eq, List.take_succ_cons, List.take_zero, List.cons_append, List.nil_append, Act.put, List.setIfInBounds_toArray, List.set_cons_zero, List.set_cons_succ, sel_of d13, sel_of d19, sel_of d20, sel_of d21] at ha
          subst ha
          rw [if_pos (by rfl)]
          go_simp
          refine (FN2.out wr hO).mono ?_
          rintro e w1 ⟨uv, rfl, hm, hOW⟩
          have hO1 := hO.trans hOW (fun _ _ c => c)
          go_wp2_with fail
          refine hK.out _ _ ⟨u45, u49, u57, uv, ?_, M6.keep hOW rfl, M10.keep hOW rfl, M18.keep hOW rfl, Lk.new hm, hO1⟩
          simp only [fill_eq, List.take_succ_cons, List.take_zero, List.cons_append, List.nil_append, Act.put, List.setIfInBounds_toArray, List.set_cons_zero, List.set_cons_succ, sel_new, sel_dep d13, sel_dep d19, sel_dep d20, sel_dep d21]
          rfl
      · as_aux_lemma =>
          rintro l a wr ⟨u45, u49, u57, u61, ha, M6, M10, M18, M22, hO⟩ hl hd K' hK
          have d13 := hd 13 (by decide)
          have d14 := hd 14 (by decide)
          have d18 := hd 18 (by decide)
          have d22 := hd 22 (by decide)
          have hx := X52.out; subst hx
          have hx := X53.out; subst hx
          have m18 := M18 d18
          have m22 := M22 d22
          have hx := X62.out; subst hx
          simp only [fill_eq, List.take_succ_cons, List.take_zero, List.cons_append, List.nil_append, Act.put, List.setIfInBounds_toArray, List.set_cons_zero, List.set_cons_succ, sel_of d13, sel_of d14, sel_of d18, sel_of d22] at ha
          subst ha
          rw [if_pos (by rfl)]
          go_simp
          refine (held_inv (FSm.out wr u57 u61 m18 m22) hO).mono ?_
          rintro e w1 ⟨rfl, hO1, hOW⟩
          go_wp2_with fail
          refine hK.out _ _ ⟨u45, u49, u57, u61, ?_, M6.keep hOW rfl, M10.keep hOW rfl, M18.keep hOW rfl, M22.keep hOW rfl, hO1⟩
          simp only [fill_eq, List.take_succ_cons, List.take_zero, List.cons_append, List.nil_append, Act.put, List.setIfInBounds_toArray, List.set_cons_zero, List.set_cons_succ, sel_new, sel_dep d13, sel_dep d14, sel_dep d18, sel_dep d22]
          rfl
      · as_aux_lemma =>
          rintro l a wr ⟨u45, u49, u57, u61, ha, M6, M10, M18, M22, hO⟩ hl hd K' hK
          have d13 := hd 13 (by decide)
          have d23 := hd 23 (by decide)
          have hx := X52.out; subst hx
          have hx := X62.out; subst hx
          have hx := X63.out; subst hx
          simp only [fill_eq, List.take_succ_cons, List.take_zero, List.cons_append, List.nil_append, Act.put, List.setIfInBounds_toArray, List.set_cons_zero, List.set_cons_succ, sel_of d13, sel_of d23] at ha
          subst ha
          rw [if_pos (by rfl)]
          go_simp
          refine hK.out _ _ ⟨u45, u49, u57, u61, ?_, M6.keep (Off.refl _ wr) rfl, M10.keep (Off.refl _ wr) rfl, M18.keep (Off.refl _ wr) rfl, M22.keep (Off.refl _ wr) rfl, hO⟩
          simp only [fill_eq, List.take_succ_cons, List.take_zero, List.cons_append, List.nil_append, Act.put, List.setIfInBounds_toArray, List.set_cons_zero, List.set_cons_succ, sel_new, sel_dep d13, sel_dep d23]
          rfl
      · as_aux_lemma =>
          rintro l a wr ⟨u45, u49, u57, u61, ha, M6, M10, M18, M22, hO⟩ hl hd K' hK
          have d24 := hd 24 (by decide)
          have hx := X63.out; subst hx
          have hx := X6.out; subst hx
          simp only [fill_eq, List.take_succ_cons, List.take_zero, List.cons_append, List.nil_append, Act.put, List.setIfInBounds_toArray, List.set_cons_zero, List.set_cons_succ, sel_of d24] at ha
          subst ha
          rw [if_pos (by rfl)]
          go_simp
          refine hK.out _ _ ⟨u45, u49, u57, u61, ?_, M6.keep (Off.refl _ wr) rfl, M10.keep (Off.refl _ wr) rfl, M18.keep (Off.refl _ wr) rfl, M22.keep (Off.refl _ wr) rfl, hO⟩
          simp only [fill_eq, List.take_succ_cons, List.take_zero, List.cons_append, List.nil_append, Act.put, List.setIfInBounds_toArray, List.set_cons_zero, List.set_cons_succ, sel_new, sel_dep d24]
          rfl
      · rintro l a wc ⟨u45, u49, u57, u61, ha, M6, M10, M18, M22, hO⟩ hd
        simp only [fill_eq, List.take_succ_cons, List.take_zero, List.cons_append, List.nil_append, Act.put, List.setIfInBounds_toArray, List.set_cons_zero, List.set_cons_succ, sel_of (hd 0 (by decide)), sel_of (hd 1 (by decide)), sel_of (hd 2 (by decide)), sel_of (hd 3 (by decide)), sel_of (hd 4 (by decide)), sel_of (hd 5 (by decide)), sel_of (hd 6 (by decide)), sel_of (hd 7 (by decide)), sel_of (hd 8 (by decide)), sel_of (hd 9 (by decide)), sel_of (hd 10 (by decide)), sel_of (hd 11 (by decide)), sel_of (hd 12 (by decide)), sel_of (hd 13 (by decide)), sel_of (hd 14 (by decide)), sel_of (hd 15 (by decide)), sel_of (hd 16 (by decide)), sel_of (hd 17 (by decide)), sel_of (hd 18 (by decide)), sel_of (hd 19 (by decide)), sel_of (hd 20 (by decide)), sel_of (hd 21 (by decide)), sel_of (hd 22 (by decide)), sel_of (hd 23 (by decide)), sel_of (hd 24 (by decide)), sel_of (hd 25 (by decide))] at ha
        subst ha
        have hx := X6.out; subst hx
        have HOf := Lib.hid (HOw.out.trans hO (fun _ _ c => c))
        clear hO hd
        go_wp2
        go_ret
        exact ⟨rfl, HOf.out⟩

theorem door_met (os : Os) (args : Array Value) : laidMetH Tryd.prog [("sharecore/field.fields", Rows.laid_sharecore_field_fields)] ((World.doorLaid Tryd.prog 400 os).forCall (fun _ _ => 0) ⟨#[], args, []⟩).memory :=
  laidMetH_of_parts3 (fuel := 8) (laidMet_of_run' 8 (by kernel_rfl) (by kernel_rfl)) (by kernel_rfl) (by kernel_rfl)

set_option maxRecDepth 100000 in
theorem lifted (os : Os) (started : os.Started) (H : Type) (enc : TypeId × Value → H) :
    ReturnsInHanded {} Tryd.checked os 4 .any (fun w args => (Rows.polyCombinesSpec.pre enc Tryd.prog Tryd.f4 [] false w args ∧ laidMetH Tryd.prog [("sharecore/field.fields", Rows.laid_sharecore_field_fields)] w) ∧ sizedMet enc Tryd.prog Tryd.f4 (OpenSpec.ofChange Rows.polyCombinesSpec) false w args)
      (Rows.polyCombinesSpec.post enc Tryd.prog Tryd.f4 false true false false) := by
  refine returnsInHanded_of_change_and (C := Tryd.checked) (X := fun w _ => laidMetH Tryd.prog [("sharecore/field.fields", Rows.laid_sharecore_field_fields)] w) (fun _ _ _ hh h => h.of_heap hh) own started (by kernel_rfl) Tryd.func4
    (ChangeSpec.witness_shaped (enc := enc) (C := Tryd.checked) (os := os) (X := fun w _ => laidMetH Tryd.prog [("sharecore/field.fields", Rows.laid_sharecore_field_fields)] w) false (World.doorLaid Tryd.prog 400 os) #[.bool false, .slice none 0 0, .slice none 0 0] 8 rfl (World.shaped_of_RefB (by kernel_rfl) (by kernel_rfl)) (by kernel_rfl) (by kernel_rfl) (by kernel_rfl) (door_met os _)) ?_
  intro W base args ds gs before hval0 hW _ _ hL _
  have hval : ∀ (j : Nat) t v, Tryd.f4.params[j]? = some t → args[j]? = some v → Value.okWide Tryd.prog W .any base t v := hval0
  have hW' := hW
  obtain ⟨p, q, hA0, hV, rfl, hfz, hnd⟩ := hW
  have hA : DataW.TrodAll enc Tryd.prog W 0 (fun _ => true) true Tryd.f4.params.toList args.toList ds p := hA0
  rw [Tryd.params4] at hA hval
  obtain ⟨v0, vs0, d0, ds0, p0, q0, hargs, rfl, rfl, h0, r0⟩ := trodAll_cons hA
  obtain ⟨v1, vs1, d1, ds1, p1, q1, rfl, rfl, rfl, h1, r1⟩ := trodAll_cons r0
  obtain ⟨v2, vs2, d2, ds2, p2, q2, rfl, rfl, rfl, h2, r2⟩ := trodAll_cons r1
  obtain ⟨rfl, rfl, rfl⟩ := trodAll_nil r2
  obtain rfl : args = #[v0, v1, v2] := by cases args; simp_all
  obtain ⟨rfl, rfl⟩ := trodVars_none hV
  obtain ⟨i0, rfl, rfl, rfl⟩ := open_bool Tryd.underlying4 (hval 0 4 v0 rfl rfl) h0
  have w0 := trivial
  obtain ⟨a1, n1, cap1, rfl⟩ := okWide_slice Tryd.underlying22 (hval 1 22 v1 rfl rfl)
  have k1 := h1
  have lt1 : ∀ x ∈ p1, x.block < W.heap.size := by obtain ⟨m, hm⟩ := k1; exact DataW.trod_lt m _ _ _ hm
  obtain ⟨xs1, hn1, w1⟩ : ∃ xs, n1 = xs.length ∧ VsAt W (.slice a1 n1 cap1) xs (fun k => k < W.heap.size) := by
    obtain ⟨fuel, hf⟩ := h1
    exact vecs_of_trod hf
  obtain ⟨a2, n2, cap2, rfl⟩ := okWide_slice Tryd.underlying22 (hval 2 22 v2 rfl rfl)
  have k2 := h2
  have lt2 : ∀ x ∈ p2, x.block < W.heap.size := by obtain ⟨m, hm⟩ := k2; exact DataW.trod_lt m _ _ _ hm
  obtain ⟨xs2, hn2, w2⟩ : ∃ xs, n2 = xs.length ∧ VsAt W (.slice a2 n2 cap2) xs (fun k => k < W.heap.size) := by
    obtain ⟨fuel, hf⟩ := h2
    exact vecs_of_trod hf
  have hT := tab_of_laid hL
  clear hA0 hval0
  refine (walk i0 a1 n1 cap1 xs1 a2 n2 cap2 xs2 W w0 hn1 w1 hn2 w2 hT).mono fun e W' ⟨he, hoff⟩ => ?_
  have bel : Below W.heap.size W W' := hoff.below (Nat.le_refl _) (fun _ _ c => c)
  subst he
  exact ⟨_, rfl, _, _, _, [], _, [], hW', trodAll_mk1 (shut_bool Tryd.underlying4 _), (trodAll_cons_mk (shut_bool Tryd.underlying4 _) (trodAll_cons_mk (Below.trod laidOut (by kernel_rfl) (of_decide_eq_true (by kernel_rfl)) k1 bel lt1) (trodAll_cons_mk (Below.trod laidOut (by kernel_rfl) (of_decide_eq_true (by kernel_rfl)) k2 bel lt2) trodAll_mk0))), rfl, bel.frame _, fun h => by cases h⟩

theorem over : Rows.polyCombinesRow.holds Tryd.pinned (OpenSpec.ofChange Rows.polyCombinesSpec) :=
  OpenClaim.holds_of_wide 4 Tryd.f4 rfl rfl rfl rfl rfl rfl rfl ⟨rfl, rfl, rfl, rfl, rfl⟩ rfl rfl rfl rfl rfl (by kernel_rfl) Tryd.func4 (by kernel_rfl)
    (of_decide_eq_true (by kernel_rfl)) (by unfold Func.isWrapper; first | (rw [if_pos (by decide +kernel)]; kernel_rfl) | (rw [if_neg (by decide +kernel)]; exact ⟨rfl, rfl⟩))
    (fun os started H enc _ => lifted os started H enc)

theorem proved : Rows.PolyCombinesCardSaid :=
  Claim7.holds_tied_plain_at .later [] [.data] true (true, "3d840ffc59f1f7eb92e6625ecf38349f13a4c620ea70c2d1380fae53a4373fdd") false
    over (fun _ h => by cases h) (by kernel_rfl) (fun _ h => by cases h) polyCombines_row_tie rfl ⟨rfl, rfl⟩ (by kernel_rfl) rfl
    (fun f fn hf hfn => by
      obtain rfl : f = 4 := Option.some.inj ((show Tryd.prog.funcNamed "sharecore/sharecorelaw08.PolyCombines" = some 4 by kernel_rfl).symm.trans hf) |>.symm
      obtain rfl : fn = Tryd.f4 := (Option.some.inj (Tryd.func4.symm.trans hfn)).symm
      exact ⟨by kernel_rfl, fun j t ht => by
        rw [Tryd.params4] at ht
        have hm : t ∈ [4, 22] := by simpa using Array.mem_of_getElem? ht
        have hall : ([4, 22].all fun u => !Tryd.prog.wantsStandIn u) = true := by kernel_rfl
        exact (show Tryd.prog.wantsStandIn t = false by simpa using List.all_eq_true.1 hall t hm)⟩)
    (by kernel_rfl)
#print axioms proved
end Go.Proofs.YtiemajbcmmbjbaaDoor.polyCombines
