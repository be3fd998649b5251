/-
  For every field, polynomial and number, the examples of the chapter hold, and Eval returns the value of the reference: the statement of P8.1. No condition.
-/
import Derived.Test.YtiemajbcmmbjbaaDoorRows
import Derived.Test.YtiemajbcmmbjbaaDoorTie
import Derived.Test.YtiemajbcmmbjbaaDoorCards
import Derived.LaidMore
import Derived.LaidHandle
import Derived.SevenTiedAt
import Derived.Stop.Joined
import Derived.JoinedOf
import Derived.Test.YtiemajbcmmbjbaaDoorLimbWords
import Derived.Test.YtiemajbcmmbjbaaDoorVecOpen
import Derived.Test.YtiemajbcmmbjbaaDoorFieldTab
import Derived.Test.YtiemajbcmmbjbaaDoorFieldHeld
import Derived.Test.YtiemajbcmmbjbaaDoorPolAlive
import Derived.WalkKit
import Derived.ProofKit
import Derived.OpenShut
import Derived.ShutString
import Derived.ChangeOld
import Derived.Below
namespace Go.Proofs.YtiemajbcmmbjbaaDoor.polyEvaluates
open Go.ChangeShapes Go.WideShapes Go.ChangeAt Go.RowKit
set_option linter.unusedVariables false

theorem own : ownKnob Tryd.prog.godebug = none := by kernel_rfl
theorem laidOut : laidOutB Tryd.prog = true := by kernel_rfl

theorem mods_lt {p : Nat} (h : 0 < p) (xs : List Nat) : ∀ v ∈ xs.map (· % p), v < p := by
  intro v hv
  obtain ⟨x, _, rfl⟩ := List.mem_map.1 hv
  exact Nat.mod_lt _ h
set_option maxRecDepth 100000 in
set_option maxHeartbeats 4000000 in
theorem walk (i0 : Bool) (a1 : Option Addr) (n1 cap1 : Nat) (xs1 : List Nat) (n2 : Nat) (w : World) (w0 : True) (hn1 : n1 = xs1.length) (w1 : VsAt w (.slice a1 n1 cap1) xs1 (fun k => k < w.heap.size)) (w2 : n2 < R256) (hT : TabAt w) :
    Calls Tryd.prog 3 #[.bool i0, .slice a1 n1 cap1, V n2] w fun e w' => e = .returned (.bool true) ∧ Off (fun _ => False) w w' := by
  obtain ⟨id, p, i, r, s, hF, hid⟩ := fld_of i0
  have hp := hF.mp.lt
  have h1 := hF.mp.one
  have hp0 : 0 < p := by omega
  have FG := Lib.hid (fun W hT => get8_any i0 hF hid W hT)
  have FAL : Hid (∀ W, TabAt W → Calls Tryd.prog 9 #[] W fun e w' => e = .returned (.bool true) ∧ Off (fun _ => False) W w') := Lib.hid (fun W hT => alive8_any W hT)
  obtain ⟨hnl1, hnm1, hxs1⟩ := w1.len
  by_cases hbig : 12 < n1
  · have hbi : decide ((12 : Int) < (n1 : Int)) = true := by simp; omega
    have hbp : (12 : Int) < (n1 : Int) := by omega
    clear hn1 hnl1 hnm1 hxs1 hbig hF hid hp h1 hp0 FG
    go_enter Tryd.func3, Tryd.ntmps3
    go_wp2_with fail
    refine (FAL.out _ (hT.off ((Off.refl _ w).alloc _))).mono ?_
    rintro e u0 ⟨rfl, hO⟩
    have HO := Lib.hid (((Off.refl _ w).alloc _ : Off (fun _ => False) w _).trans hO (fun _ _ c => c))
    clear hO
    go_wp2
    go_ret
    exact ⟨rfl, HO.out⟩
  · have hbi : decide ((12 : Int) < (n1 : Int)) = false := by simp; omega
    have hbp : ¬ (12 : Int) < (n1 : Int) := by omega
    obtain ⟨vs, hvs⟩ : ∃ l, l = xs1.map (· % p) := ⟨_, rfl⟩
    have hvsl : vs.length = n1 := by rw [hvs, List.length_map]; exact hnl1.symm
    have hvsp : ∀ v ∈ vs, v < p := by rw [hvs]; exact mods_lt hp0 xs1
    have FV1 := Lib.hid (show ∀ W v, Ls W v xs1 → Calls Tryd.prog 11 #[V p, v] W fun e w' => ∃ z1 z2, e = .returned (.tuple #[z1, z2]) ∧ Ls w' z1 vs ∧ Ls w' z2 (vs.map (fm p)) ∧ Off (fun _ => False) W w' from fun W v h => by rw [hvs]; exact values_any hp h1 xs1 hxs1 (by omega) v W h)
    have HL1 := Lib.hid (ls_of_vs w1 (by omega))
    obtain ⟨c, hc⟩ : ∃ c, c = n2 % p := ⟨_, rfl⟩
    have hcp : c < p := by rw [hc]; exact Nat.mod_lt _ hp0
    have FMo := Lib.hid (show ∀ W, Calls Tryd.prog 12 #[V p, V n2] W fun e w' => e = .returned (V c) ∧ Off (fun _ => False) W w' from fun W => by rw [hc]; exact mod_mod p n2 hp h1 w2 W)
    obtain ⟨ev, hev⟩ : ∃ ev, ev = pv vs c % p := ⟨_, rfl⟩
    have hevp : ev < p := by rw [hev]; exact Nat.mod_lt _ hp0
    obtain ⟨y, hy⟩ : ∃ y, y = fm p c := ⟨_, rfl⟩
    obtain ⟨rr, hrr⟩ : ∃ rr, rr = fm p ev := ⟨_, rfl⟩
    have FFc := Lib.hid (show ∀ W, Calls Tryd.prog 14 #[V p, V c] W fun e w' => e = .returned (V y) ∧ Off (fun _ => False) W w' from fun W => by rw [hy]; exact form8_any p c hp h1 (by omega) W)
    have FFe := Lib.hid (show ∀ W, Calls Tryd.prog 14 #[V p, V ev] W fun e w' => e = .returned (V rr) ∧ Off (fun _ => False) W w' from fun W => by rw [hrr]; exact form8_any p ev hp h1 (by omega) W)
    have FEv := Lib.hid (show ∀ W v, Ls W v (vs.map (fm p)) → Calls Tryd.prog 13 #[.pointer none, FV id p i r s, v, V y] W fun e w' => e = .returned (V rr) ∧ Off (fun _ => False) W w' from fun W v h => by rw [hy, hrr, hev]; exact eval_ls hF vs (by omega) c v W h)
    have FRe := Lib.hid (show ∀ W v, Ls W v vs → Calls Tryd.prog 15 #[V p, v, V c] W fun e w' => e = .returned (V ev) ∧ Off (fun _ => False) W w' from fun W v h => by rw [hev]; exact refeval_any hp h1 vs hvsp c hcp v W h)
    have e1 := equalIn_elem_same
    clear hevp hy hrr hev
    have HTw := Lib.hid hT
    clear hvs hc hF hid hxs1 hnm1 hbig hn1 hnl1 hvsl hvsp
    go_enter Tryd.func3, Tryd.ntmps3
    go_wp2_with fail
    refine (FG.out _ (hT.off ((Off.refl _ w).alloc _))).mono ?_
    rintro e u0 ⟨rfl, hO1⟩
    have hO0 : Off (fun _ => False) w u0 := ((Off.refl _ w).alloc _ : Off (fun _ => False) w _).trans hO1 (fun _ _ c => c)
    have g_n2 : u0.heap[w.heap.size]? = some (.cells #[.int .u64 (wd n2 0 : Int), .int .u64 (wd n2 1 : Int), .int .u64 (wd n2 2 : Int), .int .u64 (wd n2 3 : Int)] 24 (0, 0)) := hO1.heap (heap_new' rfl _) (fun c => c)
    obtain ⟨W1, hW1⟩ : ∃ W1, W1 = (u0.alloc (.cells #[.int .i64 id, .int .u64 (wd p 0 : Int), .int .u64 (wd p 1 : Int), .int .u64 (wd p 2 : Int), .int .u64 (wd p 3 : Int), .int .u64 (i : Int), .int .u64 (wd r 0 : Int), .int .u64 (wd r 1 : Int), .int .u64 (wd r 2 : Int), .int .u64 (wd r 3 : Int), .int .u64 (wd s 0 : Int), .int .u64 (wd s 1 : Int), .int .u64 (wd s 2 : Int), .int .u64 (wd s 3 : Int)] 28)).alloc (.cells #[.int .u64 (wd p 0 : Int), .int .u64 (wd p 1 : Int), .int .u64 (wd p 2 : Int), .int .u64 (wd p 3 : Int)] 24) := ⟨_, rfl⟩
    have o1 : Off (fun _ => False) u0 W1 := by rw [hW1]; exact ((Off.refl _ u0).alloc _).alloc _
    have g_F : W1.heap[u0.heap.size]? = some (.cells #[.int .i64 id, .int .u64 (wd p 0 : Int), .int .u64 (wd p 1 : Int), .int .u64 (wd p 2 : Int), .int .u64 (wd p 3 : Int), .int .u64 (i : Int), .int .u64 (wd r 0 : Int), .int .u64 (wd r 1 : Int), .int .u64 (wd r 2 : Int), .int .u64 (wd r 3 : Int), .int .u64 (wd s 0 : Int), .int .u64 (wd s 1 : Int), .int .u64 (wd s 2 : Int), .int .u64 (wd s 3 : Int)] 28 (0, 0)) := by rw [hW1]; exact heap_old' (heap_new' rfl _) _
    have g_P : W1.heap[u0.heap.size + 1]? = some (.cells #[.int .u64 (wd p 0 : Int), .int .u64 (wd p 1 : Int), .int .u64 (wd p 2 : Int), .int .u64 (wd p 3 : Int)] 24 (0, 0)) := by rw [hW1]; exact heap_new' (by simp) _
    obtain ⟨fb, hfb⟩ : ∃ fb, fb = u0.heap.size := ⟨_, rfl⟩
    obtain ⟨pb, hpb⟩ : ∃ pb, pb = u0.heap.size + 1 := ⟨_, rfl⟩
    rw [← hfb] at g_F
    rw [← hpb] at g_P
    have g_n2 := o1.heap g_n2 (fun c => c)
    have hOw := hO0.trans o1 (fun _ _ c => c)
    clear hO1 hO0 o1
    rw [hW1] at hOw g_n2 g_F g_P
    go_wp2_with fail
    rw [← hW1] at hOw g_n2 g_F g_P ⊢
    rw [← hpb, ← hfb]
    refine (FV1.out _ _ (HL1.out.off hOw)).mono ?_
    rintro e u1 ⟨z1, z2, rfl, h_z1, h_z2, hO1⟩
    have g_n2 := hO1.heap g_n2 (fun c => c)
    have g_F := hO1.heap g_F (fun c => c)
    have g_P := hO1.heap g_P (fun c => c)
    have hOw := hOw.trans hO1 (fun _ _ c => c)
    clear hW1 hfb hpb
    obtain ⟨p0, p1, p2, p3⟩ := cells4 g_P
    obtain ⟨x0, x1, x2, x3⟩ := cells4 g_n2
    have GF := Lib.hid g_F
    have GP := Lib.hid g_P
    have H_z1 := Lib.hid h_z1
    have H_z2 := Lib.hid h_z2
    have HOw := Lib.hid hOw
    clear g_F g_P g_n2 h_z1 h_z2 hOw hO1
    go_wp2_with fail
    refine (FMo.out _).mono ?_
    rintro e u2 ⟨rfl, hO2⟩
    clear p0 p1 p2 p3 x0 x1 x2 x3
    obtain ⟨u3, hu3⟩ : ∃ u3, u3 = u2.alloc (.cells #[.int .u64 (wd c 0 : Int), .int .u64 (wd c 1 : Int), .int .u64 (wd c 2 : Int), .int .u64 (wd c 3 : Int)] 24) := ⟨_, rfl⟩
    obtain ⟨cb, hcb⟩ : ∃ cb, cb = u2.heap.size := ⟨_, rfl⟩
    have hO3 : Off (fun _ => False) u1 u3 := by rw [hu3]; exact hO2.alloc _
    have g_C : u3.heap[cb]? = some (.cells #[.int .u64 (wd c 0 : Int), .int .u64 (wd c 1 : Int), .int .u64 (wd c 2 : Int), .int .u64 (wd c 3 : Int)] 24 (0, 0)) := by rw [hu3, hcb]; exact heap_new' rfl _
    have g_F := hO3.heap GF.out (fun c => c)
    have g_P := hO3.heap GP.out (fun c => c)
    have h_z1 := H_z1.out.off hO3
    have h_z2 := H_z2.out.off hO3
    have hOw := HOw.out.trans hO3 (fun _ _ c => c)
    have HOw := Lib.hid hOw
    have HTW := Lib.hid (fun W (h : Off (fun _ => False) u3 W) => HTw.out.off (hOw.trans h (fun _ _ c => c)))
    have HU := Lib.hid (show u2.alloc (.cells #[.int .u64 (wd c 0 : Int), .int .u64 (wd c 1 : Int), .int .u64 (wd c 2 : Int), .int .u64 (wd c 3 : Int)] 24) = u3 ∧ u2.heap.size = cb from ⟨hu3.symm, hcb.symm⟩)
    clear hO2 hO3 hOw hu3 hcb GF GP H_z1 H_z2
    have FE2 := Lib.hid (show ∀ W, Off (fun _ => False) u3 W → _ from fun W h => FEv.out W z2 (h_z2.off h))
    have FR2 := Lib.hid (show ∀ W, Off (fun _ => False) u3 W → _ from fun W h => FRe.out W z1 (h_z1.off h))
    have HK : Hid (∀ W', Off (fun _ => False) u3 W' → (W'.cell? ⟨fb, 0, none⟩ = some (.int .i64 id) ∧ W'.cell? ⟨fb, 1, none⟩ = some (.int .u64 (wd p 0 : Int)) ∧ W'.cell? ⟨fb, 2, none⟩ = some (.int .u64 (wd p 1 : Int)) ∧ W'.cell? ⟨fb, 3, none⟩ = some (.int .u64 (wd p 2 : Int)) ∧ W'.cell? ⟨fb, 4, none⟩ = some (.int .u64 (wd p 3 : Int)) ∧ W'.cell? ⟨fb, 5, none⟩ = some (.int .u64 (i : Int)) ∧ W'.cell? ⟨fb, 6, none⟩ = some (.int .u64 (wd r 0 : Int)) ∧ W'.cell? ⟨fb, 7, none⟩ = some (.int .u64 (wd r 1 : Int)) ∧ W'.cell? ⟨fb, 8, none⟩ = some (.int .u64 (wd r 2 : Int)) ∧ W'.cell? ⟨fb, 9, none⟩ = some (.int .u64 (wd r 3 : Int)) ∧ W'.cell? ⟨fb, 10, none⟩ = some (.int .u64 (wd s 0 : Int)) ∧ W'.cell? ⟨fb, 11, none⟩ = some (.int .u64 (wd s 1 : Int)) ∧ W'.cell? ⟨fb, 12, none⟩ = some (.int .u64 (wd s 2 : Int)) ∧ W'.cell? ⟨fb, 13, none⟩ = some (.int .u64 (wd s 3 : Int))) ∧ (W'.cell? ⟨pb, 0, none⟩ = some (.int .u64 (wd p 0 : Int)) ∧ W'.cell? ⟨pb, 1, none⟩ = some (.int .u64 (wd p 1 : Int)) ∧ W'.cell? ⟨pb, 2, none⟩ = some (.int .u64 (wd p 2 : Int)) ∧ W'.cell? ⟨pb, 3, none⟩ = some (.int .u64 (wd p 3 : Int))) ∧ (W'.cell? ⟨cb, 0, none⟩ = some (.int .u64 (wd c 0 : Int)) ∧ W'.cell? ⟨cb, 1, none⟩ = some (.int .u64 (wd c 1 : Int)) ∧ W'.cell? ⟨cb, 2, none⟩ = some (.int .u64 (wd c 2 : Int)) ∧ W'.cell? ⟨cb, 3, none⟩ = some (.int .u64 (wd c 3 : Int))) ∧ Off (fun _ => False) u3 W') := Lib.hid (fun W' h => ⟨fv_cells (h.heap g_F (fun c => c)), cells4 (h.heap g_P (fun c => c)), cells4 (h.heap g_C (fun c => c)), h⟩)
    clear g_F g_P g_C h_z1 h_z2 FEv FRe
    go_upto_region 6 with fail
    rw [HU.out.1, HU.out.2]
    obtain ⟨x30, hx⟩ : ∃ x : Value, x = .bool true := ⟨_, rfl⟩
    have X30 := Lib.hid hx
    clear hx
    obtain ⟨x31, hx⟩ : ∃ x : Value, x = .bool true := ⟨_, rfl⟩
    have X31 := Lib.hid hx
    clear hx
    obtain ⟨x32, hx⟩ : ∃ x : Value, x = FV id p i r s := ⟨_, rfl⟩
    have X32 := Lib.hid hx
    clear hx
    obtain ⟨x33, hx⟩ : ∃ x : Value, x = z2 := ⟨_, rfl⟩
    have X33 := Lib.hid hx
    clear hx
    obtain ⟨x34, hx⟩ : ∃ x : Value, x = V p := ⟨_, rfl⟩
    have X34 := Lib.hid hx
    clear hx
    obtain ⟨x35, hx⟩ : ∃ x : Value, x = V c := ⟨_, rfl⟩
    have X35 := Lib.hid hx
    clear hx
    obtain ⟨x36, hx⟩ : ∃ x : Value, x = V y := ⟨_, rfl⟩
    have X36 := Lib.hid hx
    clear hx
    obtain ⟨x37, hx⟩ : ∃ x : Value, x = V rr := ⟨_, rfl⟩
    have X37 := Lib.hid hx
    clear hx
    obtain ⟨x38, hx⟩ : ∃ x : Value, x = V p := ⟨_, rfl⟩
    have X38 := Lib.hid hx
    clear hx
    obtain ⟨x39, hx⟩ : ∃ x : Value, x = V p := ⟨_, rfl⟩
    have X39 := Lib.hid hx
    clear hx
    obtain ⟨x40, hx⟩ : ∃ x : Value, x = z1 := ⟨_, rfl⟩
    have X40 := Lib.hid hx
    clear hx
    obtain ⟨x41, hx⟩ : ∃ x : Value, x = V c := ⟨_, rfl⟩
    have X41 := Lib.hid hx
    clear hx
    obtain ⟨x42, hx⟩ : ∃ x : Value, x = V ev := ⟨_, rfl⟩
    have X42 := Lib.hid hx
    clear hx
    obtain ⟨x43, hx⟩ : ∃ x : Value, x = V rr := ⟨_, rfl⟩
    have X43 := Lib.hid hx
    clear hx
    obtain ⟨x44, hx⟩ : ∃ x : Value, x = .bool true := ⟨_, rfl⟩
    have X44 := Lib.hid hx
    clear hx
    obtain ⟨x45, hx⟩ : ∃ x : Value, x = .bool true := ⟨_, rfl⟩
    have X45 := Lib.hid hx
    clear hx
    obtain ⟨x6, hx⟩ : ∃ x : Value, x = .bool true := ⟨_, rfl⟩
    have X6 := Lib.hid hx
    clear hx
    refine wp_region_inv (fun a0 l a' w' => a' = (Act.put (fill a0 30 [sel (l 0) x30 undef, sel (l 1) x31 undef, sel (l 2) x32 undef, sel (l 3) x33 undef, sel (l 4) x34 undef, sel (l 5) x35 undef, sel (l 6) x36 undef, sel (l 7) x37 undef, sel (l 8) x38 undef, sel (l 9) x39 undef, sel (l 10) x40 undef, sel (l 11) x41 undef, sel (l 12) x42 undef, sel (l 13) x43 undef, sel (l 14) x44 undef, sel (l 15) x45 undef]) (some 6) (sel (l 16) x6 (.bool false))) ∧ Off (fun _ => False) u3 w') (by kernel_rfl) (by kernel_rfl) ?_ ⟨?_, ?_, ?_, ?_, ?_, ?_, ?_, ?_, ?_, ?_, ?_, ?_, ?_, ?_, ?_, ?_, ?_, trivial⟩ ?_
    · refine ⟨?_, (Off.refl _ u3).drew⟩
      simp only [fill_eq, List.take_succ_cons, List.take_zero, List.cons_append, List.nil_append, Act.put, List.setIfInBounds_toArray, List.set_cons_zero, List.set_cons_succ, sel_start]
    · as_aux_lemma =>
        rintro l a wr ⟨ha, hO⟩ hl hd K' hK
        have hx := X30.out; subst hx
        simp only [fill_eq, List.take_succ_cons, List.take_zero, List.cons_append, List.nil_append, Act.put, List.setIfInBounds_toArray, List.set_cons_zero, List.set_cons_succ] at ha
        subst ha
        rw [if_pos (by rfl)]
        go_simp
        refine (held_inv (FAL.out wr (HTW.out wr hO)) hO).mono ?_
        rintro e w1 ⟨rfl, hO1, hOW⟩
        go_wp2_with fail
        refine hK.out _ _ ⟨?_, hO1⟩
        simp only [fill_eq, List.take_succ_cons, List.take_zero, List.cons_append, List.nil_append, Act.put, List.setIfInBounds_toArray, List.set_cons_zero, List.set_cons_succ, sel_new]
        rfl
    · as_aux_lemma =>
        rintro l a wr ⟨ha, hO⟩ hl hd K' hK
        have d0 := hd 0 (by decide)
        have hx := X30.out; subst hx
        have hx := X31.out; subst hx
        simp only [fill_eq, List.take_succ_cons, List.take_zero, List.cons_append, List.nil_append, Act.put, List.setIfInBounds_toArray, List.set_cons_zero, List.set_cons_succ, sel_of d0] at ha
        subst ha
        rw [if_pos (by rfl)]
        go_simp
        refine hK.out _ _ ⟨?_, hO⟩
        simp only [fill_eq, List.take_succ_cons, List.take_zero, List.cons_append, List.nil_append, Act.put, List.setIfInBounds_toArray, List.set_cons_zero, List.set_cons_succ, sel_new, sel_dep d0]
        rfl
    · as_aux_lemma =>
        rintro l a wr ⟨ha, hO⟩ hl hd K' hK
        have d1 := hd 1 (by decide)
        have hx := X31.out; subst hx
        have hx := X32.out; subst hx
        simp only [fill_eq, List.take_succ_cons, List.take_zero, List.cons_append, List.nil_append, Act.put, List.setIfInBounds_toArray, List.set_cons_zero, List.set_cons_succ, sel_of d1] at ha
        subst ha
        have hc := HK.out wr hO
        have p0 := hc.1.1
        have p1 := hc.1.2.1
        have p2 := hc.1.2.2.1
        have p3 := hc.1.2.2.2.1
        have p4 := hc.1.2.2.2.2.1
        have p5 := hc.1.2.2.2.2.2.1
        have p6 := hc.1.2.2.2.2.2.2.1
        have p7 := hc.1.2.2.2.2.2.2.2.1
        have p8 := hc.1.2.2.2.2.2.2.2.2.1
        have p9 := hc.1.2.2.2.2.2.2.2.2.2.1
        have p10 := hc.1.2.2.2.2.2.2.2.2.2.2.1
        have p11 := hc.1.2.2.2.2.2.2.2.2.2.2.2.1
        have p12 := hc.1.2.2.2.2.2.2.2.2.2.2.2.2.1
        have p13 := hc.1.2.2.2.2.2.2.2.2.2.2.2.2.2
        clear hc
        rw [if_pos (by rfl)]
        go_simp
        refine hK.out _ _ ⟨?_, hO⟩
        simp only [fill_eq, List.take_succ_cons, List.take_zero, List.cons_append, List.nil_append, Act.put, List.setIfInBounds_toArray, List.set_cons_zero, List.set_cons_succ, sel_new, sel_dep d1]
        rfl
    · as_aux_lemma =>
        rintro l a wr ⟨ha, hO⟩ hl hd K' hK
        have d1 := hd 1 (by decide)
        have hx := X31.out; subst hx
        have hx := X33.out; subst hx
        simp only [fill_eq, List.take_succ_cons, List.take_zero, List.cons_append, List.nil_append, Act.put, List.setIfInBounds_toArray, List.set_cons_zero, List.set_cons_succ, sel_of d1] at ha
        subst ha
        rw [if_pos (by rfl)]
        go_simp
        refine hK.out _ _ ⟨?_, hO⟩
        simp only [fill_eq, List.take_succ_cons, List.take_zero, List.cons_append, List.nil_append, Act.put, List.setIfInBounds_toArray, List.set_cons_zero, List.set_cons_succ, sel_new, sel_dep d1]
        rfl
    · as_aux_lemma =>
        rintro l a wr ⟨ha, hO⟩ hl hd K' hK
        have d1 := hd 1 (by decide)
        have hx := X31.out; subst hx
        have hx := X34.out; subst hx
        simp only [fill_eq, List.take_succ_cons, List.take_zero, List.cons_append, List.nil_append, Act.put, List.setIfInBounds_toArray, List.set_cons_zero, List.set_cons_succ, sel_of d1] at ha
        subst ha
        have hc := HK.out wr hO
        have p0 := hc.2.1.1
        have p1 := hc.2.1.2.1
        have p2 := hc.2.1.2.2.1
        have p3 := hc.2.1.2.2.2
        clear hc
        rw [if_pos (by rfl)]
        go_simp
        refine hK.out _ _ ⟨?_, hO⟩
        simp only [fill_eq, List.take_succ_cons, List.take_zero, List.cons_append, List.nil_append, Act.put, List.setIfInBounds_toArray, List.set_cons_zero, List.set_cons_succ, sel_new, sel_dep d1]
        rfl
    · as_aux_lemma =>
        rintro l a wr ⟨ha, hO⟩ hl hd K' hK
        have d1 := hd 1 (by decide)
        have hx := X31.out; subst hx
        have hx := X35.out; subst hx
        simp only [fill_eq, List.take_succ_cons, List.take_zero, List.cons_append, List.nil_append, Act.put, List.setIfInBounds_toArray, List.set_cons_zero, List.set_cons_succ, sel_of d1] at ha
        subst ha
        have hc := HK.out wr hO
        have p0 := hc.2.2.1.1
        have p1 := hc.2.2.1.2.1
        have p2 := hc.2.2.1.2.2.1
        have p3 := hc.2.2.1.2.2.2
        clear hc
        rw [if_pos (by rfl)]
        go_simp
        refine hK.out _ _ ⟨?_, hO⟩
        simp only [fill_eq, List.take_succ_cons, List.take_zero, List.cons_append, List.nil_append, Act.put, List.setIfInBounds_toArray, List.set_cons_zero, List.set_cons_succ, sel_new, sel_dep d1]
        rfl
    · as_aux_lemma =>
        rintro l a wr ⟨ha, hO⟩ hl hd K' hK
        have d1 := hd 1 (by decide)
        have d4 := hd 4 (by decide)
        have d5 := hd 5 (by decide)
        have hx := X31.out; subst hx
        have hx := X34.out; subst hx
        have hx := X35.out; subst hx
        have hx := X36.out; subst hx
        simp only [fill_eq, List.take_succ_cons, List.take_zero, List.cons_append, List.nil_append, Act.put, List.setIfInBounds_toArray, List.set_cons_zero, List.set_cons_succ, sel_of d1, sel_of d4, sel_of d5] at ha
        subst ha
        rw [if_pos (by rfl)]
        go_simp
        refine (held_inv (FFc.out wr) hO).mono ?_
        rintro e w1 ⟨rfl, hO1, hOW⟩
        go_wp2_with fail
        refine hK.out _ _ ⟨?_, hO1⟩
        simp only [fill_eq, List.take_succ_cons, List.take_zero, List.cons_append, List.nil_append, Act.put, List.setIfInBounds_toArray, List.set_cons_zero, List.set_cons_succ, sel_new, sel_dep d1, sel_dep d4, sel_dep d5]
        rfl
    · as_aux_lemma =>
        rintro l a wr ⟨ha, hO⟩ hl hd K' hK
        have d1 := hd 1 (by decide)
        have d2 := hd 2 (by decide)
        have d3 := hd 3 (by decide)
        have d6 := hd 6 (by decide)
        have hx := X31.out; subst hx
        have hx := X32.out; subst hx
        have hx := X33.out; subst hx
        have hx := X36.out; subst hx
        have hx := X37.out; subst hx
        simp only [fill_eq, List.take_succ_cons, List.take_zero, List.cons_append, List.nil_append, Act.put, List.setIfInBounds_toArray, List.set_cons_zero, List.set_cons_succ, sel_of d1, sel_of d2, sel_of d3, sel_of d6] at ha
        subst ha
        rw [if_pos (by rfl)]
        go_simp
        refine (held_inv (FE2.out wr hO) hO).mono ?_
        rintro e w1 ⟨rfl, hO1, hOW⟩
        go_wp2_with fail
        refine hK.out _ _ ⟨?_, hO1⟩
        simp only [fill_eq, List.take_succ_cons, List.take_zero, List.cons_append, List.nil_append, Act.put, List.setIfInBounds_toArray, List.set_cons_zero, List.set_cons_succ, sel_new, sel_dep d1, sel_dep d2, sel_dep d3, sel_dep d6]
        rfl
    · as_aux_lemma =>
        rintro l a wr ⟨ha, hO⟩ hl hd K' hK
        have d1 := hd 1 (by decide)
        have hx := X31.out; subst hx
        have hx := X38.out; subst hx
        simp only [fill_eq, List.take_succ_cons, List.take_zero, List.cons_append, List.nil_append, Act.put, List.setIfInBounds_toArray, List.set_cons_zero, List.set_cons_succ, sel_of d1] at ha
        subst ha
        have hc := HK.out wr hO
        have p0 := hc.2.1.1
        have p1 := hc.2.1.2.1
        have p2 := hc.2.1.2.2.1
        have p3 := hc.2.1.2.2.2
        clear hc
        rw [if_pos (by rfl)]
        go_simp
        refine hK.out _ _ ⟨?_, hO⟩
        simp only [fill_eq, List.take_succ_cons, List.take_zero, List.cons_append, List.nil_append, Act.put, List.setIfInBounds_toArray, List.set_cons_zero, List.set_cons_succ, sel_new, sel_dep d1]
        rfl
    · as_aux_lemma =>
        rintro l a wr ⟨ha, hO⟩ hl hd K' hK
        have d1 := hd 1 (by decide)
        have hx := X31.out; subst hx
        have hx := X39.out; subst hx
        simp only [fill_eq, List.take_succ_cons, List.take_zero, List.cons_append, List.nil_append, Act.put, List.setIfInBounds_toArray, List.set_cons_zero, List.set_cons_succ, sel_of d1] at ha
        subst ha
        have hc := HK.out wr hO
        have p0 := hc.2.1.1
        have p1 := hc.2.1.2.1
        have p2 := hc.2.1.2.2.1
        have p3 := hc.2.1.2.2.2
        clear hc
        rw [if_pos (by rfl)]
        go_simp
        refine hK.out _ _ ⟨?_, hO⟩
        simp only [fill_eq, List.take_succ_cons, List.take_zero, List.cons_append, List.nil_append, Act.put, List.setIfInBounds_toArray, List.set_cons_zero, List.set_cons_succ, sel_new, sel_dep d1]
        rfl
    · as_aux_lemma =>
        rintro l a wr ⟨ha, hO⟩ hl hd K' hK
        have d1 := hd 1 (by decide)
        have hx := X31.out; subst hx
        have hx := X40.out; subst hx
        simp only [fill_eq, List.take_succ_cons, List.take_zero, List.cons_append, List.nil_append, Act.put, List.setIfInBounds_toArray, List.set_cons_zero, List.set_cons_succ, sel_of d1] at ha
        subst ha
        rw [if_pos (by rfl)]
        go_simp
        refine hK.out _ _ ⟨?_, hO⟩
        simp only [fill_eq, List.take_succ_cons, List.take_zero, List.cons_append, List.nil_append, Act.put, List.setIfInBounds_toArray, List.set_cons_zero, List.set_cons_succ, sel_new, sel_dep d1]
        rfl
    · as_aux_lemma =>
        rintro l a wr ⟨ha, hO⟩ hl hd K' hK
        have d1 := hd 1 (by decide)
        have hx := X31.out; subst hx
        have hx := X41.out; subst hx
        simp only [fill_eq, List.take_succ_cons, List.take_zero, List.cons_append, List.nil_append, Act.put, List.setIfInBounds_toArray, List.set_cons_zero, List.set_cons_succ, sel_of d1] at ha
        subst ha
        have hc := HK.out wr hO
        have p0 := hc.2.2.1.1
        have p1 := hc.2.2.1.2.1
        have p2 := hc.2.2.1.2.2.1
        have p3 := hc.2.2.1.2.2.2
        clear hc
        rw [if_pos (by rfl)]
        go_simp
        refine hK.out _ _ ⟨?_, hO⟩
        simp only [fill_eq, List.take_succ_cons, List.take_zero, List.cons_append, List.nil_append, Act.put, List.setIfInBounds_toArray, List.set_cons_zero, List.set_cons_succ, sel_new, sel_dep d1]
        rfl
    · as_aux_lemma =>
        rintro l a wr ⟨ha, hO⟩ hl hd K' hK
        have d1 := hd 1 (by decide)
        have d9 := hd 9 (by decide)
        have d10 := hd 10 (by decide)
        have d11 := hd 11 (by decide)
        have hx := X31.out; subst hx
        have hx := X39.out; subst hx
        have hx := X40.out; subst hx
        have hx := X41.out; subst hx
        have hx := X42.out; subst hx
        simp only [fill_eq, List.take_succ_cons, List.take_zero, List.cons_append, List.nil_append, Act.put, List.setIfInBounds_toArray, List.set_cons_zero, List.set_cons_succ, sel_of d1, sel_of d9, sel_of d10, sel_of d11] at ha
        subst ha
        rw [if_pos (by rfl)]
        go_simp
        refine (held_inv (FR2.out wr hO) hO).mono ?_
        rintro e w1 ⟨rfl, hO1, hOW⟩
        go_wp2_with fail
        refine hK.out _ _ ⟨?_, hO1⟩
        simp only [fill_eq, List.take_succ_cons, List.take_zero, List.cons_append, List.nil_append, Act.put, List.setIfInBounds_toArray, List.set_cons_zero, List.set_cons_succ, sel_new, sel_dep d1, sel_dep d9, sel_dep d10, sel_dep d11]
        rfl
    · as_aux_lemma =>
        rintro l a wr ⟨ha, hO⟩ hl hd K' hK
        have d1 := hd 1 (by decide)
        have d8 := hd 8 (by decide)
        have d12 := hd 12 (by decide)
        have hx := X31.out; subst hx
        have hx := X38.out; subst hx
        have hx := X42.out; subst hx
        have hx := X43.out; subst hx
        simp only [fill_eq, List.take_succ_cons, List.take_zero, List.cons_append, List.nil_append, Act.put, List.setIfInBounds_toArray, List.set_cons_zero, List.set_cons_succ, sel_of d1, sel_of d8, sel_of d12] at ha
        subst ha
        rw [if_pos (by rfl)]
        go_simp
        refine (held_inv (FFe.out wr) hO).mono ?_
        rintro e w1 ⟨rfl, hO1, hOW⟩
        go_wp2_with fail
        refine hK.out _ _ ⟨?_, hO1⟩
        simp only [fill_eq, List.take_succ_cons, List.take_zero, List.cons_append, List.nil_append, Act.put, List.setIfInBounds_toArray, List.set_cons_zero, List.set_cons_succ, sel_new, sel_dep d1, sel_dep d8, sel_dep d12]
        rfl
    · as_aux_lemma =>
        rintro l a wr ⟨ha, hO⟩ hl hd K' hK
        have d1 := hd 1 (by decide)
        have d7 := hd 7 (by decide)
        have d13 := hd 13 (by decide)
        have hx := X31.out; subst hx
        have hx := X37.out; subst hx
        have hx := X43.out; subst hx
        have hx := X44.out; subst hx
        simp only [fill_eq, List.take_succ_cons, List.take_zero, List.cons_append, List.nil_append, Act.put, List.setIfInBounds_toArray, List.set_cons_zero, List.set_cons_succ, sel_of d1, sel_of d7, sel_of d13] at ha
        subst ha
        rw [if_pos (by rfl)]
        go_simp
        refine hK.out _ _ ⟨?_, hO⟩
        simp only [fill_eq, List.take_succ_cons, List.take_zero, List.cons_append, List.nil_append, Act.put, List.setIfInBounds_toArray, List.set_cons_zero, List.set_cons_succ, sel_new, sel_dep d1, sel_dep d7, sel_dep d13]
        rfl
    · as_aux_lemma =>
        rintro l a wr ⟨ha, hO⟩ hl hd K' hK
        have d1 := hd 1 (by decide)
        have d14 := hd 14 (by decide)
        have hx := X31.out; subst hx
        have hx := X44.out; subst hx
        have hx := X45.out; subst hx
        simp only [fill_eq, List.take_succ_cons, List.take_zero, List.cons_append, List.nil_append, Act.put, List.setIfInBounds_toArray, List.set_cons_zero, List.set_cons_succ, sel_of d1, sel_of d14] at ha
        subst ha
        rw [if_pos (by rfl)]
        go_simp
        refine hK.out _ _ ⟨?_, hO⟩
        simp only [fill_eq, List.take_succ_cons, List.take_zero, List.cons_append, List.nil_append, Act.put, List.setIfInBounds_toArray, List.set_cons_zero, List.set_cons_succ, sel_new, sel_dep d1, sel_dep d14]
        rfl
    · as_aux_lemma =>
        rintro l a wr ⟨ha, hO⟩ hl hd K' hK
        have d15 := hd 15 (by decide)
        have hx := X45.out; subst hx
        have hx := X6.out; subst hx
        simp only [fill_eq, List.take_succ_cons, List.take_zero, List.cons_append, List.nil_append, Act.put, List.setIfInBounds_toArray, List.set_cons_zero, List.set_cons_succ, sel_of d15] at ha
        subst ha
        rw [if_pos (by rfl)]
        go_simp
        refine hK.out _ _ ⟨?_, hO⟩
        simp only [fill_eq, List.take_succ_cons, List.take_zero, List.cons_append, List.nil_append, Act.put, List.setIfInBounds_toArray, List.set_cons_zero, List.set_cons_succ, sel_new, sel_dep d15]
        rfl
    · rintro l a wc ⟨ha, hO⟩ hd
      simp only [fill_eq, List.take_succ_cons, List.take_zero, List.cons_append, List.nil_append, Act.put, List.setIfInBounds_toArray, List.set_cons_zero, List.set_cons_succ, sel_of (hd 0 (by decide)), sel_of (hd 1 (by decide)), sel_of (hd 2 (by decide)), sel_of (hd 3 (by decide)), sel_of (hd 4 (by decide)), sel_of (hd 5 (by decide)), sel_of (hd 6 (by decide)), sel_of (hd 7 (by decide)), sel_of (hd 8 (by decide)), sel_of (hd 9 (by decide)), sel_of (hd 10 (by decide)), sel_of (hd 11 (by decide)), sel_of (hd 12 (by decide)), sel_of (hd 13 (by decide)), sel_of (hd 14 (by decide)), sel_of (hd 15 (by decide)), sel_of (hd 16 (by decide))] at ha
      subst ha
      have hx := X6.out; subst hx
      have HOf := Lib.hid (HOw.out.trans hO (fun _ _ c => c))
      clear hO hd
      go_wp2
      go_ret
      exact ⟨rfl, HOf.out⟩

theorem door_met (os : Os) (args : Array Value) : laidMetH Tryd.prog [("sharecore/field.fields", Rows.laid_sharecore_field_fields)] ((World.doorLaid Tryd.prog 400 os).forCall (fun _ _ => 0) ⟨#[], args, []⟩).memory :=
  laidMetH_of_parts3 (fuel := 8) (laidMet_of_run' 8 (by kernel_rfl) (by kernel_rfl)) (by kernel_rfl) (by kernel_rfl)

set_option maxRecDepth 100000 in
theorem lifted (os : Os) (started : os.Started) (H : Type) (enc : TypeId × Value → H) :
    ReturnsInHanded {} Tryd.checked os 3 .any (fun w args => (Rows.polyEvaluatesSpec.pre enc Tryd.prog Tryd.f3 [] false w args ∧ laidMetH Tryd.prog [("sharecore/field.fields", Rows.laid_sharecore_field_fields)] w) ∧ sizedMet enc Tryd.prog Tryd.f3 (OpenSpec.ofChange Rows.polyEvaluatesSpec) false w args)
      (Rows.polyEvaluatesSpec.post enc Tryd.prog Tryd.f3 false true false false) := by
  refine returnsInHanded_of_change_and (C := Tryd.checked) (X := fun w _ => laidMetH Tryd.prog [("sharecore/field.fields", Rows.laid_sharecore_field_fields)] w) (fun _ _ _ hh h => h.of_heap hh) own started (by kernel_rfl) Tryd.func3
    (ChangeSpec.witness_shaped (enc := enc) (C := Tryd.checked) (os := os) (X := fun w _ => laidMetH Tryd.prog [("sharecore/field.fields", Rows.laid_sharecore_field_fields)] w) false (World.doorLaid Tryd.prog 400 os) #[.bool false, .slice none 0 0, .agg #[.int .u64 0, .int .u64 0, .int .u64 0, .int .u64 0]] 8 rfl (World.shaped_of_RefB (by kernel_rfl) (by kernel_rfl)) (by kernel_rfl) (by kernel_rfl) (by kernel_rfl) (door_met os _)) ?_
  intro W base args ds gs before hval0 hW _ _ hL _
  have hval : ∀ (j : Nat) t v, Tryd.f3.params[j]? = some t → args[j]? = some v → Value.okWide Tryd.prog W .any base t v := hval0
  have hW' := hW
  obtain ⟨p, q, hA0, hV, rfl, hfz, hnd⟩ := hW
  have hA : DataW.TrodAll enc Tryd.prog W 0 (fun _ => true) true Tryd.f3.params.toList args.toList ds p := hA0
  rw [Tryd.params3] at hA hval
  obtain ⟨v0, vs0, d0, ds0, p0, q0, hargs, rfl, rfl, h0, r0⟩ := trodAll_cons hA
  obtain ⟨v1, vs1, d1, ds1, p1, q1, rfl, rfl, rfl, h1, r1⟩ := trodAll_cons r0
  obtain ⟨v2, vs2, d2, ds2, p2, q2, rfl, rfl, rfl, h2, r2⟩ := trodAll_cons r1
  obtain ⟨rfl, rfl, rfl⟩ := trodAll_nil r2
  obtain rfl : args = #[v0, v1, v2] := by cases args; simp_all
  obtain ⟨rfl, rfl⟩ := trodVars_none hV
  obtain ⟨i0, rfl, rfl, rfl⟩ := open_bool Tryd.underlying4 (hval 0 4 v0 rfl rfl) h0
  have w0 := trivial
  obtain ⟨a1, n1, cap1, rfl⟩ := okWide_slice Tryd.underlying22 (hval 1 22 v1 rfl rfl)
  have k1 := h1
  have lt1 : ∀ x ∈ p1, x.block < W.heap.size := by obtain ⟨m, hm⟩ := k1; exact DataW.trod_lt m _ _ _ hm
  obtain ⟨xs1, hn1, w1⟩ : ∃ xs, n1 = xs.length ∧ VsAt W (.slice a1 n1 cap1) xs (fun k => k < W.heap.size) := by
    obtain ⟨fuel, hf⟩ := h1
    exact vecs_of_trod hf
  have k2 := h2
  have lt2 : ∀ x ∈ p2, x.block < W.heap.size := by obtain ⟨m, hm⟩ := k2; exact DataW.trod_lt m _ _ _ hm
  obtain ⟨n2, w2, rfl⟩ := open_vec (hval 2 24 v2 rfl rfl) h2
  have hT := tab_of_laid hL
  clear hA0 hval0
  refine (walk i0 a1 n1 cap1 xs1 n2 W w0 hn1 w1 w2 hT).mono fun e W' ⟨he, hoff⟩ => ?_
  have bel : Below W.heap.size W W' := hoff.below (Nat.le_refl _) (fun _ _ c => c)
  subst he
  exact ⟨_, rfl, _, _, _, [], _, [], hW', trodAll_mk1 (shut_bool Tryd.underlying4 _), (trodAll_cons_mk (shut_bool Tryd.underlying4 _) (trodAll_cons_mk (Below.trod laidOut (by kernel_rfl) (of_decide_eq_true (by kernel_rfl)) k1 bel lt1) (trodAll_cons_mk (Below.trod laidOut (by kernel_rfl) (of_decide_eq_true (by kernel_rfl)) k2 bel lt2) trodAll_mk0))), rfl, bel.frame _, fun h => by cases h⟩

theorem over : Rows.polyEvaluatesRow.holds Tryd.pinned (OpenSpec.ofChange Rows.polyEvaluatesSpec) :=
  OpenClaim.holds_of_wide 3 Tryd.f3 rfl rfl rfl rfl rfl rfl rfl ⟨rfl, rfl, rfl, rfl, rfl⟩ rfl rfl rfl rfl rfl (by kernel_rfl) Tryd.func3 (by kernel_rfl)
    (of_decide_eq_true (by kernel_rfl)) (by unfold Func.isWrapper; first | (rw [if_pos (by decide +kernel)]; kernel_rfl) | (rw [if_neg (by decide +kernel)]; exact ⟨rfl, rfl⟩))
    (fun os started H enc _ => lifted os started H enc)

theorem proved : Rows.PolyEvaluatesCardSaid :=
  Claim7.holds_tied_plain_at .later [] [.data] true (true, "3d840ffc59f1f7eb92e6625ecf38349f13a4c620ea70c2d1380fae53a4373fdd") false
    over (fun _ h => by cases h) (by kernel_rfl) (fun _ h => by cases h) polyEvaluates_row_tie rfl ⟨rfl, rfl⟩ (by kernel_rfl) rfl
    (fun f fn hf hfn => by
      obtain rfl : f = 3 := Option.some.inj ((show Tryd.prog.funcNamed "sharecore/sharecorelaw08.PolyEvaluates" = some 3 by kernel_rfl).symm.trans hf) |>.symm
      obtain rfl : fn = Tryd.f3 := (Option.some.inj (Tryd.func3.symm.trans hfn)).symm
      exact ⟨by kernel_rfl, fun j t ht => by
        rw [Tryd.params3] at ht
        have hm : t ∈ [4, 22, 24] := by simpa using Array.mem_of_getElem? ht
        have hall : ([4, 22, 24].all fun u => !Tryd.prog.wantsStandIn u) = true := by kernel_rfl
        exact (show Tryd.prog.wantsStandIn t = false by simpa using List.all_eq_true.1 hall t hm)⟩)
    (by kernel_rfl)
#print axioms proved
end Go.Proofs.YtiemajbcmmbjbaaDoor.polyEvaluates
