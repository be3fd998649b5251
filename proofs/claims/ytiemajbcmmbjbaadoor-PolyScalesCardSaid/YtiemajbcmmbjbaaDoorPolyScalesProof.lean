/-
  For every field, polynomial and number, the examples of the chapter hold, Scale returns the multiple, and the polynomial stays: the statement of P8.2. No condition.
-/
import Derived.Test.YtiemajbcmmbjbaaDoorRows
import Derived.Test.YtiemajbcmmbjbaaDoorTie
import Derived.Test.YtiemajbcmmbjbaaDoorCards
import Derived.LaidMore
import Derived.LaidHandle
import Derived.SevenTiedAt
import Derived.Stop.Joined
import Derived.JoinedOf
import Derived.Test.YtiemajbcmmbjbaaDoorLimbWords
import Derived.Test.YtiemajbcmmbjbaaDoorVecOpen
import Derived.Test.YtiemajbcmmbjbaaDoorFieldTab
import Derived.Test.YtiemajbcmmbjbaaDoorFieldHeld
import Derived.Test.YtiemajbcmmbjbaaDoorPolAlive
import Derived.WalkKit
import Derived.ProofKit
import Derived.OpenShut
import Derived.ShutString
import Derived.ChangeOld
import Derived.Below
namespace Go.Proofs.YtiemajbcmmbjbaaDoor.polyScales
open Go.ChangeShapes Go.WideShapes Go.ChangeAt Go.RowKit
set_option linter.unusedVariables false

theorem own : ownKnob Tryd.prog.godebug = none := by kernel_rfl
theorem laidOut : laidOutB Tryd.prog = true := by kernel_rfl

theorem mods_lt {p : Nat} (h : 0 < p) (xs : List Nat) : ∀ v ∈ xs.map (· % p), v < p := by
  intro v hv
  obtain ⟨x, _, rfl⟩ := List.mem_map.1 hv
  exact Nat.mod_lt _ h
set_option maxRecDepth 100000 in
set_option maxHeartbeats 4000000 in
theorem walk (i0 : Bool) (a1 : Option Addr) (n1 cap1 : Nat) (xs1 : List Nat) (n2 : Nat) (w : World) (w0 : True) (hn1 : n1 = xs1.length) (w1 : VsAt w (.slice a1 n1 cap1) xs1 (fun k => k < w.heap.size)) (w2 : n2 < R256) (hT : TabAt w) :
    Calls Tryd.prog 5 #[.bool i0, .slice a1 n1 cap1, V n2] w fun e w' => e = .returned (.bool true) ∧ Off (fun _ => False) w w' := by
  obtain ⟨id, p, i, r, s, hF, hid⟩ := fld_of i0
  have hp := hF.mp.lt
  have h1 := hF.mp.one
  have hp0 : 0 < p := by omega
  have FG := Lib.hid (fun W hT => get8_any i0 hF hid W hT)
  have FAL : Hid (∀ W, TabAt W → Calls Tryd.prog 9 #[] W fun e w' => e = .returned (.bool true) ∧ Off (fun _ => False) W w') := Lib.hid (fun W hT => alive8_any W hT)
  obtain ⟨hnl1, hnm1, hxs1⟩ := w1.len
  by_cases hbig : 12 < n1
  · have hbi : decide ((12 : Int) < (n1 : Int)) = true := by simp; omega
    have hbp : (12 : Int) < (n1 : Int) := by omega
    clear hn1 hnl1 hnm1 hxs1 hbig hF hid hp h1 hp0 FG
    go_enter Tryd.func5, Tryd.ntmps5
    go_wp2_with fail
    refine (FAL.out _ (hT.off ((Off.refl _ w).alloc _))).mono ?_
    rintro e u0 ⟨rfl, hO⟩
    have HO := Lib.hid (((Off.refl _ w).alloc _ : Off (fun _ => False) w _).trans hO (fun _ _ c => c))
    clear hO
    go_wp2
    go_ret
    exact ⟨rfl, HO.out⟩
  · have hbi : decide ((12 : Int) < (n1 : Int)) = false := by simp; omega
    have hbp : ¬ (12 : Int) < (n1 : Int) := by omega
    obtain ⟨vs, hvs⟩ : ∃ l, l = xs1.map (· % p) := ⟨_, rfl⟩
    have hvsl : vs.length = n1 := by rw [hvs, List.length_map]; exact hnl1.symm
    have hvsp : ∀ v ∈ vs, v < p := by rw [hvs]; exact mods_lt hp0 xs1
    have FV1 := Lib.hid (show ∀ W v, Ls W v xs1 → Calls Tryd.prog 11 #[V p, v] W fun e w' => ∃ z1 z2, e = .returned (.tuple #[z1, z2]) ∧ Ls w' z1 vs ∧ Ls w' z2 (vs.map (fm p)) ∧ Off (fun _ => False) W w' from fun W v h => by rw [hvs]; exact values_any hp h1 xs1 hxs1 (by omega) v W h)
    have HL1 := Lib.hid (ls_of_vs w1 (by omega))
    obtain ⟨c, hc⟩ : ∃ c, c = n2 % p := ⟨_, rfl⟩
    have hcp : c < p := by rw [hc]; exact Nat.mod_lt _ hp0
    have FMo := Lib.hid (show ∀ W, Calls Tryd.prog 12 #[V p, V n2] W fun e w' => e = .returned (V c) ∧ Off (fun _ => False) W w' from fun W => by rw [hc]; exact mod_mod p n2 hp h1 w2 W)
    obtain ⟨sc, hsc⟩ : ∃ l, l = scaL p vs c := ⟨_, rfl⟩
    have hscl : sc.length = n1 := by rw [hsc]; unfold scaL; rw [List.length_map]; exact hvsl
    obtain ⟨y, hy⟩ : ∃ y, y = fm p c := ⟨_, rfl⟩
    have FFc := Lib.hid (show ∀ W, Calls Tryd.prog 14 #[V p, V c] W fun e w' => e = .returned (V y) ∧ Off (fun _ => False) W w' from fun W => by rw [hy]; exact form8_any p c hp h1 (by omega) W)
    have FSc := Lib.hid (show ∀ W v, Ls W v (vs.map (fm p)) → Calls Tryd.prog 22 #[.pointer none, FV id p i r s, v, V y] W fun e w' => ∃ z, e = .returned z ∧ Ls w' z (sc.map (fm p)) ∧ Off (fun _ => False) W w' from fun W v h => by rw [hy, hsc]; exact scale_ls hF vs (by omega) c v W h)
    have FMl := Lib.hid (show ∀ a, a < p → ∀ W, Calls Tryd.prog 21 #[V p, V a, V c] W fun e w' => e = .returned (V (a * c % p)) ∧ Off (fun _ => False) W w' from fun a ha W => mod_mul p a c hp h1 ha (by omega) W)
    have FSs := Lib.hid (show ∀ W u v, Ls W u (sc.map (fm p)) → Ls W v sc → Calls Tryd.prog 16 #[V p, u, v] W fun e w' => e = .returned (.bool true) ∧ Off (fun _ => False) W w' from fun W u v h k => same8_any hp h1 sc (by rw [hsc]; intro x hx; unfold scaL at hx; obtain ⟨z, _, rfl⟩ := List.mem_map.1 hx; exact Nat.lt_trans (Nat.mod_lt _ hp0) hp) u v W h k)
    have FSv := Lib.hid (show ∀ W u v, Ls W u (vs.map (fm p)) → Ls W v vs → Calls Tryd.prog 16 #[V p, u, v] W fun e w' => e = .returned (.bool true) ∧ Off (fun _ => False) W w' from fun W u v h k => same8_any hp h1 vs (fun x hx => Nat.lt_trans (hvsp x hx) hp) u v W h k)
    have HSg := Lib.hid (show ∀ k a, vs[k]? = some a → sc[k]? = some (a * c % p) from fun k a h => by rw [hsc]; unfold scaL; rw [List.getElem?_map, h]; rfl)
    have HVp := Lib.hid hvsp
    have HVl := Lib.hid hvsl
    have HSl := Lib.hid hscl
    have hn12 : n1 ≤ 12 := by omega
    obtain ⟨j0, hj, hj0, hj1, hj2⟩ := info_parts vec_info
    clear hy hsc hscl
    have HTw := Lib.hid hT
    clear hvs hc hF hid hxs1 hnm1 hbig hn1 hnl1 hvsl hvsp
    go_enter Tryd.func5, Tryd.ntmps5
    go_wp2_with fail
    refine (FG.out _ (hT.off ((Off.refl _ w).alloc _))).mono ?_
    rintro e u0 ⟨rfl, hO1⟩
    have hO0 : Off (fun _ => False) w u0 := ((Off.refl _ w).alloc _ : Off (fun _ => False) w _).trans hO1 (fun _ _ c => c)
    have g_n2 : u0.heap[w.heap.size]? = some (.cells #[.int .u64 (wd n2 0 : Int), .int .u64 (wd n2 1 : Int), .int .u64 (wd n2 2 : Int), .int .u64 (wd n2 3 : Int)] 24 (0, 0)) := hO1.heap (heap_new' rfl _) (fun c => c)
    obtain ⟨W1, hW1⟩ : ∃ W1, W1 = (u0.alloc (.cells #[.int .i64 id, .int .u64 (wd p 0 : Int), .int .u64 (wd p 1 : Int), .int .u64 (wd p 2 : Int), .int .u64 (wd p 3 : Int), .int .u64 (i : Int), .int .u64 (wd r 0 : Int), .int .u64 (wd r 1 : Int), .int .u64 (wd r 2 : Int), .int .u64 (wd r 3 : Int), .int .u64 (wd s 0 : Int), .int .u64 (wd s 1 : Int), .int .u64 (wd s 2 : Int), .int .u64 (wd s 3 : Int)] 28)).alloc (.cells #[.int .u64 (wd p 0 : Int), .int .u64 (wd p 1 : Int), .int .u64 (wd p 2 : Int), .int .u64 (wd p 3 : Int)] 24) := ⟨_, rfl⟩
    have o1 : Off (fun _ => False) u0 W1 := by rw [hW1]; exact ((Off.refl _ u0).alloc _).alloc _
    have g_F : W1.heap[u0.heap.size]? = some (.cells #[.int .i64 id, .int .u64 (wd p 0 : Int), .int .u64 (wd p 1 : Int), .int .u64 (wd p 2 : Int), .int .u64 (wd p 3 : Int), .int .u64 (i : Int), .int .u64 (wd r 0 : Int), .int .u64 (wd r 1 : Int), .int .u64 (wd r 2 : Int), .int .u64 (wd r 3 : Int), .int .u64 (wd s 0 : Int), .int .u64 (wd s 1 : Int), .int .u64 (wd s 2 : Int), .int .u64 (wd s 3 : Int)] 28 (0, 0)) := by rw [hW1]; exact heap_old' (heap_new' rfl _) _
    have g_P : W1.heap[u0.heap.size + 1]? = some (.cells #[.int .u64 (wd p 0 : Int), .int .u64 (wd p 1 : Int), .int .u64 (wd p 2 : Int), .int .u64 (wd p 3 : Int)] 24 (0, 0)) := by rw [hW1]; exact heap_new' (by simp) _
    obtain ⟨fb, hfb⟩ : ∃ fb, fb = u0.heap.size := ⟨_, rfl⟩
    obtain ⟨pb, hpb⟩ : ∃ pb, pb = u0.heap.size + 1 := ⟨_, rfl⟩
    rw [← hfb] at g_F
    rw [← hpb] at g_P
    have g_n2 := o1.heap g_n2 (fun c => c)
    have hOw := hO0.trans o1 (fun _ _ c => c)
    clear hO1 hO0 o1
    rw [hW1] at hOw g_n2 g_F g_P
    go_wp2_with fail
    rw [← hW1] at hOw g_n2 g_F g_P ⊢
    rw [← hpb, ← hfb]
    refine (FV1.out _ _ (HL1.out.off hOw)).mono ?_
    rintro e u1 ⟨z1, z2, rfl, h_z1, h_z2, hO1⟩
    have g_n2 := hO1.heap g_n2 (fun c => c)
    have g_F := hO1.heap g_F (fun c => c)
    have g_P := hO1.heap g_P (fun c => c)
    have hOw := hOw.trans hO1 (fun _ _ c => c)
    clear hW1 hfb hpb
    obtain ⟨p0, p1, p2, p3⟩ := cells4 g_P
    obtain ⟨x0, x1, x2, x3⟩ := cells4 g_n2
    have GF := Lib.hid g_F
    have GP := Lib.hid g_P
    have H_z1 := Lib.hid h_z1
    have H_z2 := Lib.hid h_z2
    have HOw := Lib.hid hOw
    clear g_F g_P g_n2 h_z1 h_z2 hOw hO1
    go_wp2_with fail
    refine (FMo.out _).mono ?_
    rintro e u2 ⟨rfl, hO2⟩
    clear p0 p1 p2 p3 x0 x1 x2 x3
    obtain ⟨u3, hu3⟩ : ∃ u3, u3 = u2.alloc (.cells #[.int .u64 (wd c 0 : Int), .int .u64 (wd c 1 : Int), .int .u64 (wd c 2 : Int), .int .u64 (wd c 3 : Int)] 24) := ⟨_, rfl⟩
    obtain ⟨cb, hcb⟩ : ∃ cb, cb = u2.heap.size := ⟨_, rfl⟩
    have hO3 : Off (fun _ => False) u1 u3 := by rw [hu3]; exact hO2.alloc _
    have g_C : u3.heap[cb]? = some (.cells #[.int .u64 (wd c 0 : Int), .int .u64 (wd c 1 : Int), .int .u64 (wd c 2 : Int), .int .u64 (wd c 3 : Int)] 24 (0, 0)) := by rw [hu3, hcb]; exact heap_new' rfl _
    have g_F := hO3.heap GF.out (fun c => c)
    have g_P := hO3.heap GP.out (fun c => c)
    have h_z1 := H_z1.out.off hO3
    have h_z2 := H_z2.out.off hO3
    have hOw := HOw.out.trans hO3 (fun _ _ c => c)
    have HOw := Lib.hid hOw
    have HTW := Lib.hid (fun W (h : Off (fun _ => False) u3 W) => HTw.out.off (hOw.trans h (fun _ _ c => c)))
    have HU := Lib.hid (show u2.alloc (.cells #[.int .u64 (wd c 0 : Int), .int .u64 (wd c 1 : Int), .int .u64 (wd c 2 : Int), .int .u64 (wd c 3 : Int)] 24) = u3 ∧ u2.heap.size = cb from ⟨hu3.symm, hcb.symm⟩)
    clear hO2 hO3 hOw hu3 hcb GF GP H_z1 H_z2
    obtain ⟨az, capz, rfl, _⟩ := h_z1.open
    obtain ⟨nz, hnz⟩ : ∃ nz, nz = vs.length := ⟨_, rfl⟩
    rw [← hnz] at h_z1 ⊢
    have HNz := Lib.hid hnz
    have hnz12 : nz ≤ 12 := by have := HVl.out; omega
    have GF := Lib.hid g_F
    have GP := Lib.hid g_P
    have GC := Lib.hid g_C
    have HZ1 := Lib.hid h_z1
    have HZ2 := Lib.hid h_z2
    clear hnz g_F g_P g_C h_z1 h_z2
    go_wp2
    rw [HU.out.1, HU.out.2]
    go_loopw [12, 35] (fun v i wr => ∃ k : Nat, k ≤ nz ∧ i = .int .i64 (k : Int) ∧ (∃ a c, v = .slice a k c ∧ wr.ownsRow u3.heap.size 24 4 v k (flat4 (sc.take k))) ∧ Off (fun _ => False) u3 wr) (fun _ i _ => nz - (intOf i).toNat)
    case atStart => exact ⟨0, Nat.zero_le _, rfl, ⟨none, 0, rfl, World.ownsRow_nil _ _ _ _⟩, Off.refl _ _⟩
    case round =>
      obtain ⟨k, hk, rfl, ⟨va, vc, rfl, hown⟩, hO⟩ := hrel
      by_cases hlt : k < nz
      · obtain ⟨x, b, off, hxk, rfl, c0, c1, c2, c3⟩ := LsAt.at (HZ1.out.off hO) hlt
        obtain ⟨m, hm⟩ : ∃ m, m = x * c % p := ⟨_, rfl⟩
        have FMx := Lib.hid (fun W => by have h := FMl.out x (HVp.out x (List.mem_of_getElem? hxk)) W; rw [← hm] at h; exact h)
        have hsk : sc[k]? = some m := by rw [hm]; exact HSg.out k x hxk
        have HYt := Lib.hid (show flat4 (sc.take k) ++ words4 m = flat4 (sc.take (k + 1)) by
          obtain ⟨hlk, hxk2⟩ := List.getElem?_eq_some_iff.1 hsk
          rw [List.take_succ_eq_append_getElem hlk, hxk2, flat4_append]; rfl)
        have hP := hO.heap GP.out (fun c => c)
        have hC := hO.heap GC.out (fun c => c)
        obtain ⟨p0, p1, p2, p3⟩ := cells4 hP
        obtain ⟨d0, d1, d2, d3⟩ := cells4 hC
        have hpl := heap_lt hP
        have hcl := heap_lt hC
        have hki : (k : Int) < (nz : Int) := by omega
        have hwk : IntKind.i64.wrap ((k : Int) + 1) = (k : Int) + 1 := by rw [IntKind.wrap_i64]; omega
        have H3 := Lib.hid hown
        have HO := Lib.hid hO
        clear hown hO hxk hm hsk hP hC
        go_wp2_with fail
        clear c0 c1 c2 c3 p0 p1 p2 p3 d0 d1 d2 d3
        refine (FMx.out _).mono ?_
        rintro e u4 ⟨rfl, hO4⟩
        have hOa : Off (fun _ => False) wr u4 := ((Off.refl _ wr).alloc _).trans hO4 (fun _ _ c => c)
        have HO2 := Lib.hid (HO.out.trans hOa (fun _ _ c => c))
        have H4 := Lib.hid (own_off H3.out hOa)
        clear hO4 hOa hpl hcl
        go_wp2_with (at_builtin; refine wpList_append_own _ rfl _ _ 22 rfl u3.heap.size 24 j0 _ 4 32 Tryd.underlying22 hj hj0 hj1 hj2 rfl (by decide) _ k _ rfl (H4.out.alloc _) ⟨u4.heap.size, 0, none⟩ 1 1 (words4 m) rfl rfl ?q1 (words4_one _) ?q2 ?q3 ?q4 ?_)
        case q1 => exact words4_at (heap_new' rfl _)
        case q2 => unfold maxLen; omega
        case q3 => omega
        case q4 => have := HO2.out.size; simp; omega
        intro v' w1 hown' hgrow hnil
        obtain ⟨g', cap', rfl⟩ := ownsRow_succ hown'
        have hO5 : Off (fun _ => False) u3 w1 := grown_off (HO2.out.alloc _) (Nat.le_refl _) (H4.out.alloc _) hgrow
        rw [HYt.out] at hown'
        have HW1 := Lib.hid hown'
        have HO5 := Lib.hid hO5
        clear hown' hgrow hnil hO5
        go_wp2
        go_roundw
        case rel => exact ⟨k + 1, by omega, by simp, ⟨_, _, rfl, HW1.out⟩, HO5.out⟩
        case measure => simp [intOf] <;> omega
      · obtain rfl : k = nz := by omega
        have hw := ls_of_own hown (by rw [List.take_of_length_le (by rw [HSl.out]; have := HNz.out; have := HVl.out; omega), HSl.out]; have := HNz.out; have := HVl.out; omega) (by omega)
        rw [List.take_of_length_le (by rw [HSl.out]; have := HNz.out; have := HVl.out; omega)] at hw
        have hw := Ls.of hw
        obtain ⟨zw, hzw⟩ : ∃ z, z = Value.slice va k vc := ⟨_, rfl⟩
        obtain ⟨zv, hzv⟩ : ∃ z, z = Value.slice az k capz := ⟨_, rfl⟩
        rw [← hzw] at hw ⊢
        have hz1 := HZ1.out.off hO
        have hz2 := HZ2.out.off hO
        rw [← hzv] at hz1
        have FS2 := Lib.hid (show ∀ W, Off (fun _ => False) wr W → _ from fun W h => FSc.out W z2 (hz2.off h))
        have FSw := Lib.hid (show ∀ W u, Off (fun _ => False) wr W → Ls W u (sc.map (fm p)) → _ from fun W u h k => FSs.out W u zw k (hw.off h))
        have FSx := Lib.hid (show ∀ W, Off (fun _ => False) wr W → _ from fun W h => FSv.out W z2 zv (hz2.off h) (hz1.off h))
        have HTX := Lib.hid (fun W (h : Off (fun _ => False) wr W) => HTW.out W (hO.trans h (fun _ _ c => c)))
        have HK : Hid (∀ W', Off (fun _ => False) wr W' → (W'.cell? ⟨fb, 0, none⟩ = some (.int .i64 id) ∧ W'.cell? ⟨fb, 1, none⟩ = some (.int .u64 (wd p 0 : Int)) ∧ W'.cell? ⟨fb, 2, none⟩ = some (.int .u64 (wd p 1 : Int)) ∧ W'.cell? ⟨fb, 3, none⟩ = some (.int .u64 (wd p 2 : Int)) ∧ W'.cell? ⟨fb, 4, none⟩ = some (.int .u64 (wd p 3 : Int)) ∧ W'.cell? ⟨fb, 5, none⟩ = some (.int .u64 (i : Int)) ∧ W'.cell? ⟨fb, 6, none⟩ = some (.int .u64 (wd r 0 : Int)) ∧ W'.cell? ⟨fb, 7, none⟩ = some (.int .u64 (wd r 1 : Int)) ∧ W'.cell? ⟨fb, 8, none⟩ = some (.int .u64 (wd r 2 : Int)) ∧ W'.cell? ⟨fb, 9, none⟩ = some (.int .u64 (wd r 3 : Int)) ∧ W'.cell? ⟨fb, 10, none⟩ = some (.int .u64 (wd s 0 : Int)) ∧ W'.cell? ⟨fb, 11, none⟩ = some (.int .u64 (wd s 1 : Int)) ∧ W'.cell? ⟨fb, 12, none⟩ = some (.int .u64 (wd s 2 : Int)) ∧ W'.cell? ⟨fb, 13, none⟩ = some (.int .u64 (wd s 3 : Int))) ∧ (W'.cell? ⟨pb, 0, none⟩ = some (.int .u64 (wd p 0 : Int)) ∧ W'.cell? ⟨pb, 1, none⟩ = some (.int .u64 (wd p 1 : Int)) ∧ W'.cell? ⟨pb, 2, none⟩ = some (.int .u64 (wd p 2 : Int)) ∧ W'.cell? ⟨pb, 3, none⟩ = some (.int .u64 (wd p 3 : Int))) ∧ (W'.cell? ⟨cb, 0, none⟩ = some (.int .u64 (wd c 0 : Int)) ∧ W'.cell? ⟨cb, 1, none⟩ = some (.int .u64 (wd c 1 : Int)) ∧ W'.cell? ⟨cb, 2, none⟩ = some (.int .u64 (wd c 2 : Int)) ∧ W'.cell? ⟨cb, 3, none⟩ = some (.int .u64 (wd c 3 : Int))) ∧ Off (fun _ => False) wr W') := Lib.hid (fun W' h => ⟨fv_cells (h.heap (hO.heap GF.out (fun c => c)) (fun c => c)), cells4 (h.heap (hO.heap GP.out (fun c => c)) (fun c => c)), cells4 (h.heap (hO.heap GC.out (fun c => c)) (fun c => c)), h⟩)
        have HOq := Lib.hid (HOw.out.trans hO (fun _ _ c => c))
        have HZv := Lib.hid hzv
        clear hown hw hO hzw hz1 hz2 hzv GF GP GC HZ1 HZ2 HTW HOw
        have HTW := HTX
        have HOw := HOq
        obtain ⟨wq, hwq⟩ : ∃ wq, wq = wr := ⟨_, rfl⟩
        subst hwq
        go_upto_region 12 with fail
        rw [← HZv.out]
        obtain ⟨x47, hx⟩ : ∃ x : Value, x = .bool true := ⟨_, rfl⟩
        have X47 := Lib.hid hx
        clear hx
        obtain ⟨x48, hx⟩ : ∃ x : Value, x = .bool true := ⟨_, rfl⟩
        have X48 := Lib.hid hx
        clear hx
        obtain ⟨x49, hx⟩ : ∃ x : Value, x = V p := ⟨_, rfl⟩
        have X49 := Lib.hid hx
        clear hx
        obtain ⟨x50, hx⟩ : ∃ x : Value, x = FV id p i r s := ⟨_, rfl⟩
        have X50 := Lib.hid hx
        clear hx
        obtain ⟨x51, hx⟩ : ∃ x : Value, x = z2 := ⟨_, rfl⟩
        have X51 := Lib.hid hx
        clear hx
        obtain ⟨x52, hx⟩ : ∃ x : Value, x = V p := ⟨_, rfl⟩
        have X52 := Lib.hid hx
        clear hx
        obtain ⟨x53, hx⟩ : ∃ x : Value, x = V c := ⟨_, rfl⟩
        have X53 := Lib.hid hx
        clear hx
        obtain ⟨x54, hx⟩ : ∃ x : Value, x = V y := ⟨_, rfl⟩
        have X54 := Lib.hid hx
        clear hx
        obtain ⟨x56, hx⟩ : ∃ x : Value, x = zw := ⟨_, rfl⟩
        have X56 := Lib.hid hx
        clear hx
        obtain ⟨x57, hx⟩ : ∃ x : Value, x = .bool true := ⟨_, rfl⟩
        have X57 := Lib.hid hx
        clear hx
        obtain ⟨x58, hx⟩ : ∃ x : Value, x = .bool true := ⟨_, rfl⟩
        have X58 := Lib.hid hx
        clear hx
        obtain ⟨x59, hx⟩ : ∃ x : Value, x = .bool true := ⟨_, rfl⟩
        have X59 := Lib.hid hx
        clear hx
        obtain ⟨x60, hx⟩ : ∃ x : Value, x = V p := ⟨_, rfl⟩
        have X60 := Lib.hid hx
        clear hx
        obtain ⟨x61, hx⟩ : ∃ x : Value, x = z2 := ⟨_, rfl⟩
        have X61 := Lib.hid hx
        clear hx
        obtain ⟨x62, hx⟩ : ∃ x : Value, x = zv := ⟨_, rfl⟩
        have X62 := Lib.hid hx
        clear hx
        obtain ⟨x63, hx⟩ : ∃ x : Value, x = .bool true := ⟨_, rfl⟩
        have X63 := Lib.hid hx
        clear hx
        obtain ⟨x64, hx⟩ : ∃ x : Value, x = .bool true := ⟨_, rfl⟩
        have X64 := Lib.hid hx
        clear hx
        obtain ⟨x6, hx⟩ : ∃ x : Value, x = .bool true := ⟨_, rfl⟩
        have X6 := Lib.hid hx
        clear hx
        refine wp_region_inv (fun a0 l a' w' => ∃ (u55 : Value), a' = (Act.put (fill a0 47 [sel (l 0) x47 undef, sel (l 1) x48 undef, sel (l 2) x49 undef, sel (l 3) x50 undef, sel (l 4) x51 undef, sel (l 5) x52 undef, sel (l 6) x53 undef, sel (l 7) x54 undef, sel (l 8) u55 undef, sel (l 9) x56 undef, sel (l 10) x57 undef, sel (l 11) x58 undef, sel (l 12) x59 undef, sel (l 13) x60 undef, sel (l 14) x61 undef, sel (l 15) x62 undef, sel (l 16) x63 undef, sel (l 17) x64 undef]) (some 6) (sel (l 18) x6 (.bool false))) ∧ Lk l 8 u55 w' (sc.map (fm p)) ∧ Off (fun _ => False) wq w') (by kernel_rfl) (by kernel_rfl) ?_ ⟨?_, ?_, ?_, ?_, ?_, ?_, ?_, ?_, ?_, ?_, ?_, ?_, ?_, ?_, ?_, ?_, ?_, ?_, ?_, trivial⟩ ?_
        · refine ⟨undef, ?_, Lk.start _ _ _ _, (Off.refl _ wq).drew⟩
          simp only [fill_eq, List.take_succ_cons, List.take_zero, List.cons_append, List.nil_append, Act.put, List.setIfInBounds_toArray, List.set_cons_zero, List.set_cons_succ, sel_start]
        · as_aux_lemma =>
            rintro l a wr ⟨u55, ha, M8, hO⟩ hl hd K' hK
            have hx := X47.out; subst hx
            simp only [fill_eq, List.take_succ_cons, List.take_zero, List.cons_append, List.nil_append, Act.put, List.setIfInBounds_toArray, List.set_cons_zero, List.set_cons_succ] at ha
            subst ha
            rw [if_pos (by rfl)]
            go_simp
            refine (held_inv (FAL.out wr (HTW.out wr hO)) hO).mono ?_
            rintro e w1 ⟨rfl, hO1, hOW⟩
            go_wp2_with fail
            refine hK.out _ _ ⟨u55, ?_, M8.keep hOW rfl, hO1⟩
            simp only [fill_eq, List.take_succ_cons, List.take_zero, List.cons_append, List.nil_append, Act.put, List.setIfInBounds_toArray, List.set_cons_zero, List.set_cons_succ, sel_new]
            rfl
        · as_aux_lemma =>
            rintro l a wr ⟨u55, ha, M8, hO⟩ hl hd K' hK
            have d0 := hd 0 (by decide)
            have hx := X47.out; subst hx
            have hx := X48.out; subst hx
            simp only [fill_eq, List.take_succ_cons, List.take_zero, List.cons_append, List.nil_append, Act.put, List.setIfInBounds_toArray, List.set_cons_zero, List.set_cons_succ, sel_of d0] at ha
            subst ha
            rw [if_pos (by rfl)]
            go_simp
            refine hK.out _ _ ⟨u55, ?_, M8.keep (Off.refl _ wr) rfl, hO⟩
            simp only [fill_eq, List.take_succ_cons, List.take_zero, List.cons_append, List.nil_append, Act.put, List.setIfInBounds_toArray, List.set_cons_zero, List.set_cons_succ, sel_new, sel_dep d0]
            rfl
        · as_aux_lemma =>
            rintro l a wr ⟨u55, ha, M8, hO⟩ hl hd K' hK
            have d1 := hd 1 (by decide)
            have hx := X48.out; subst hx
            have hx := X49.out; subst hx
            simp only [fill_eq, List.take_succ_cons, List.take_zero, List.cons_append, List.nil_append, Act.put, List.setIfInBounds_toArray, List.set_cons_zero, List.set_cons_succ, sel_of d1] at ha
            subst ha
            have hc := HK.out wr hO
            have p0 := hc.2.1.1
            have p1 := hc.2.1.2.1
            have p2 := hc.2.1.2.2.1
            have p3 := hc.2.1.2.2.2
            clear hc
            rw [if_pos (by rfl)]
            go_simp
            refine hK.out _ _ ⟨u55, ?_, M8.keep (Off.refl _ wr) rfl, hO⟩
            simp only [fill_eq, List.take_succ_cons, List.take_zero, List.cons_append, List.nil_append, Act.put, List.setIfInBounds_toArray, List.set_cons_zero, List.set_cons_succ, sel_new, sel_dep d1]
            rfl
        · as_aux_lemma =>
            rintro l a wr ⟨u55, ha, M8, hO⟩ hl hd K' hK
            have d1 := hd 1 (by decide)
            have hx := X48.out; subst hx
            have hx := X50.out; subst hx
            simp only [fill_eq, List.take_succ_cons, List.take_zero, List.cons_append, List.nil_append, Act.put, List.setIfInBounds_toArray, List.set_cons_zero, List.set_cons_succ, sel_of d1] at ha
            subst ha
            have hc := HK.out wr hO
            have p0 := hc.1.1
            have p1 := hc.1.2.1
            have p2 := hc.1.2.2.1
            have p3 := hc.1.2.2.2.1
            have p4 := hc.1.2.2.2.2.1
            have p5 := hc.1.2.2.2.2.2.1
            have p6 := hc.1.2.2.2.2.2.2.1
            have p7 := hc.1.2.2.2.2.2.2.2.1
            have p8 := hc.1.2.2.2.2.2.2.2.2.1
            have p9 := hc.1.2.2.2.2.2.2.2.2.2.1
            have p10 := hc.1.2.2.2.2.2.2.2.2.2.2.1
            have p11 := hc.1.2.2.2.2.2.2.2.2.2.2.2.1
            have p12 := hc.1.2.2.2.2.2.2.2.2.2.2.2.2.1
            have p13 := hc.1.2.2.2.2.2.2.2.2.2.2.2.2.2
            clear hc
            rw [if_pos (by rfl)]
            go_simp
            refine hK.out _ _ ⟨u55, ?_, M8.keep (Off.refl _ wr) rfl, hO⟩
            simp only [fill_eq, List.take_succ_cons, List.take_zero, List.cons_append, List.nil_append, Act.put, List.setIfInBounds_toArray, List.set_cons_zero, List.set_cons_succ, sel_new, sel_dep d1]
            rfl
        · as_aux_lemma =>
            rintro l a wr ⟨u55, ha, M8, hO⟩ hl hd K' hK
            have d1 := hd 1 (by decide)
            have hx := X48.out; subst hx
            have hx := X51.out; subst hx
            simp only [fill_eq, List.take_succ_cons, List.take_zero, List.cons_append, List.nil_append, Act.put, List.setIfInBounds_toArray, List.set_cons_zero, List.set_cons_succ, sel_of d1] at ha
            subst ha
            rw [if_pos (by rfl)]
            go_simp
            refine hK.out _ _ ⟨u55, ?_, M8.keep (Off.refl _ wr) rfl, hO⟩
            simp only [fill_eq, List.take_succ_cons, List.take_zero, List.cons_append, List.nil_append, Act.put, List.setIfInBounds_toArray, List.set_cons_zero, List.set_cons_succ, sel_new, sel_dep d1]
            rfl
        · as_aux_lemma =>
            rintro l a wr ⟨u55, ha, M8, hO⟩ hl hd K' hK
            have d1 := hd 1 (by decide)
            have hx := X48.out; subst hx
            have hx := X52.out; subst hx
            simp only [fill_eq, List.take_succ_cons, List.take_zero, List.cons_append, List.nil_append, Act.put, List.setIfInBounds_toArray, List.set_cons_zero, List.set_cons_succ, sel_of d1] at ha
            subst ha
            have hc := HK.out wr hO
            have p0 := hc.2.1.1
            have p1 := hc.2.1.2.1
            have p2 := hc.2.1.2.2.1
            have p3 := hc.2.1.2.2.2
            clear hc
            rw [if_pos (by rfl)]
            go_simp
            refine hK.out _ _ ⟨u55, ?_, M8.keep (Off.refl _ wr) rfl, hO⟩
            simp only [fill_eq, List.take_succ_cons, List.take_zero, List.cons_append, List.nil_append, Act.put, List.setIfInBounds_toArray, List.set_cons_zero, List.set_cons_succ, sel_new, sel_dep d1]
            rfl
        · as_aux_lemma =>
            rintro l a wr ⟨u55, ha, M8, hO⟩ hl hd K' hK
            have d1 := hd 1 (by decide)
            have hx := X48.out; subst hx
            have hx := X53.out; subst hx
            simp only [fill_eq, List.take_succ_cons, List.take_zero, List.cons_append, List.nil_append, Act.put, List.setIfInBounds_toArray, List.set_cons_zero, List.set_cons_succ, sel_of d1] at ha
            subst ha
            have hc := HK.out wr hO
            have p0 := hc.2.2.1.1
            have p1 := hc.2.2.1.2.1
            have p2 := hc.2.2.1.2.2.1
            have p3 := hc.2.2.1.2.2.2
            clear hc
            rw [if_pos (by rfl)]
            go_simp
            refine hK.out _ _ ⟨u55, ?_, M8.keep (Off.refl _ wr) rfl, hO⟩
            simp only [fill_eq, List.take_succ_cons, List.take_zero, List.cons_append, List.nil_append, Act.put, List.setIfInBounds_toArray, List.set_cons_zero, List.set_cons_succ, sel_new, sel_dep d1]
            rfl
        · as_aux_lemma =>
            rintro l a wr ⟨u55, ha, M8, hO⟩ hl hd K' hK
            have d1 := hd 1 (by decide)
            have d5 := hd 5 (by decide)
            have d6 := hd 6 (by decide)
            have hx := X48.out; subst hx
            have hx := X52.out; subst hx
            have hx := X53.out; subst hx
            have hx := X54.out; subst hx
            simp only [fill_eq, List.take_succ_cons, List.take_zero, List.cons_append, List.nil_append, Act.put, List.setIfInBounds_toArray, List.set_cons_zero, List.set_cons_succ, sel_of d1, sel_of d5, sel_of d6] at ha
            subst ha
            rw [if_pos (by rfl)]
            go_simp
            refine (held_inv (FFc.out wr) hO).mono ?_
            rintro e w1 ⟨rfl, hO1, hOW⟩
            go_wp2_with fail
            refine hK.out _ _ ⟨u55, ?_, M8.keep hOW rfl, hO1⟩
            simp only [fill_eq, List.take_succ_cons, List.take_zero, List.cons_append, List.nil_append, Act.put, List.setIfInBounds_toArray, List.set_cons_zero, List.set_cons_succ, sel_new, sel_dep d1, sel_dep d5, sel_dep d6]
            rfl
        · as_aux_lemma =>
            rintro l a wr ⟨u55, ha, M8, hO⟩ hl hd K' hK
            have d1 := hd 1 (by decide)
            have d3 := hd 3 (by decide)
            have d4 := hd 4 (by decide)
            have d7 := hd 7 (by decide)
            have hx := X48.out; subst hx
            have hx := X50.out; subst hx
            have hx := X51.out; subst hx
            have hx := X54.out; subst hx
            simp only [fill_eq, List.take_succ_cons, List.take_zero, List.cons_append, List.nil_append, Act.put, List.setIfInBounds_toArray, List.set_cons_zero, List.set_cons_succ, sel_of d1, sel_of d3, sel_of d4, sel_of d7] at ha
            subst ha
            rw [if_pos (by rfl)]
            go_simp
            refine (FS2.out wr hO).mono ?_
            rintro e w1 ⟨uv, rfl, hm, hOW⟩
            have hO1 := hO.trans hOW (fun _ _ c => c)
            go_wp2_with fail
            refine hK.out _ _ ⟨uv, ?_, Lk.new hm, hO1⟩
            simp only [fill_eq, List.take_succ_cons, List.take_zero, List.cons_append, List.nil_append, Act.put, List.setIfInBounds_toArray, List.set_cons_zero, List.set_cons_succ, sel_new, sel_dep d1, sel_dep d3, sel_dep d4, sel_dep d7]
            rfl
        · as_aux_lemma =>
            rintro l a wr ⟨u55, ha, M8, hO⟩ hl hd K' hK
            have d1 := hd 1 (by decide)
            have hx := X48.out; subst hx
            have hx := X56.out; subst hx
            simp only [fill_eq, List.take_succ_cons, List.take_zero, List.cons_append, List.nil_append, Act.put, List.setIfInBounds_toArray, List.set_cons_zero, List.set_cons_succ, sel_of d1] at ha
            subst ha
            rw [if_pos (by rfl)]
            go_simp
            refine hK.out _ _ ⟨u55, ?_, M8.keep (Off.refl _ wr) rfl, hO⟩
            simp only [fill_eq, List.take_succ_cons, List.take_zero, List.cons_append, List.nil_append, Act.put, List.setIfInBounds_toArray, List.set_cons_zero, List.set_cons_succ, sel_new, sel_dep d1]
            rfl
        · as_aux_lemma =>
            rintro l a wr ⟨u55, ha, M8, hO⟩ hl hd K' hK
            have d1 := hd 1 (by decide)
            have d2 := hd 2 (by decide)
            have d8 := hd 8 (by decide)
            have d9 := hd 9 (by decide)
            have hx := X48.out; subst hx
            have hx := X49.out; subst hx
            have m8 := M8 d8
            have hx := X56.out; subst hx
            have hx := X57.out; subst hx
            simp only [fill_eq, List.take_succ_cons, List.take_zero, List.cons_append, List.nil_append, Act.put, List.setIfInBounds_toArray, List.set_cons_zero, List.set_cons_succ, sel_of d1, sel_of d2, sel_of d8, sel_of d9] at ha
            subst ha
            rw [if_pos (by rfl)]
            go_simp
            refine (held_inv (FSw.out wr u55 hO m8) hO).mono ?_
            rintro e w1 ⟨rfl, hO1, hOW⟩
            go_wp2_with fail
            refine hK.out _ _ ⟨u55, ?_, M8.keep hOW rfl, hO1⟩
            simp only [fill_eq, List.take_succ_cons, List.take_zero, List.cons_append, List.nil_append, Act.put, List.setIfInBounds_toArray, List.set_cons_zero, List.set_cons_succ, sel_new, sel_dep d1, sel_dep d2, sel_dep d8, sel_dep d9]
            rfl
        · as_aux_lemma =>
            rintro l a wr ⟨u55, ha, M8, hO⟩ hl hd K' hK
            have d1 := hd 1 (by decide)
            have d10 := hd 10 (by decide)
            have hx := X48.out; subst hx
            have hx := X57.out; subst hx
            have hx := X58.out; subst hx
            simp only [fill_eq, List.take_succ_cons, List.take_zero, List.cons_append, List.nil_append, Act.put, List.setIfInBounds_toArray, List.set_cons_zero, List.set_cons_succ, sel_of d1, sel_of d10] at ha
            subst ha
            rw [if_pos (by rfl)]
            go_simp
            refine hK.out _ _ ⟨u55, ?_, M8.keep (Off.refl _ wr) rfl, hO⟩
            simp only [fill_eq, List.take_succ_cons, List.take_zero, List.cons_append, List.nil_append, Act.put, List.setIfInBounds_toArray, List.set_cons_zero, List.set_cons_succ, sel_new, sel_dep d1, sel_dep d10]
            rfl
        · as_aux_lemma =>
            rintro l a wr ⟨u55, ha, M8, hO⟩ hl hd K' hK
            have d11 := hd 11 (by decide)
            have hx := X58.out; subst hx
            have hx := X59.out; subst hx
            simp only [fill_eq, List.take_succ_cons, List.take_zero, List.cons_append, List.nil_append, Act.put, List.setIfInBounds_toArray, List.set_cons_zero, List.set_cons_succ, sel_of d11] at ha
            subst ha
            rw [if_pos (by rfl)]
            go_simp
            refine hK.out _ _ ⟨u55, ?_, M8.keep (Off.refl _ wr) rfl, hO⟩
            simp only [fill_eq, List.take_succ_cons, List.take_zero, List.cons_append, List.nil_append, Act.put, List.setIfInBounds_toArray, List.set_cons_zero, List.set_cons_succ, sel_new, sel_dep d11]
            rfl
        · as_aux_lemma =>
            rintro l a wr ⟨u55, ha, M8, hO⟩ hl hd K' hK
            have d12 := hd 12 (by decide)
            have hx := X59.out; subst hx
            have hx := X60.out; subst hx
            simp only [fill_eq, List.take_succ_cons, List.take_zero, List.cons_append, List.nil_append, Act.put, List.setIfInBounds_toArray, List.set_cons_zero, List.set_cons_succ, sel_of d12] at ha
            subst ha
            have hc := HK.out wr hO
            have p0 := hc.2.1.1
            have p1 := hc.2.1.2.1
            have p2 := hc.2.1.2.2.1
            have p3 := hc.2.1.2.2.2
            clear hc
            rw [if_pos (by rfl)]
            go_simp
            refine hK.out _ _ ⟨u55, ?_, M8.keep (Off.refl _ wr) rfl, hO⟩
            simp only [fill_eq, List.take_succ_cons, List.take_zero, List.cons_append, List.nil_append, Act.put, List.setIfInBounds_toArray, List.set_cons_zero, List.set_cons_succ, sel_new, sel_dep d12]
            rfl
        · as_aux_lemma =>
            rintro l a wr ⟨u55, ha, M8, hO⟩ hl hd K' hK
            have d12 := hd 12 (by decide)
            have hx := X59.out; subst hx
            have hx := X61.out; subst hx
            simp only [fill_eq, List.take_succ_cons, List.take_zero, List.cons_append, List.nil_append, Act.put, List.setIfInBounds_toArray, List.set_cons_zero, List.set_cons_succ, sel_of d12] at ha
            subst ha
            rw [if_pos (by rfl)]
            go_simp
            refine hK.out _ _ ⟨u55, ?_, M8.keep (Off.refl _ wr) rfl, hO⟩
            simp only [fill_eq, List.take_succ_cons, List.take_zero, List.cons_append, List.nil_append, Act.put, List.setIfInBounds_toArray, List.set_cons_zero, List.set_cons_succ, sel_new, sel_dep d12]
            rfl
        · as_aux_lemma =>
            rintro l a wr ⟨u55, ha, M8, hO⟩ hl hd K' hK
            have d12 := hd 12 (by decide)
            have hx := X59.out; subst hx
            have hx := X62.out; subst hx
            simp only [fill_eq, List.take_succ_cons, List.take_zero, List.cons_append, List.nil_append, Act.put, List.setIfInBounds_toArray, List.set_cons_zero, List.set_cons_succ, sel_of d12] at ha
            subst ha
            rw [if_pos (by rfl)]
            go_simp
            refine hK.out _ _ ⟨u55, ?_, M8.keep (Off.refl _ wr) rfl, hO⟩
            simp only [fill_eq, List.take_succ_cons, List.take_zero, List.cons_append, List.nil_append, Act.put, List.setIfInBounds_toArray, List.set_cons_zero, List.set_cons_succ, sel_new, sel_dep d12]
            rfl
        · as_aux_lemma =>
            rintro l a wr ⟨u55, ha, M8, hO⟩ hl hd K' hK
            have d12 := hd 12 (by decide)
            have d13 := hd 13 (by decide)
            have d14 := hd 14 (by decide)
            have d15 := hd 15 (by decide)
            have hx := X59.out; subst hx
            have hx := X60.out; subst hx
            have hx := X61.out; subst hx
            have hx := X62.out; subst hx
            have hx := X63.out; subst hx
            simp only [fill_eq, List.take_succ_cons, List.take_zero, List.cons_append, List.nil_append, Act.put, List.setIfInBounds_toArray, List.set_cons_zero, List.set_cons_succ, sel_of d12, sel_of d13, sel_of d14, sel_of d15] at ha
            subst ha
            rw [if_pos (by rfl)]
            go_simp
            refine (held_inv (FSx.out wr hO) hO).mono ?_
            rintro e w1 ⟨rfl, hO1, hOW⟩
            go_wp2_with fail
            refine hK.out _ _ ⟨u55, ?_, M8.keep hOW rfl, hO1⟩
            simp only [fill_eq, List.take_succ_cons, List.take_zero, List.cons_append, List.nil_append, Act.put, List.setIfInBounds_toArray, List.set_cons_zero, List.set_cons_succ, sel_new, sel_dep d12, sel_dep d13, sel_dep d14, sel_dep d15]
            rfl
        · as_aux_lemma =>
            rintro l a wr ⟨u55, ha, M8, hO⟩ hl hd K' hK
            have d12 := hd 12 (by decide)
            have d16 := hd 16 (by decide)
            have hx := X59.out; subst hx
            have hx := X63.out; subst hx
            have hx := X64.out; subst hx
            simp only [fill_eq, List.take_succ_cons, List.take_zero, List.cons_append, List.nil_append, Act.put, List.setIfInBounds_toArray, List.set_cons_zero, List.set_cons_succ, sel_of d12, sel_of d16] at ha
            subst ha
            rw [if_pos (by rfl)]
            go_simp
            refine hK.out _ _ ⟨u55, ?_, M8.keep (Off.refl _ wr) rfl, hO⟩
            simp only [fill_eq, List.take_succ_cons, List.take_zero, List.cons_append, List.nil_append, Act.put, List.setIfInBounds_toArray, List.set_cons_zero, List.set_cons_succ, sel_new, sel_dep d12, sel_dep d16]
            rfl
        · as_aux_lemma =>
            rintro l a wr ⟨u55, ha, M8, hO⟩ hl hd K' hK
            have d17 := hd 17 (by decide)
            have hx := X64.out; subst hx
            have hx := X6.out; subst hx
            simp only [fill_eq, List.take_succ_cons, List.take_zero, List.cons_append, List.nil_append, Act.put, List.setIfInBounds_toArray, List.set_cons_zero, List.set_cons_succ, sel_of d17] at ha
            subst ha
            rw [if_pos (by rfl)]
            go_simp
            refine hK.out _ _ ⟨u55, ?_, M8.keep (Off.refl _ wr) rfl, hO⟩
            simp only [fill_eq, List.take_succ_cons, List.take_zero, List.cons_append, List.nil_append, Act.put, List.setIfInBounds_toArray, List.set_cons_zero, List.set_cons_succ, sel_new, sel_dep d17]
            rfl
        · rintro l a wc ⟨u55, ha, M8, hO⟩ hd
          simp only [fill_eq, List.take_succ_cons, List.take_zero, List.cons_append, List.nil_append, Act.put, List.setIfInBounds_toArray, List.set_cons_zero, List.set_cons_succ, sel_of (hd 0 (by decide)), sel_of (hd 1 (by decide)), sel_of (hd 2 (by decide)), sel_of (hd 3 (by decide)), sel_of (hd 4 (by decide)), sel_of (hd 5 (by decide)), sel_of (hd 6 (by decide)), sel_of (hd 7 (by decide)), sel_of (hd 8 (by decide)), sel_of (hd 9 (by decide)), sel_of (hd 10 (by decide)), sel_of (hd 11 (by decide)), sel_of (hd 12 (by decide)), sel_of (hd 13 (by decide)), sel_of (hd 14 (by decide)), sel_of (hd 15 (by decide)), sel_of (hd 16 (by decide)), sel_of (hd 17 (by decide)), sel_of (hd 18 (by decide))] at ha
          subst ha
          have hx := X6.out; subst hx
          have HOf := Lib.hid (HOw.out.trans hO (fun _ _ c => c))
          clear hO hd
          go_wp2
          go_ret
          exact ⟨rfl, HOf.out⟩

theorem door_met (os : Os) (args : Array Value) : laidMetH Tryd.prog [("sharecore/field.fields", Rows.laid_sharecore_field_fields)] ((World.doorLaid Tryd.prog 400 os).forCall (fun _ _ => 0) ⟨#[], args, []⟩).memory :=
  laidMetH_of_parts3 (fuel := 8) (laidMet_of_run' 8 (by kernel_rfl) (by kernel_rfl)) (by kernel_rfl) (by kernel_rfl)

set_option maxRecDepth 100000 in
theorem lifted (os : Os) (started : os.Started) (H : Type) (enc : TypeId × Value → H) :
    ReturnsInHanded {} Tryd.checked os 5 .any (fun w args => (Rows.polyScalesSpec.pre enc Tryd.prog Tryd.f5 [] false w args ∧ laidMetH Tryd.prog [("sharecore/field.fields", Rows.laid_sharecore_field_fields)] w) ∧ sizedMet enc Tryd.prog Tryd.f5 (OpenSpec.ofChange Rows.polyScalesSpec) false w args)
      (Rows.polyScalesSpec.post enc Tryd.prog Tryd.f5 false true false false) := by
  refine returnsInHanded_of_change_and (C := Tryd.checked) (X := fun w _ => laidMetH Tryd.prog [("sharecore/field.fields", Rows.laid_sharecore_field_fields)] w) (fun _ _ _ hh h => h.of_heap hh) own started (by kernel_rfl) Tryd.func5
    (ChangeSpec.witness_shaped (enc := enc) (C := Tryd.checked) (os := os) (X := fun w _ => laidMetH Tryd.prog [("sharecore/field.fields", Rows.laid_sharecore_field_fields)] w) false (World.doorLaid Tryd.prog 400 os) #[.bool false, .slice none 0 0, .agg #[.int .u64 0, .int .u64 0, .int .u64 0, .int .u64 0]] 8 rfl (World.shaped_of_RefB (by kernel_rfl) (by kernel_rfl)) (by kernel_rfl) (by kernel_rfl) (by kernel_rfl) (door_met os _)) ?_
  intro W base args ds gs before hval0 hW _ _ hL _
  have hval : ∀ (j : Nat) t v, Tryd.f5.params[j]? = some t → args[j]? = some v → Value.okWide Tryd.prog W .any base t v := hval0
  have hW' := hW
  obtain ⟨p, q, hA0, hV, rfl, hfz, hnd⟩ := hW
  have hA : DataW.TrodAll enc Tryd.prog W 0 (fun _ => true) true Tryd.f5.params.toList args.toList ds p := hA0
  rw [Tryd.params5] at hA hval
  obtain ⟨v0, vs0, d0, ds0, p0, q0, hargs, rfl, rfl, h0, r0⟩ := trodAll_cons hA
  obtain ⟨v1, vs1, d1, ds1, p1, q1, rfl, rfl, rfl, h1, r1⟩ := trodAll_cons r0
  obtain ⟨v2, vs2, d2, ds2, p2, q2, rfl, rfl, rfl, h2, r2⟩ := trodAll_cons r1
  obtain ⟨rfl, rfl, rfl⟩ := trodAll_nil r2
  obtain rfl : args = #[v0, v1, v2] := by cases args; simp_all
  obtain ⟨rfl, rfl⟩ := trodVars_none hV
  obtain ⟨i0, rfl, rfl, rfl⟩ := open_bool Tryd.underlying4 (hval 0 4 v0 rfl rfl) h0
  have w0 := trivial
  obtain ⟨a1, n1, cap1, rfl⟩ := okWide_slice Tryd.underlying22 (hval 1 22 v1 rfl rfl)
  have k1 := h1
  have lt1 : ∀ x ∈ p1, x.block < W.heap.size := by obtain ⟨m, hm⟩ := k1; exact DataW.trod_lt m _ _ _ hm
  obtain ⟨xs1, hn1, w1⟩ : ∃ xs, n1 = xs.length ∧ VsAt W (.slice a1 n1 cap1) xs (fun k => k < W.heap.size) := by
    obtain ⟨fuel, hf⟩ := h1
    exact vecs_of_trod hf
  have k2 := h2
  have lt2 : ∀ x ∈ p2, x.block < W.heap.size := by obtain ⟨m, hm⟩ := k2; exact DataW.trod_lt m _ _ _ hm
  obtain ⟨n2, w2, rfl⟩ := open_vec (hval 2 24 v2 rfl rfl) h2
  have hT := tab_of_laid hL
  clear hA0 hval0
  refine (walk i0 a1 n1 cap1 xs1 n2 W w0 hn1 w1 w2 hT).mono fun e W' ⟨he, hoff⟩ => ?_
  have bel : Below W.heap.size W W' := hoff.below (Nat.le_refl _) (fun _ _ c => c)
  subst he
  exact ⟨_, rfl, _, _, _, [], _, [], hW', trodAll_mk1 (shut_bool Tryd.underlying4 _), (trodAll_cons_mk (shut_bool Tryd.underlying4 _) (trodAll_cons_mk (Below.trod laidOut (by kernel_rfl) (of_decide_eq_true (by kernel_rfl)) k1 bel lt1) (trodAll_cons_mk (Below.trod laidOut (by kernel_rfl) (of_decide_eq_true (by kernel_rfl)) k2 bel lt2) trodAll_mk0))), rfl, bel.frame _, fun h => by cases h⟩

theorem over : Rows.polyScalesRow.holds Tryd.pinned (OpenSpec.ofChange Rows.polyScalesSpec) :=
  OpenClaim.holds_of_wide 5 Tryd.f5 rfl rfl rfl rfl rfl rfl rfl ⟨rfl, rfl, rfl, rfl, rfl⟩ rfl rfl rfl rfl rfl (by kernel_rfl) Tryd.func5 (by kernel_rfl)
    (of_decide_eq_true (by kernel_rfl)) (by unfold Func.isWrapper; first | (rw [if_pos (by decide +kernel)]; kernel_rfl) | (rw [if_neg (by decide +kernel)]; exact ⟨rfl, rfl⟩))
    (fun os started H enc _ => lifted os started H enc)

theorem proved : Rows.PolyScalesCardSaid :=
  Claim7.holds_tied_plain_at .later [] [.data] true (true, "3d840ffc59f1f7eb92e6625ecf38349f13a4c620ea70c2d1380fae53a4373fdd") false
    over (fun _ h => by cases h) (by kernel_rfl) (fun _ h => by cases h) polyScales_row_tie rfl ⟨rfl, rfl⟩ (by kernel_rfl) rfl
    (fun f fn hf hfn => by
      obtain rfl : f = 5 := Option.some.inj ((show Tryd.prog.funcNamed "sharecore/sharecorelaw08.PolyScales" = some 5 by kernel_rfl).symm.trans hf) |>.symm
      obtain rfl : fn = Tryd.f5 := (Option.some.inj (Tryd.func5.symm.trans hfn)).symm
      exact ⟨by kernel_rfl, fun j t ht => by
        rw [Tryd.params5] at ht
        have hm : t ∈ [4, 22, 24] := by simpa using Array.mem_of_getElem? ht
        have hall : ([4, 22, 24].all fun u => !Tryd.prog.wantsStandIn u) = true := by kernel_rfl
        exact (show Tryd.prog.wantsStandIn t = false by simpa using List.all_eq_true.1 hall t hm)⟩)
    (by kernel_rfl)
#print axioms proved
end Go.Proofs.YtiemajbcmmbjbaaDoor.polyScales
