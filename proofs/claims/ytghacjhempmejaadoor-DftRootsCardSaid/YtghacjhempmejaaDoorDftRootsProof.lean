/-
  For every number, the landed Roots returns as many complex numbers, each of which is nearly the product of the one before and the second one, or nothing. Condition: none but the row's own (the tables of the coefficients of math.Sincos lie in memory as the program's text lays them).
-/
import Derived.Test.YtghacjhempmejaaDoorRows
import Derived.Test.YtghacjhempmejaaDoorTie
import Derived.Test.YtghacjhempmejaaDoorCards
import Derived.LaidMore
import Derived.LaidHandle
import Derived.SevenTiedAt
import Derived.Stop.Joined
import Derived.JoinedOf
import Derived.Test.YtghacjhempmejaaDoorIntOpen
import Derived.Test.YtghacjhempmejaaDoorDftTabs
import Derived.Test.YtghacjhempmejaaDoorDftRootL
import Derived.Test.YtghacjhempmejaaDoorInvSel
import Derived.WalkKit
import Derived.ProofKit
import Derived.OpenShut
import Derived.ShutString
import Derived.ChangeOld
import Derived.Below
namespace Go.Proofs.YtghacjhempmejaaDoor.dftRoots
open Go.ChangeShapes Go.WideShapes Go.ChangeAt Go.RowKit
set_option linter.unusedVariables false

theorem own : ownKnob Tryd.prog.godebug = none := by kernel_rfl
theorem laidOut : laidOutB Tryd.prog = true := by kernel_rfl

set_option linter.unusedSimpArgs false
attribute [local go_sem] unary_negf'
set_option maxRecDepth 100000 in
set_option maxHeartbeats 4000000 in
theorem walk (i0 : Int) (w : World) (w0 : (Lit.int .i64 i0).wf = true) (hT : TabAt w) :
    Calls Tryd.prog 4 #[.int .i64 i0] w fun e w' => e = .returned (.bool true) ∧ Off (fun _ => False) w w' := by
  have HAl := Lib.hid (fun W => alive_any W)
  have hIs := refis_any i0
  have HT := Lib.hid hT
  by_cases hp : isP i0 = true
  · obtain ⟨e, he, rfl⟩ := isP_some hp
    rw [hp] at hIs
    have hR := roots_any e he w hT
    obtain ⟨z0, q, hq, zq⟩ := rootEnd he
    have hz0 := near_same z0
    have hzq := near_close zq
    have HOk := Lib.hid (fun i (h : i < pw e) => rootOk he h)
    have HGet := Lib.hid (fun k (h : k < pw e) => rootsL_get h)
    have hn8 := pw_le he
    have hn0 := pw_pos e
    obtain ⟨f, hf⟩ : ∃ f, f = rootF e := ⟨_, rfl⟩
    obtain ⟨L, hL⟩ : ∃ L, L = rootsL e := ⟨_, rfl⟩
    obtain ⟨n, hn⟩ : ∃ n, n = pw e := ⟨_, rfl⟩
    rw [← hf] at HOk HGet hq hz0
    rw [← hL] at hR HGet
    rw [← hn] at hR HOk HGet hq hn8 hn0 hIs ⊢
    have HEnd := Lib.hid hq
    have HZ0 := Lib.hid hz0
    have HZq := Lib.hid hzq
    have hnn : ((n : Int) != (n : Int)) = false := by simp
    clear hf hL hn hp z0 zq hq hz0 hzq w0 hT he
    go_enter Tryd.func4, Tryd.ntmps4
    go_wp2_with fail
    refine hR.mono ?_
    rintro r w1 ⟨g, rfl, hg, hL1, hO1⟩
    have HL1 := Lib.hid hL1
    have HO1 := Lib.hid hO1
    have mA := cell_c hL1 (HGet.out 0 hn0)
    clear hg hL1 hO1 hR
    go_wp2_with first | (go_at_call 14; refine (hIs _).mono ?_; rintro r w' ⟨rfl, rfl⟩) | (go_at_call 15; refine (HZ0.out _).mono ?_; rintro r w' ⟨rfl, rfl⟩) | fail
    clear mA
    go_loopw [29] (fun i wr => ∃ k : Nat, k ≤ n ∧ i = .int .i64 (k : Int) ∧ Off (fun _ => False) w1 wr) (fun i _ => n - (intOf i).toNat)
    case atStart => exact ⟨0, Nat.zero_le _, rfl, Off.refl _ _⟩
    case round =>
      obtain ⟨k, hk, rfl, hO⟩ := hrel
      by_cases hkn : k < n
      · have hki : (k : Int) < (n : Int) := by omega
        obtain ⟨okp, q2, hq2, cq2⟩ := HOk.out k hkn
        have hL2 := hO.heap HL1.out (fun c => c)
        have m1 := cell_c hL2 (HGet.out k hkn)
        have HQ2 := Lib.hid (show ∀ (W : World), Calls Tryd.prog 15 #[.complex .f64 q2.1 q2.2, .complex .f64 4607182418800017408 0] W fun e w' => e = .returned (.bool true) ∧ Off (fun _ => False) W w' from fun W => near_close cq2 W)
        have hq2 : cMulBits (f k).1 (f k).2 (f k).1 (Op.negFloat .f64 (f k).2) = some (q2.1, q2.2) := hq2
        have E2 := fun (W : World) (t : TypeId) => run_complex_mul (P := Tryd.prog) W t _ _ _ _ _ _ hq2
        have HO := Lib.hid hO
        by_cases hk0 : 0 < k
        · obtain ⟨p, hp, cp⟩ := okp hk0
          obtain ⟨j, hj⟩ : ∃ j, j = k - 1 := ⟨_, rfl⟩
          rw [← hj] at hp
          have hjn : j < n := by omega
          have hjni : (j : Int) < (n : Int) := by omega
          have h1n : 1 < n := by omega
          have h1ni : (1 : Int) < (n : Int) := by omega
          have hwj : IntKind.i64.wrap ((k : Int) - 1) = (j : Int) := by rw [IntKind.wrap_i64]; omega
          have m2 := cell_c hL2 (HGet.out j hjn)
          have m3 := cell_c hL2 (HGet.out 1 (by omega))
          have HP := Lib.hid (fun W => near_close cp W)
          have E1 := fun (W : World) (t : TypeId) => run_complex_mul (P := Tryd.prog) W t _ _ _ _ _ _ hp
          have hk0i : (0 : Int) < (k : Int) := by omega
          have hk0d : decide ((0 : Int) < (k : Int)) = true := by simp; omega
          have HK := Lib.hid (show ∀ W', Off (fun _ => False) wr W' → W'.cell? ⟨g, k, none⟩ = some (.complex .f64 (f k).1 (f k).2) ∧ W'.cell? ⟨g, j, none⟩ = some (.complex .f64 (f j).1 (f j).2) ∧ W'.cell? ⟨g, 1, none⟩ = some (.complex .f64 (f 1).1 (f 1).2) ∧ Off (fun _ => False) wr W' from fun W' h => ⟨h.cell m1 (fun c => c), h.cell m2 (fun c => c), h.cell m3 (fun c => c), h⟩)
          have hwk : IntKind.i64.wrap ((k : Int) + 1) = (k : Int) + 1 := by rw [IntKind.wrap_i64]; omega
          clear hO hL2 hp cp hq2 cq2 okp hj m1 m2 m3
          go_upto_region 9 with fail
          obtain ⟨x32, hx⟩ : ∃ x : Value, x = .int .i64 (k : Int) := ⟨_, rfl⟩
          have X32 := Lib.hid hx
          clear hx
          obtain ⟨x33, hx⟩ : ∃ x : Value, x = .bool true := ⟨_, rfl⟩
          have X33 := Lib.hid hx
          clear hx
          obtain ⟨x34, hx⟩ : ∃ x : Value, x = .bool true := ⟨_, rfl⟩
          have X34 := Lib.hid hx
          clear hx
          obtain ⟨x35, hx⟩ : ∃ x : Value, x = .slice (some ⟨g, 0, none⟩) n n := ⟨_, rfl⟩
          have X35 := Lib.hid hx
          clear hx
          obtain ⟨x36, hx⟩ : ∃ x : Value, x = .int .i64 (k : Int) := ⟨_, rfl⟩
          have X36 := Lib.hid hx
          clear hx
          obtain ⟨x37, hx⟩ : ∃ x : Value, x = .pointer (some ⟨g, k, none⟩) := ⟨_, rfl⟩
          have X37 := Lib.hid hx
          clear hx
          obtain ⟨x38, hx⟩ : ∃ x : Value, x = .complex .f64 (f k).1 (f k).2 := ⟨_, rfl⟩
          have X38 := Lib.hid hx
          clear hx
          obtain ⟨x39, hx⟩ : ∃ x : Value, x = .slice (some ⟨g, 0, none⟩) n n := ⟨_, rfl⟩
          have X39 := Lib.hid hx
          clear hx
          obtain ⟨x40, hx⟩ : ∃ x : Value, x = .int .i64 (k : Int) := ⟨_, rfl⟩
          have X40 := Lib.hid hx
          clear hx
          obtain ⟨x41, hx⟩ : ∃ x : Value, x = .int .i64 (j : Int) := ⟨_, rfl⟩
          have X41 := Lib.hid hx
          clear hx
          obtain ⟨x42, hx⟩ : ∃ x : Value, x = .pointer (some ⟨g, j, none⟩) := ⟨_, rfl⟩
          have X42 := Lib.hid hx
          clear hx
          obtain ⟨x43, hx⟩ : ∃ x : Value, x = .complex .f64 (f j).1 (f j).2 := ⟨_, rfl⟩
          have X43 := Lib.hid hx
          clear hx
          obtain ⟨x44, hx⟩ : ∃ x : Value, x = .slice (some ⟨g, 0, none⟩) n n := ⟨_, rfl⟩
          have X44 := Lib.hid hx
          clear hx
          obtain ⟨x45, hx⟩ : ∃ x : Value, x = .pointer (some ⟨g, 1, none⟩) := ⟨_, rfl⟩
          have X45 := Lib.hid hx
          clear hx
          obtain ⟨x46, hx⟩ : ∃ x : Value, x = .complex .f64 (f 1).1 (f 1).2 := ⟨_, rfl⟩
          have X46 := Lib.hid hx
          clear hx
          obtain ⟨x47, hx⟩ : ∃ x : Value, x = .complex .f64 (p).1 (p).2 := ⟨_, rfl⟩
          have X47 := Lib.hid hx
          clear hx
          obtain ⟨x48, hx⟩ : ∃ x : Value, x = .bool true := ⟨_, rfl⟩
          have X48 := Lib.hid hx
          clear hx
          obtain ⟨x49, hx⟩ : ∃ x : Value, x = .bool false := ⟨_, rfl⟩
          have X49 := Lib.hid hx
          clear hx
          obtain ⟨x50, hx⟩ : ∃ x : Value, x = .bool false := ⟨_, rfl⟩
          have X50 := Lib.hid hx
          clear hx
          obtain ⟨x51, hx⟩ : ∃ x : Value, x = .bool false := ⟨_, rfl⟩
          have X51 := Lib.hid hx
          clear hx
          obtain ⟨x52, hx⟩ : ∃ x : Value, x = .slice (some ⟨g, 0, none⟩) n n := ⟨_, rfl⟩
          have X52 := Lib.hid hx
          clear hx
          obtain ⟨x53, hx⟩ : ∃ x : Value, x = .int .i64 (k : Int) := ⟨_, rfl⟩
          have X53 := Lib.hid hx
          clear hx
          obtain ⟨x54, hx⟩ : ∃ x : Value, x = .pointer (some ⟨g, k, none⟩) := ⟨_, rfl⟩
          have X54 := Lib.hid hx
          clear hx
          obtain ⟨x55, hx⟩ : ∃ x : Value, x = .complex .f64 (f k).1 (f k).2 := ⟨_, rfl⟩
          have X55 := Lib.hid hx
          clear hx
          obtain ⟨x56, hx⟩ : ∃ x : Value, x = .slice (some ⟨g, 0, none⟩) n n := ⟨_, rfl⟩
          have X56 := Lib.hid hx
          clear hx
          obtain ⟨x57, hx⟩ : ∃ x : Value, x = .int .i64 (k : Int) := ⟨_, rfl⟩
          have X57 := Lib.hid hx
          clear hx
          obtain ⟨x58, hx⟩ : ∃ x : Value, x = .pointer (some ⟨g, k, none⟩) := ⟨_, rfl⟩
          have X58 := Lib.hid hx
          clear hx
          obtain ⟨x59, hx⟩ : ∃ x : Value, x = .complex .f64 (f k).1 (f k).2 := ⟨_, rfl⟩
          have X59 := Lib.hid hx
          clear hx
          obtain ⟨x60, hx⟩ : ∃ x : Value, x = .float .f64 (f k).1 := ⟨_, rfl⟩
          have X60 := Lib.hid hx
          clear hx
          obtain ⟨x61, hx⟩ : ∃ x : Value, x = .slice (some ⟨g, 0, none⟩) n n := ⟨_, rfl⟩
          have X61 := Lib.hid hx
          clear hx
          obtain ⟨x62, hx⟩ : ∃ x : Value, x = .int .i64 (k : Int) := ⟨_, rfl⟩
          have X62 := Lib.hid hx
          clear hx
          obtain ⟨x63, hx⟩ : ∃ x : Value, x = .pointer (some ⟨g, k, none⟩) := ⟨_, rfl⟩
          have X63 := Lib.hid hx
          clear hx
          obtain ⟨x64, hx⟩ : ∃ x : Value, x = .complex .f64 (f k).1 (f k).2 := ⟨_, rfl⟩
          have X64 := Lib.hid hx
          clear hx
          obtain ⟨x65, hx⟩ : ∃ x : Value, x = .float .f64 (f k).2 := ⟨_, rfl⟩
          have X65 := Lib.hid hx
          clear hx
          obtain ⟨x66, hx⟩ : ∃ x : Value, x = .float .f64 (Op.negFloat .f64 (f k).2) := ⟨_, rfl⟩
          have X66 := Lib.hid hx
          clear hx
          obtain ⟨x67, hx⟩ : ∃ x : Value, x = .complex .f64 (f k).1 (Op.negFloat .f64 (f k).2) := ⟨_, rfl⟩
          have X67 := Lib.hid hx
          clear hx
          obtain ⟨x68, hx⟩ : ∃ x : Value, x = .complex .f64 (q2).1 (q2).2 := ⟨_, rfl⟩
          have X68 := Lib.hid hx
          clear hx
          obtain ⟨x69, hx⟩ : ∃ x : Value, x = .bool true := ⟨_, rfl⟩
          have X69 := Lib.hid hx
          clear hx
          obtain ⟨x70, hx⟩ : ∃ x : Value, x = .bool false := ⟨_, rfl⟩
          have X70 := Lib.hid hx
          clear hx
          obtain ⟨x71, hx⟩ : ∃ x : Value, x = .bool false := ⟨_, rfl⟩
          have X71 := Lib.hid hx
          clear hx
          refine wp_region_inv (fun a0 l a' w' => a' = (fill a0 32 [sel (l 0) x32 u32, sel (l 1) x33 u33, sel (l 2) x34 u34, sel (l 3) x35 u35, sel (l 4) x36 u36, sel (l 5) x37 u37, sel (l 6) x38 u38, sel (l 7) x39 u39, sel (l 8) x40 u40, sel (l 9) x41 u41, sel (l 10) x42 u42, sel (l 11) x43 u43, sel (l 12) x44 u44, sel (l 13) x45 u45, sel (l 14) x46 u46, sel (l 15) x47 u47, sel (l 16) x48 u48, sel (l 17) x49 u49, sel (l 18) x50 u50, sel (l 19) x51 u51, sel (l 20) x52 u52, sel (l 21) x53 u53, sel (l 22) x54 u54, sel (l 23) x55 u55, sel (l 24) x56 u56, sel (l 25) x57 u57, sel (l 26) x58 u58, sel (l 27) x59 u59, sel (l 28) x60 u60, sel (l 29) x61 u61, sel (l 30) x62 u62, sel (l 31) x63 u63, sel (l 32) x64 u64, sel (l 33) x65 u65, sel (l 34) x66 u66, sel (l 35) x67 u67, sel (l 36) x68 u68, sel (l 37) x69 u69, sel (l 38) x70 u70, sel (l 39) x71 u71, u72, undef, undef, undef, undef, undef, undef, undef, undef, undef, undef, undef, undef, undef, undef, undef]) ∧ Off (fun _ => False) wr w') (by kernel_rfl) (by kernel_rfl) ?_ ⟨?_, ?_, ?_, ?_, ?_, ?_, ?_, ?_, ?_, ?_, ?_, ?_, ?_, ?_, ?_, ?_, ?_, ?_, ?_, ?_, ?_, ?_, ?_, ?_, ?_, ?_, ?_, ?_, ?_, ?_, ?_, ?_, ?_, ?_, ?_, ?_, ?_, ?_, ?_, ?_, trivial⟩ ?_
          · refine ⟨?_, (Off.refl _ wr).drew⟩
            simp only [fill_eq, List.take_succ_cons, List.take_zero, List.cons_append, List.nil_append, sel_start]
          · as_aux_lemma =>
              rintro l a wr ⟨ha, hO⟩ hl hd K' hK
              have hx := X32.out; subst hx
              simp only [fill_eq, List.take_succ_cons, List.take_zero, List.cons_append, List.nil_append] at ha
              subst ha
              rw [if_pos (by rfl)]
              go_simp
              refine hK.out _ _ ⟨?_, hO⟩
              simp only [fill_eq, List.take_succ_cons, List.take_zero, List.cons_append, List.nil_append, Act.put, List.setIfInBounds_toArray, List.set_cons_zero, List.set_cons_succ, sel_new]
              rfl
          · as_aux_lemma =>
              rintro l a wr ⟨ha, hO⟩ hl hd K' hK
              have d0 := hd 0 (by decide)
              have hx := X32.out; subst hx
              have hx := X33.out; subst hx
              simp only [fill_eq, List.take_succ_cons, List.take_zero, List.cons_append, List.nil_append, sel_of d0] at ha
              subst ha
              rw [if_pos (by rfl)]
              go_simp
              refine hK.out _ _ ⟨?_, hO⟩
              simp only [fill_eq, List.take_succ_cons, List.take_zero, List.cons_append, List.nil_append, Act.put, List.setIfInBounds_toArray, List.set_cons_zero, List.set_cons_succ, sel_new, sel_dep d0]
              rfl
          · as_aux_lemma =>
              rintro l a wr ⟨ha, hO⟩ hl hd K' hK
              have d1 := hd 1 (by decide)
              have hx := X33.out; subst hx
              have hx := X34.out; subst hx
              simp only [fill_eq, List.take_succ_cons, List.take_zero, List.cons_append, List.nil_append, sel_of d1] at ha
              subst ha
              rw [if_pos (by rfl)]
              go_simp
              refine hK.out _ _ ⟨?_, hO⟩
              simp only [fill_eq, List.take_succ_cons, List.take_zero, List.cons_append, List.nil_append, Act.put, List.setIfInBounds_toArray, List.set_cons_zero, List.set_cons_succ, sel_new, sel_dep d1]
              rfl
          · as_aux_lemma =>
              rintro l a wr ⟨ha, hO⟩ hl hd K' hK
              have d2 := hd 2 (by decide)
              have hx := X34.out; subst hx
              have hx := X35.out; subst hx
              simp only [fill_eq, List.take_succ_cons, List.take_zero, List.cons_append, List.nil_append, sel_of d2] at ha
              subst ha
              rw [if_pos (by rfl)]
              go_simp
              refine hK.out _ _ ⟨?_, hO⟩
              simp only [fill_eq, List.take_succ_cons, List.take_zero, List.cons_append, List.nil_append, Act.put, List.setIfInBounds_toArray, List.set_cons_zero, List.set_cons_succ, sel_new, sel_dep d2]
              rfl
          · as_aux_lemma =>
              rintro l a wr ⟨ha, hO⟩ hl hd K' hK
              have d2 := hd 2 (by decide)
              have hx := X34.out; subst hx
              have hx := X36.out; subst hx
              simp only [fill_eq, List.take_succ_cons, List.take_zero, List.cons_append, List.nil_append, sel_of d2] at ha
              subst ha
              rw [if_pos (by rfl)]
              go_simp
              refine hK.out _ _ ⟨?_, hO⟩
              simp only [fill_eq, List.take_succ_cons, List.take_zero, List.cons_append, List.nil_append, Act.put, List.setIfInBounds_toArray, List.set_cons_zero, List.set_cons_succ, sel_new, sel_dep d2]
              rfl
          · as_aux_lemma =>
              rintro l a wr ⟨ha, hO⟩ hl hd K' hK
              have d2 := hd 2 (by decide)
              have d3 := hd 3 (by decide)
              have d4 := hd 4 (by decide)
              have hx := X34.out; subst hx
              have hx := X35.out; subst hx
              have hx := X36.out; subst hx
              have hx := X37.out; subst hx
              simp only [fill_eq, List.take_succ_cons, List.take_zero, List.cons_append, List.nil_append, sel_of d2, sel_of d3, sel_of d4] at ha
              subst ha
              rw [if_pos (by rfl)]
              go_simp
              refine hK.out _ _ ⟨?_, hO⟩
              simp only [fill_eq, List.take_succ_cons, List.take_zero, List.cons_append, List.nil_append, Act.put, List.setIfInBounds_toArray, List.set_cons_zero, List.set_cons_succ, sel_new, sel_dep d2, sel_dep d3, sel_dep d4]
              rfl
          · as_aux_lemma =>
              rintro l a wr ⟨ha, hO⟩ hl hd K' hK
              have d2 := hd 2 (by decide)
              have d5 := hd 5 (by decide)
              have hx := X34.out; subst hx
              have hx := X37.out; subst hx
              have hx := X38.out; subst hx
              simp only [fill_eq, List.take_succ_cons, List.take_zero, List.cons_append, List.nil_append, sel_of d2, sel_of d5] at ha
              subst ha
              have hc := HK.out wr hO
              have p0 := hc.1
              clear hc
              rw [if_pos (by rfl)]
              go_simp
              refine hK.out _ _ ⟨?_, hO⟩
              simp only [fill_eq, List.take_succ_cons, List.take_zero, List.cons_append, List.nil_append, Act.put, List.setIfInBounds_toArray, List.set_cons_zero, List.set_cons_succ, sel_new, sel_dep d2, sel_dep d5]
              rfl
          · as_aux_lemma =>
              rintro l a wr ⟨ha, hO⟩ hl hd K' hK
              have d2 := hd 2 (by decide)
              have hx := X34.out; subst hx
              have hx := X39.out; subst hx
              simp only [fill_eq, List.take_succ_cons, List.take_zero, List.cons_append, List.nil_append, sel_of d2] at ha
              subst ha
              rw [if_pos (by rfl)]
              go_simp
              refine hK.out _ _ ⟨?_, hO⟩
              simp only [fill_eq, List.take_succ_cons, List.take_zero, List.cons_append, List.nil_append, Act.put, List.setIfInBounds_toArray, List.set_cons_zero, List.set_cons_succ, sel_new, sel_dep d2]
              rfl
          · as_aux_lemma =>
              rintro l a wr ⟨ha, hO⟩ hl hd K' hK
              have d2 := hd 2 (by decide)
              have hx := X34.out; subst hx
              have hx := X40.out; subst hx
              simp only [fill_eq, List.take_succ_cons, List.take_zero, List.cons_append, List.nil_append, sel_of d2] at ha
              subst ha
              rw [if_pos (by rfl)]
              go_simp
              refine hK.out _ _ ⟨?_, hO⟩
              simp only [fill_eq, List.take_succ_cons, List.take_zero, List.cons_append, List.nil_append, Act.put, List.setIfInBounds_toArray, List.set_cons_zero, List.set_cons_succ, sel_new, sel_dep d2]
              rfl
          · as_aux_lemma =>
              rintro l a wr ⟨ha, hO⟩ hl hd K' hK
              have d2 := hd 2 (by decide)
              have d8 := hd 8 (by decide)
              have hx := X34.out; subst hx
              have hx := X40.out; subst hx
              have hx := X41.out; subst hx
              simp only [fill_eq, List.take_succ_cons, List.take_zero, List.cons_append, List.nil_append, sel_of d2, sel_of d8] at ha
              subst ha
              rw [if_pos (by rfl)]
              go_simp
              refine hK.out _ _ ⟨?_, hO⟩
              simp only [fill_eq, List.take_succ_cons, List.take_zero, List.cons_append, List.nil_append, Act.put, List.setIfInBounds_toArray, List.set_cons_zero, List.set_cons_succ, sel_new, sel_dep d2, sel_dep d8]
              rfl
          · as_aux_lemma =>
              rintro l a wr ⟨ha, hO⟩ hl hd K' hK
              have d2 := hd 2 (by decide)
              have d7 := hd 7 (by decide)
              have d9 := hd 9 (by decide)
              have hx := X34.out; subst hx
              have hx := X39.out; subst hx
              have hx := X41.out; subst hx
              have hx := X42.out; subst hx
              simp only [fill_eq, List.take_succ_cons, List.take_zero, List.cons_append, List.nil_append, sel_of d2, sel_of d7, sel_of d9] at ha
              subst ha
              rw [if_pos (by rfl)]
              go_simp
              refine hK.out _ _ ⟨?_, hO⟩
              simp only [fill_eq, List.take_succ_cons, List.take_zero, List.cons_append, List.nil_append, Act.put, List.setIfInBounds_toArray, List.set_cons_zero, List.set_cons_succ, sel_new, sel_dep d2, sel_dep d7, sel_dep d9]
              rfl
          · as_aux_lemma =>
              rintro l a wr ⟨ha, hO⟩ hl hd K' hK
              have d2 := hd 2 (by decide)
              have d10 := hd 10 (by decide)
              have hx := X34.out; subst hx
              have hx := X42.out; subst hx
              have hx := X43.out; subst hx
              simp only [fill_eq, List.take_succ_cons, List.take_zero, List.cons_append, List.nil_append, sel_of d2, sel_of d10] at ha
              subst ha
              have hc := HK.out wr hO
              have p0 := hc.2.1
              clear hc
              rw [if_pos (by rfl)]
              go_simp
              refine hK.out _ _ ⟨?_, hO⟩
              simp only [fill_eq, List.take_succ_cons, List.take_zero, List.cons_append, List.nil_append, Act.put, List.setIfInBounds_toArray, List.set_cons_zero, List.set_cons_succ, sel_new, sel_dep d2, sel_dep d10]
              rfl
          · as_aux_lemma =>
              rintro l a wr ⟨ha, hO⟩ hl hd K' hK
              have d2 := hd 2 (by decide)
              have hx := X34.out; subst hx
              have hx := X44.out; subst hx
              simp only [fill_eq, List.take_succ_cons, List.take_zero, List.cons_append, List.nil_append, sel_of d2] at ha
              subst ha
              rw [if_pos (by rfl)]
              go_simp
              refine hK.out _ _ ⟨?_, hO⟩
              simp only [fill_eq, List.take_succ_cons, List.take_zero, List.cons_append, List.nil_append, Act.put, List.setIfInBounds_toArray, List.set_cons_zero, List.set_cons_succ, sel_new, sel_dep d2]
              rfl
          · as_aux_lemma =>
              rintro l a wr ⟨ha, hO⟩ hl hd K' hK
              have d2 := hd 2 (by decide)
              have d12 := hd 12 (by decide)
              have hx := X34.out; subst hx
              have hx := X44.out; subst hx
              have hx := X45.out; subst hx
              simp only [fill_eq, List.take_succ_cons, List.take_zero, List.cons_append, List.nil_append, sel_of d2, sel_of d12] at ha
              subst ha
              rw [if_pos (by rfl)]
              go_simp
              refine hK.out _ _ ⟨?_, hO⟩
              simp only [fill_eq, List.take_succ_cons, List.take_zero, List.cons_append, List.nil_append, Act.put, List.setIfInBounds_toArray, List.set_cons_zero, List.set_cons_succ, sel_new, sel_dep d2, sel_dep d12]
              rfl
          · as_aux_lemma =>
              rintro l a wr ⟨ha, hO⟩ hl hd K' hK
              have d2 := hd 2 (by decide)
              have d13 := hd 13 (by decide)
              have hx := X34.out; subst hx
              have hx := X45.out; subst hx
              have hx := X46.out; subst hx
              simp only [fill_eq, List.take_succ_cons, List.take_zero, List.cons_append, List.nil_append, sel_of d2, sel_of d13] at ha
              subst ha
              have hc := HK.out wr hO
              have p0 := hc.2.2.1
              clear hc
              rw [if_pos (by rfl)]
              go_simp
              refine hK.out _ _ ⟨?_, hO⟩
              simp only [fill_eq, List.take_succ_cons, List.take_zero, List.cons_append, List.nil_append, Act.put, List.setIfInBounds_toArray, List.set_cons_zero, List.set_cons_succ, sel_new, sel_dep d2, sel_dep d13]
              rfl
          · as_aux_lemma =>
              rintro l a wr ⟨ha, hO⟩ hl hd K' hK
              have d2 := hd 2 (by decide)
              have d11 := hd 11 (by decide)
              have d14 := hd 14 (by decide)
              have hx := X34.out; subst hx
              have hx := X43.out; subst hx
              have hx := X46.out; subst hx
              have hx := X47.out; subst hx
              simp only [fill_eq, List.take_succ_cons, List.take_zero, List.cons_append, List.nil_append, sel_of d2, sel_of d11, sel_of d14] at ha
              subst ha
              rw [if_pos (by rfl)]
              go_simp
              refine hK.out _ _ ⟨?_, hO⟩
              simp only [fill_eq, List.take_succ_cons, List.take_zero, List.cons_append, List.nil_append, Act.put, List.setIfInBounds_toArray, List.set_cons_zero, List.set_cons_succ, sel_new, sel_dep d2, sel_dep d11, sel_dep d14]
              rfl
          · as_aux_lemma =>
              rintro l a wr ⟨ha, hO⟩ hl hd K' hK
              have d2 := hd 2 (by decide)
              have d6 := hd 6 (by decide)
              have d15 := hd 15 (by decide)
              have hx := X34.out; subst hx
              have hx := X38.out; subst hx
              have hx := X47.out; subst hx
              have hx := X48.out; subst hx
              simp only [fill_eq, List.take_succ_cons, List.take_zero, List.cons_append, List.nil_append, sel_of d2, sel_of d6, sel_of d15] at ha
              subst ha
              rw [if_pos (by rfl)]
              go_simp
              refine (held_inv (HP.out wr) hO).mono ?_
              rintro e w1 ⟨rfl, hO1, hOW⟩
              go_wp2_with fail
              refine hK.out _ _ ⟨?_, hO1⟩
              simp only [fill_eq, List.take_succ_cons, List.take_zero, List.cons_append, List.nil_append, Act.put, List.setIfInBounds_toArray, List.set_cons_zero, List.set_cons_succ, sel_new, sel_dep d2, sel_dep d6, sel_dep d15]
              rfl
          · as_aux_lemma =>
              rintro l a wr ⟨ha, hO⟩ hl hd K' hK
              have d2 := hd 2 (by decide)
              have d16 := hd 16 (by decide)
              have hx := X34.out; subst hx
              have hx := X48.out; subst hx
              have hx := X49.out; subst hx
              simp only [fill_eq, List.take_succ_cons, List.take_zero, List.cons_append, List.nil_append, sel_of d2, sel_of d16] at ha
              subst ha
              rw [if_pos (by rfl)]
              go_simp
              refine hK.out _ _ ⟨?_, hO⟩
              simp only [fill_eq, List.take_succ_cons, List.take_zero, List.cons_append, List.nil_append, Act.put, List.setIfInBounds_toArray, List.set_cons_zero, List.set_cons_succ, sel_new, sel_dep d2, sel_dep d16]
              rfl
          · as_aux_lemma =>
              rintro l a wr ⟨ha, hO⟩ hl hd K' hK
              have d2 := hd 2 (by decide)
              have d17 := hd 17 (by decide)
              have hx := X34.out; subst hx
              have hx := X49.out; subst hx
              have hx := X50.out; subst hx
              simp only [fill_eq, List.take_succ_cons, List.take_zero, List.cons_append, List.nil_append, sel_of d2, sel_of d17] at ha
              subst ha
              rw [if_pos (by rfl)]
              go_simp
              refine hK.out _ _ ⟨?_, hO⟩
              simp only [fill_eq, List.take_succ_cons, List.take_zero, List.cons_append, List.nil_append, Act.put, List.setIfInBounds_toArray, List.set_cons_zero, List.set_cons_succ, sel_new, sel_dep d2, sel_dep d17]
              rfl
          · as_aux_lemma =>
              rintro l a wr ⟨ha, hO⟩ hl hd K' hK
              have d18 := hd 18 (by decide)
              have hx := X50.out; subst hx
              have hx := X51.out; subst hx
              simp only [fill_eq, List.take_succ_cons, List.take_zero, List.cons_append, List.nil_append, sel_of d18] at ha
              subst ha
              rw [if_pos (by rfl)]
              go_simp
              refine hK.out _ _ ⟨?_, hO⟩
              simp only [fill_eq, List.take_succ_cons, List.take_zero, List.cons_append, List.nil_append, Act.put, List.setIfInBounds_toArray, List.set_cons_zero, List.set_cons_succ, sel_new, sel_dep d18]
              rfl
          · as_aux_lemma =>
              rintro l a wr ⟨ha, hO⟩ hl hd K' hK
              have d19 := hd 19 (by decide)
              have hx := X51.out; subst hx
              have hx := X52.out; subst hx
              simp only [fill_eq, List.take_succ_cons, List.take_zero, List.cons_append, List.nil_append, sel_of d19] at ha
              subst ha
              rw [if_pos (by rfl)]
              go_simp
              refine hK.out _ _ ⟨?_, hO⟩
              simp only [fill_eq, List.take_succ_cons, List.take_zero, List.cons_append, List.nil_append, Act.put, List.setIfInBounds_toArray, List.set_cons_zero, List.set_cons_succ, sel_new, sel_dep d19]
              rfl
          · as_aux_lemma =>
              rintro l a wr ⟨ha, hO⟩ hl hd K' hK
              have d19 := hd 19 (by decide)
              have hx := X51.out; subst hx
              have hx := X53.out; subst hx
              simp only [fill_eq, List.take_succ_cons, List.take_zero, List.cons_append, List.nil_append, sel_of d19] at ha
              subst ha
              rw [if_pos (by rfl)]
              go_simp
              refine hK.out _ _ ⟨?_, hO⟩
              simp only [fill_eq, List.take_succ_cons, List.take_zero, List.cons_append, List.nil_append, Act.put, List.setIfInBounds_toArray, List.set_cons_zero, List.set_cons_succ, sel_new, sel_dep d19]
              rfl
          · as_aux_lemma =>
              rintro l a wr ⟨ha, hO⟩ hl hd K' hK
              have d19 := hd 19 (by decide)
              have d20 := hd 20 (by decide)
              have d21 := hd 21 (by decide)
              have hx := X51.out; subst hx
              have hx := X52.out; subst hx
              have hx := X53.out; subst hx
              have hx := X54.out; subst hx
              simp only [fill_eq, List.take_succ_cons, List.take_zero, List.cons_append, List.nil_append, sel_of d19, sel_of d20, sel_of d21] at ha
              subst ha
              rw [if_pos (by rfl)]
              go_simp
              refine hK.out _ _ ⟨?_, hO⟩
              simp only [fill_eq, List.take_succ_cons, List.take_zero, List.cons_append, List.nil_append, Act.put, List.setIfInBounds_toArray, List.set_cons_zero, List.set_cons_succ, sel_new, sel_dep d19, sel_dep d20, sel_dep d21]
              rfl
          · as_aux_lemma =>
              rintro l a wr ⟨ha, hO⟩ hl hd K' hK
              have d19 := hd 19 (by decide)
              have d22 := hd 22 (by decide)
              have hx := X51.out; subst hx
              have hx := X54.out; subst hx
              have hx := X55.out; subst hx
              simp only [fill_eq, List.take_succ_cons, List.take_zero, List.cons_append, List.nil_append, sel_of d19, sel_of d22] at ha
              subst ha
              have hc := HK.out wr hO
              have p0 := hc.1
              clear hc
              rw [if_pos (by rfl)]
              go_simp
              refine hK.out _ _ ⟨?_, hO⟩
              simp only [fill_eq, List.take_succ_cons, List.take_zero, List.cons_append, List.nil_append, Act.put, List.setIfInBounds_toArray, List.set_cons_zero, List.set_cons_succ, sel_new, sel_dep d19, sel_dep d22]
              rfl
          · as_aux_lemma =>
              rintro l a wr ⟨ha, hO⟩ hl hd K' hK
              have d19 := hd 19 (by decide)
              have hx := X51.out; subst hx
              have hx := X56.out; subst hx
              simp only [fill_eq, List.take_succ_cons, List.take_zero, List.cons_append, List.nil_append, sel_of d19] at ha
              subst ha
              rw [if_pos (by rfl)]
              go_simp
              refine hK.out _ _ ⟨?_, hO⟩
              simp only [fill_eq, List.take_succ_cons, List.take_zero, List.cons_append, List.nil_append, Act.put, List.setIfInBounds_toArray, List.set_cons_zero, List.set_cons_succ, sel_new, sel_dep d19]
              rfl
          · as_aux_lemma =>
              rintro l a wr ⟨ha, hO⟩ hl hd K' hK
              have d19 := hd 19 (by decide)
              have hx := X51.out; subst hx
              have hx := X57.out; subst hx
              simp only [fill_eq, List.take_succ_cons, List.take_zero, List.cons_append, List.nil_append, sel_of d19] at ha
              subst ha
              rw [if_pos (by rfl)]
              go_simp
              refine hK.out _ _ ⟨?_, hO⟩
              simp only [fill_eq, List.take_succ_cons, List.take_zero, List.cons_append, List.nil_append, Act.put, List.setIfInBounds_toArray, List.set_cons_zero, List.set_cons_succ, sel_new, sel_dep d19]
              rfl
          · as_aux_lemma =>
              rintro l a wr ⟨ha, hO⟩ hl hd K' hK
              have d19 := hd 19 (by decide)
              have d24 := hd 24 (by decide)
              have d25 := hd 25 (by decide)
              have hx := X51.out; subst hx
              have hx := X56.out; subst hx
              have hx := X57.out; subst hx
              have hx := X58.out; subst hx
              simp only [fill_eq, List.take_succ_cons, List.take_zero, List.cons_append, List.nil_append, sel_of d19, sel_of d24, sel_of d25] at ha
              subst ha
              rw [if_pos (by rfl)]
              go_simp
              refine hK.out _ _ ⟨?_, hO⟩
              simp only [fill_eq, List.take_succ_cons, List.take_zero, List.cons_append, List.nil_append, Act.put, List.setIfInBounds_toArray, List.set_cons_zero, List.set_cons_succ, sel_new, sel_dep d19, sel_dep d24, sel_dep d25]
              rfl
          · as_aux_lemma =>
              rintro l a wr ⟨ha, hO⟩ hl hd K' hK
              have d19 := hd 19 (by decide)
              have d26 := hd 26 (by decide)
              have hx := X51.out; subst hx
              have hx := X58.out; subst hx
              have hx := X59.out; subst hx
              simp only [fill_eq, List.take_succ_cons, List.take_zero, List.cons_append, List.nil_append, sel_of d19, sel_of d26] at ha
              subst ha
              have hc := HK.out wr hO
              have p0 := hc.1
              clear hc
              rw [if_pos (by rfl)]
              go_simp
              refine hK.out _ _ ⟨?_, hO⟩
              simp only [fill_eq, List.take_succ_cons, List.take_zero, List.cons_append, List.nil_append, Act.put, List.setIfInBounds_toArray, List.set_cons_zero, List.set_cons_succ, sel_new, sel_dep d19, sel_dep d26]
              rfl
          · as_aux_lemma =>
              rintro l a wr ⟨ha, hO⟩ hl hd K' hK
              have d19 := hd 19 (by decide)
              have d27 := hd 27 (by decide)
              have hx := X51.out; subst hx
              have hx := X59.out; subst hx
              have hx := X60.out; subst hx
              simp only [fill_eq, List.take_succ_cons, List.take_zero, List.cons_append, List.nil_append, sel_of d19, sel_of d27] at ha
              subst ha
              rw [if_pos (by rfl)]
              go_simp
              refine hK.out _ _ ⟨?_, hO⟩
              simp only [fill_eq, List.take_succ_cons, List.take_zero, List.cons_append, List.nil_append, Act.put, List.setIfInBounds_toArray, List.set_cons_zero, List.set_cons_succ, sel_new, sel_dep d19, sel_dep d27]
              rfl
          · as_aux_lemma =>
              rintro l a wr ⟨ha, hO⟩ hl hd K' hK
              have d19 := hd 19 (by decide)
              have hx := X51.out; subst hx
              have hx := X61.out; subst hx
              simp only [fill_eq, List.take_succ_cons, List.take_zero, List.cons_append, List.nil_append, sel_of d19] at ha
              subst ha
              rw [if_pos (by rfl)]
              go_simp
              refine hK.out _ _ ⟨?_, hO⟩
              simp only [fill_eq, List.take_succ_cons, List.take_zero, List.cons_append, List.nil_append, Act.put, List.setIfInBounds_toArray, List.set_cons_zero, List.set_cons_succ, sel_new, sel_dep d19]
              rfl
          · as_aux_lemma =>
              rintro l a wr ⟨ha, hO⟩ hl hd K' hK
              have d19 := hd 19 (by decide)
              have hx := X51.out; subst hx
              have hx := X62.out; subst hx
              simp only [fill_eq, List.take_succ_cons, List.take_zero, List.cons_append, List.nil_append, sel_of d19] at ha
              subst ha
              rw [if_pos (by rfl)]
              go_simp
              refine hK.out _ _ ⟨?_, hO⟩
              simp only [fill_eq, List.take_succ_cons, List.take_zero, List.cons_append, List.nil_append, Act.put, List.setIfInBounds_toArray, List.set_cons_zero, List.set_cons_succ, sel_new, sel_dep d19]
              rfl
          · as_aux_lemma =>
              rintro l a wr ⟨ha, hO⟩ hl hd K' hK
              have d19 := hd 19 (by decide)
              have d29 := hd 29 (by decide)
              have d30 := hd 30 (by decide)
              have hx := X51.out; subst hx
              have hx := X61.out; subst hx
              have hx := X62.out; subst hx
              have hx := X63.out; subst hx
              simp only [fill_eq, List.take_succ_cons, List.take_zero, List.cons_append, List.nil_append, sel_of d19, sel_of d29, sel_of d30] at ha
              subst ha
              rw [if_pos (by rfl)]
              go_simp
              refine hK.out _ _ ⟨?_, hO⟩
              simp only [fill_eq, List.take_succ_cons, List.take_zero, List.cons_append, List.nil_append, Act.put, List.setIfInBounds_toArray, List.set_cons_zero, List.set_cons_succ, sel_new, sel_dep d19, sel_dep d29, sel_dep d30]
              rfl
          · as_aux_lemma =>
              rintro l a wr ⟨ha, hO⟩ hl hd K' hK
              have d19 := hd 19 (by decide)
              have d31 := hd 31 (by decide)
              have hx := X51.out; subst hx
              have hx := X63.out; subst hx
              have hx := X64.out; subst hx
              simp only [fill_eq, List.take_succ_cons, List.take_zero, List.cons_append, List.nil_append, sel_of d19, sel_of d31] at ha
              subst ha
              have hc := HK.out wr hO
              have p0 := hc.1
              clear hc
              rw [if_pos (by rfl)]
              go_simp
              refine hK.out _ _ ⟨?_, hO⟩
              simp only [fill_eq, List.take_succ_cons, List.take_zero, List.cons_append, List.nil_append, Act.put, List.setIfInBounds_toArray, List.set_cons_zero, List.set_cons_succ, sel_new, sel_dep d19, sel_dep d31]
              rfl
          · as_aux_lemma =>
              rintro l a wr ⟨ha, hO⟩ hl hd K' hK
              have d19 := hd 19 (by decide)
              have d32 := hd 32 (by decide)
              have hx := X51.out; subst hx
              have hx := X64.out; subst hx
              have hx := X65.out; subst hx
              simp only [fill_eq, List.take_succ_cons, List.take_zero, List.cons_append, List.nil_append, sel_of d19, sel_of d32] at ha
              subst ha
              rw [if_pos (by rfl)]
              go_simp
              refine hK.out _ _ ⟨?_, hO⟩
              simp only [fill_eq, List.take_succ_cons, List.take_zero, List.cons_append, List.nil_append, Act.put, List.setIfInBounds_toArray, List.set_cons_zero, List.set_cons_succ, sel_new, sel_dep d19, sel_dep d32]
              rfl
          · as_aux_lemma =>
              rintro l a wr ⟨ha, hO⟩ hl hd K' hK
              have d19 := hd 19 (by decide)
              have d33 := hd 33 (by decide)
              have hx := X51.out; subst hx
              have hx := X65.out; subst hx
              have hx := X66.out; subst hx
              simp only [fill_eq, List.take_succ_cons, List.take_zero, List.cons_append, List.nil_append, sel_of d19, sel_of d33] at ha
              subst ha
              rw [if_pos (by rfl)]
              go_simp
              refine hK.out _ _ ⟨?_, hO⟩
              simp only [fill_eq, List.take_succ_cons, List.take_zero, List.cons_append, List.nil_append, Act.put, List.setIfInBounds_toArray, List.set_cons_zero, List.set_cons_succ, sel_new, sel_dep d19, sel_dep d33]
              rfl
          · as_aux_lemma =>
              rintro l a wr ⟨ha, hO⟩ hl hd K' hK
              have d19 := hd 19 (by decide)
              have d28 := hd 28 (by decide)
              have d34 := hd 34 (by decide)
              have hx := X51.out; subst hx
              have hx := X60.out; subst hx
              have hx := X66.out; subst hx
              have hx := X67.out; subst hx
              simp only [fill_eq, List.take_succ_cons, List.take_zero, List.cons_append, List.nil_append, sel_of d19, sel_of d28, sel_of d34] at ha
              subst ha
              rw [if_pos (by rfl)]
              go_simp
              refine hK.out _ _ ⟨?_, hO⟩
              simp only [fill_eq, List.take_succ_cons, List.take_zero, List.cons_append, List.nil_append, Act.put, List.setIfInBounds_toArray, List.set_cons_zero, List.set_cons_succ, sel_new, sel_dep d19, sel_dep d28, sel_dep d34]
              rfl
          · as_aux_lemma =>
              rintro l a wr ⟨ha, hO⟩ hl hd K' hK
              have d19 := hd 19 (by decide)
              have d23 := hd 23 (by decide)
              have d35 := hd 35 (by decide)
              have hx := X51.out; subst hx
              have hx := X55.out; subst hx
              have hx := X67.out; subst hx
              have hx := X68.out; subst hx
              simp only [fill_eq, List.take_succ_cons, List.take_zero, List.cons_append, List.nil_append, sel_of d19, sel_of d23, sel_of d35] at ha
              subst ha
              rw [if_pos (by rfl)]
              go_simp
              refine hK.out _ _ ⟨?_, hO⟩
              simp only [fill_eq, List.take_succ_cons, List.take_zero, List.cons_append, List.nil_append, Act.put, List.setIfInBounds_toArray, List.set_cons_zero, List.set_cons_succ, sel_new, sel_dep d19, sel_dep d23, sel_dep d35]
              rfl
          · as_aux_lemma =>
              rintro l a wr ⟨ha, hO⟩ hl hd K' hK
              have d19 := hd 19 (by decide)
              have d36 := hd 36 (by decide)
              have hx := X51.out; subst hx
              have hx := X68.out; subst hx
              have hx := X69.out; subst hx
              simp only [fill_eq, List.take_succ_cons, List.take_zero, List.cons_append, List.nil_append, sel_of d19, sel_of d36] at ha
              subst ha
              rw [if_pos (by rfl)]
              go_simp
              refine (held_inv (HQ2.out wr) hO).mono ?_
              rintro e w1 ⟨rfl, hO1, hOW⟩
              go_wp2_with fail
              refine hK.out _ _ ⟨?_, hO1⟩
              simp only [fill_eq, List.take_succ_cons, List.take_zero, List.cons_append, List.nil_append, Act.put, List.setIfInBounds_toArray, List.set_cons_zero, List.set_cons_succ, sel_new, sel_dep d19, sel_dep d36]
              rfl
          · as_aux_lemma =>
              rintro l a wr ⟨ha, hO⟩ hl hd K' hK
              have d19 := hd 19 (by decide)
              have d37 := hd 37 (by decide)
              have hx := X51.out; subst hx
              have hx := X69.out; subst hx
              have hx := X70.out; subst hx
              simp only [fill_eq, List.take_succ_cons, List.take_zero, List.cons_append, List.nil_append, sel_of d19, sel_of d37] at ha
              subst ha
              rw [if_pos (by rfl)]
              go_simp
              refine hK.out _ _ ⟨?_, hO⟩
              simp only [fill_eq, List.take_succ_cons, List.take_zero, List.cons_append, List.nil_append, Act.put, List.setIfInBounds_toArray, List.set_cons_zero, List.set_cons_succ, sel_new, sel_dep d19, sel_dep d37]
              rfl
          · as_aux_lemma =>
              rintro l a wr ⟨ha, hO⟩ hl hd K' hK
              have d19 := hd 19 (by decide)
              have d38 := hd 38 (by decide)
              have hx := X51.out; subst hx
              have hx := X70.out; subst hx
              have hx := X71.out; subst hx
              simp only [fill_eq, List.take_succ_cons, List.take_zero, List.cons_append, List.nil_append, sel_of d19, sel_of d38] at ha
              subst ha
              rw [if_pos (by rfl)]
              go_simp
              refine hK.out _ _ ⟨?_, hO⟩
              simp only [fill_eq, List.take_succ_cons, List.take_zero, List.cons_append, List.nil_append, Act.put, List.setIfInBounds_toArray, List.set_cons_zero, List.set_cons_succ, sel_new, sel_dep d19, sel_dep d38]
              rfl
          · rintro l a wc ⟨ha, hO⟩ hd
            simp only [fill_eq, List.take_succ_cons, List.take_zero, List.cons_append, List.nil_append, sel_of (hd 0 (by decide)), sel_of (hd 1 (by decide)), sel_of (hd 2 (by decide)), sel_of (hd 3 (by decide)), sel_of (hd 4 (by decide)), sel_of (hd 5 (by decide)), sel_of (hd 6 (by decide)), sel_of (hd 7 (by decide)), sel_of (hd 8 (by decide)), sel_of (hd 9 (by decide)), sel_of (hd 10 (by decide)), sel_of (hd 11 (by decide)), sel_of (hd 12 (by decide)), sel_of (hd 13 (by decide)), sel_of (hd 14 (by decide)), sel_of (hd 15 (by decide)), sel_of (hd 16 (by decide)), sel_of (hd 17 (by decide)), sel_of (hd 18 (by decide)), sel_of (hd 19 (by decide)), sel_of (hd 20 (by decide)), sel_of (hd 21 (by decide)), sel_of (hd 22 (by decide)), sel_of (hd 23 (by decide)), sel_of (hd 24 (by decide)), sel_of (hd 25 (by decide)), sel_of (hd 26 (by decide)), sel_of (hd 27 (by decide)), sel_of (hd 28 (by decide)), sel_of (hd 29 (by decide)), sel_of (hd 30 (by decide)), sel_of (hd 31 (by decide)), sel_of (hd 32 (by decide)), sel_of (hd 33 (by decide)), sel_of (hd 34 (by decide)), sel_of (hd 35 (by decide)), sel_of (hd 36 (by decide)), sel_of (hd 37 (by decide)), sel_of (hd 38 (by decide)), sel_of (hd 39 (by decide))] at ha
            subst ha
            have hx := X71.out; subst hx
            skip
            have HO2 := Lib.hid hO
            clear hO
            go_wp2_with fail
            go_roundw
            case rel => exact ⟨k + 1, by omega, by simp, HO.out.trans HO2.out (fun _ _ c => c)⟩
            case measure => simp [intOf] <;> omega
        · obtain rfl : k = 0 := by omega
          have HK := Lib.hid (show ∀ W', Off (fun _ => False) wr W' → W'.cell? ⟨g, 0, none⟩ = some (.complex .f64 (f 0).1 (f 0).2) ∧ Off (fun _ => False) wr W' from fun W' h => ⟨h.cell m1 (fun c => c), h⟩)
          clear hO hL2 hq2 cq2 okp hk0 m1
          go_upto_region 9 with fail
          obtain ⟨x32, hx⟩ : ∃ x : Value, x = .int .i64 0 := ⟨_, rfl⟩
          have X32 := Lib.hid hx
          clear hx
          obtain ⟨x33, hx⟩ : ∃ x : Value, x = .bool false := ⟨_, rfl⟩
          have X33 := Lib.hid hx
          clear hx
          obtain ⟨x34, hx⟩ : ∃ x : Value, x = .bool false := ⟨_, rfl⟩
          have X34 := Lib.hid hx
          clear hx
          obtain ⟨x35, hx⟩ : ∃ x : Value, x = undef := ⟨_, rfl⟩
          have X35 := Lib.hid hx
          clear hx
          obtain ⟨x36, hx⟩ : ∃ x : Value, x = undef := ⟨_, rfl⟩
          have X36 := Lib.hid hx
          clear hx
          obtain ⟨x37, hx⟩ : ∃ x : Value, x = undef := ⟨_, rfl⟩
          have X37 := Lib.hid hx
          clear hx
          obtain ⟨x38, hx⟩ : ∃ x : Value, x = undef := ⟨_, rfl⟩
          have X38 := Lib.hid hx
          clear hx
          obtain ⟨x39, hx⟩ : ∃ x : Value, x = undef := ⟨_, rfl⟩
          have X39 := Lib.hid hx
          clear hx
          obtain ⟨x40, hx⟩ : ∃ x : Value, x = undef := ⟨_, rfl⟩
          have X40 := Lib.hid hx
          clear hx
          obtain ⟨x41, hx⟩ : ∃ x : Value, x = undef := ⟨_, rfl⟩
          have X41 := Lib.hid hx
          clear hx
          obtain ⟨x42, hx⟩ : ∃ x : Value, x = undef := ⟨_, rfl⟩
          have X42 := Lib.hid hx
          clear hx
          obtain ⟨x43, hx⟩ : ∃ x : Value, x = undef := ⟨_, rfl⟩
          have X43 := Lib.hid hx
          clear hx
          obtain ⟨x44, hx⟩ : ∃ x : Value, x = undef := ⟨_, rfl⟩
          have X44 := Lib.hid hx
          clear hx
          obtain ⟨x45, hx⟩ : ∃ x : Value, x = undef := ⟨_, rfl⟩
          have X45 := Lib.hid hx
          clear hx
          obtain ⟨x46, hx⟩ : ∃ x : Value, x = undef := ⟨_, rfl⟩
          have X46 := Lib.hid hx
          clear hx
          obtain ⟨x47, hx⟩ : ∃ x : Value, x = undef := ⟨_, rfl⟩
          have X47 := Lib.hid hx
          clear hx
          obtain ⟨x48, hx⟩ : ∃ x : Value, x = undef := ⟨_, rfl⟩
          have X48 := Lib.hid hx
          clear hx
          obtain ⟨x49, hx⟩ : ∃ x : Value, x = undef := ⟨_, rfl⟩
          have X49 := Lib.hid hx
          clear hx
          obtain ⟨x50, hx⟩ : ∃ x : Value, x = .bool false := ⟨_, rfl⟩
          have X50 := Lib.hid hx
          clear hx
          obtain ⟨x51, hx⟩ : ∃ x : Value, x = .bool false := ⟨_, rfl⟩
          have X51 := Lib.hid hx
          clear hx
          obtain ⟨x52, hx⟩ : ∃ x : Value, x = .slice (some ⟨g, 0, none⟩) n n := ⟨_, rfl⟩
          have X52 := Lib.hid hx
          clear hx
          obtain ⟨x53, hx⟩ : ∃ x : Value, x = .int .i64 0 := ⟨_, rfl⟩
          have X53 := Lib.hid hx
          clear hx
          obtain ⟨x54, hx⟩ : ∃ x : Value, x = .pointer (some ⟨g, 0, none⟩) := ⟨_, rfl⟩
          have X54 := Lib.hid hx
          clear hx
          obtain ⟨x55, hx⟩ : ∃ x : Value, x = .complex .f64 (f 0).1 (f 0).2 := ⟨_, rfl⟩
          have X55 := Lib.hid hx
          clear hx
          obtain ⟨x56, hx⟩ : ∃ x : Value, x = .slice (some ⟨g, 0, none⟩) n n := ⟨_, rfl⟩
          have X56 := Lib.hid hx
          clear hx
          obtain ⟨x57, hx⟩ : ∃ x : Value, x = .int .i64 0 := ⟨_, rfl⟩
          have X57 := Lib.hid hx
          clear hx
          obtain ⟨x58, hx⟩ : ∃ x : Value, x = .pointer (some ⟨g, 0, none⟩) := ⟨_, rfl⟩
          have X58 := Lib.hid hx
          clear hx
          obtain ⟨x59, hx⟩ : ∃ x : Value, x = .complex .f64 (f 0).1 (f 0).2 := ⟨_, rfl⟩
          have X59 := Lib.hid hx
          clear hx
          obtain ⟨x60, hx⟩ : ∃ x : Value, x = .float .f64 (f 0).1 := ⟨_, rfl⟩
          have X60 := Lib.hid hx
          clear hx
          obtain ⟨x61, hx⟩ : ∃ x : Value, x = .slice (some ⟨g, 0, none⟩) n n := ⟨_, rfl⟩
          have X61 := Lib.hid hx
          clear hx
          obtain ⟨x62, hx⟩ : ∃ x : Value, x = .int .i64 0 := ⟨_, rfl⟩
          have X62 := Lib.hid hx
          clear hx
          obtain ⟨x63, hx⟩ : ∃ x : Value, x = .pointer (some ⟨g, 0, none⟩) := ⟨_, rfl⟩
          have X63 := Lib.hid hx
          clear hx
          obtain ⟨x64, hx⟩ : ∃ x : Value, x = .complex .f64 (f 0).1 (f 0).2 := ⟨_, rfl⟩
          have X64 := Lib.hid hx
          clear hx
          obtain ⟨x65, hx⟩ : ∃ x : Value, x = .float .f64 (f 0).2 := ⟨_, rfl⟩
          have X65 := Lib.hid hx
          clear hx
          obtain ⟨x66, hx⟩ : ∃ x : Value, x = .float .f64 (Op.negFloat .f64 (f 0).2) := ⟨_, rfl⟩
          have X66 := Lib.hid hx
          clear hx
          obtain ⟨x67, hx⟩ : ∃ x : Value, x = .complex .f64 (f 0).1 (Op.negFloat .f64 (f 0).2) := ⟨_, rfl⟩
          have X67 := Lib.hid hx
          clear hx
          obtain ⟨x68, hx⟩ : ∃ x : Value, x = .complex .f64 (q2).1 (q2).2 := ⟨_, rfl⟩
          have X68 := Lib.hid hx
          clear hx
          obtain ⟨x69, hx⟩ : ∃ x : Value, x = .bool true := ⟨_, rfl⟩
          have X69 := Lib.hid hx
          clear hx
          obtain ⟨x70, hx⟩ : ∃ x : Value, x = .bool false := ⟨_, rfl⟩
          have X70 := Lib.hid hx
          clear hx
          obtain ⟨x71, hx⟩ : ∃ x : Value, x = .bool false := ⟨_, rfl⟩
          have X71 := Lib.hid hx
          clear hx
          refine wp_region_inv (fun a0 l a' w' => a' = (fill a0 32 [sel (l 0) x32 u32, sel (l 1) x33 u33, sel (l 2) x34 u34, sel (l 3) x35 u35, sel (l 4) x36 u36, sel (l 5) x37 u37, sel (l 6) x38 u38, sel (l 7) x39 u39, sel (l 8) x40 u40, sel (l 9) x41 u41, sel (l 10) x42 u42, sel (l 11) x43 u43, sel (l 12) x44 u44, sel (l 13) x45 u45, sel (l 14) x46 u46, sel (l 15) x47 u47, sel (l 16) x48 u48, sel (l 17) x49 u49, sel (l 18) x50 u50, sel (l 19) x51 u51, sel (l 20) x52 u52, sel (l 21) x53 u53, sel (l 22) x54 u54, sel (l 23) x55 u55, sel (l 24) x56 u56, sel (l 25) x57 u57, sel (l 26) x58 u58, sel (l 27) x59 u59, sel (l 28) x60 u60, sel (l 29) x61 u61, sel (l 30) x62 u62, sel (l 31) x63 u63, sel (l 32) x64 u64, sel (l 33) x65 u65, sel (l 34) x66 u66, sel (l 35) x67 u67, sel (l 36) x68 u68, sel (l 37) x69 u69, sel (l 38) x70 u70, sel (l 39) x71 u71, u72, undef, undef, undef, undef, undef, undef, undef, undef, undef, undef, undef, undef, undef, undef, undef]) ∧ Off (fun _ => False) wr w') (by kernel_rfl) (by kernel_rfl) ?_ ⟨?_, ?_, ?_, ?_, ?_, ?_, ?_, ?_, ?_, ?_, ?_, ?_, ?_, ?_, ?_, ?_, ?_, ?_, ?_, ?_, ?_, ?_, ?_, ?_, ?_, ?_, ?_, ?_, ?_, ?_, ?_, ?_, ?_, ?_, ?_, ?_, ?_, ?_, ?_, ?_, trivial⟩ ?_
          · refine ⟨?_, (Off.refl _ wr).drew⟩
            simp only [fill_eq, List.take_succ_cons, List.take_zero, List.cons_append, List.nil_append, sel_start]
          · as_aux_lemma =>
              rintro l a wr ⟨ha, hO⟩ hl hd K' hK
              have hx := X32.out; subst hx
              simp only [fill_eq, List.take_succ_cons, List.take_zero, List.cons_append, List.nil_append] at ha
              subst ha
              rw [if_pos (by rfl)]
              go_simp
              refine hK.out _ _ ⟨?_, hO⟩
              simp only [fill_eq, List.take_succ_cons, List.take_zero, List.cons_append, List.nil_append, Act.put, List.setIfInBounds_toArray, List.set_cons_zero, List.set_cons_succ, sel_new]
              rfl
          · as_aux_lemma =>
              rintro l a wr ⟨ha, hO⟩ hl hd K' hK
              have d0 := hd 0 (by decide)
              have hx := X32.out; subst hx
              have hx := X33.out; subst hx
              simp only [fill_eq, List.take_succ_cons, List.take_zero, List.cons_append, List.nil_append, sel_of d0] at ha
              subst ha
              rw [if_pos (by rfl)]
              go_simp
              refine hK.out _ _ ⟨?_, hO⟩
              simp only [fill_eq, List.take_succ_cons, List.take_zero, List.cons_append, List.nil_append, Act.put, List.setIfInBounds_toArray, List.set_cons_zero, List.set_cons_succ, sel_new, sel_dep d0]
              rfl
          · as_aux_lemma =>
              rintro l a wr ⟨ha, hO⟩ hl hd K' hK
              have d1 := hd 1 (by decide)
              have hx := X33.out; subst hx
              have hx := X34.out; subst hx
              simp only [fill_eq, List.take_succ_cons, List.take_zero, List.cons_append, List.nil_append, sel_of d1] at ha
              subst ha
              rw [if_pos (by rfl)]
              go_simp
              refine hK.out _ _ ⟨?_, hO⟩
              simp only [fill_eq, List.take_succ_cons, List.take_zero, List.cons_append, List.nil_append, Act.put, List.setIfInBounds_toArray, List.set_cons_zero, List.set_cons_succ, sel_new, sel_dep d1]
              rfl
          · as_aux_lemma =>
              rintro l a wr ⟨ha, hO⟩ hl hd K' hK
              have d2 := hd 2 (by decide)
              have hx := X34.out; subst hx
              have hx := X35.out; subst hx
              simp only [fill_eq, List.take_succ_cons, List.take_zero, List.cons_append, List.nil_append, sel_of d2] at ha
              subst ha
              rw [if_neg (by intro h; exact absurd (show (false : Bool) = true from h) (by decide))]
              refine hK.out _ _ ⟨?_, hO⟩
              simp only [fill_eq, List.take_succ_cons, List.take_zero, List.cons_append, List.nil_append, Act.put, List.setIfInBounds_toArray, List.set_cons_zero, List.set_cons_succ, sel_new, sel_dep d2]
              rfl
          · as_aux_lemma =>
              rintro l a wr ⟨ha, hO⟩ hl hd K' hK
              have d2 := hd 2 (by decide)
              have hx := X34.out; subst hx
              have hx := X36.out; subst hx
              simp only [fill_eq, List.take_succ_cons, List.take_zero, List.cons_append, List.nil_append, sel_of d2] at ha
              subst ha
              rw [if_neg (by intro h; exact absurd (show (false : Bool) = true from h) (by decide))]
              refine hK.out _ _ ⟨?_, hO⟩
              simp only [fill_eq, List.take_succ_cons, List.take_zero, List.cons_append, List.nil_append, Act.put, List.setIfInBounds_toArray, List.set_cons_zero, List.set_cons_succ, sel_new, sel_dep d2]
              rfl
          · as_aux_lemma =>
              rintro l a wr ⟨ha, hO⟩ hl hd K' hK
              have d2 := hd 2 (by decide)
              have hx := X34.out; subst hx
              have hx := X37.out; subst hx
              simp only [fill_eq, List.take_succ_cons, List.take_zero, List.cons_append, List.nil_append, sel_of d2] at ha
              subst ha
              rw [if_neg (by intro h; exact absurd (show (false : Bool) = true from h) (by decide))]
              refine hK.out _ _ ⟨?_, hO⟩
              simp only [fill_eq, List.take_succ_cons, List.take_zero, List.cons_append, List.nil_append, Act.put, List.setIfInBounds_toArray, List.set_cons_zero, List.set_cons_succ, sel_new, sel_dep d2]
              rfl
          · as_aux_lemma =>
              rintro l a wr ⟨ha, hO⟩ hl hd K' hK
              have d2 := hd 2 (by decide)
              have hx := X34.out; subst hx
              have hx := X38.out; subst hx
              simp only [fill_eq, List.take_succ_cons, List.take_zero, List.cons_append, List.nil_append, sel_of d2] at ha
              subst ha
              rw [if_neg (by intro h; exact absurd (show (false : Bool) = true from h) (by decide))]
              refine hK.out _ _ ⟨?_, hO⟩
              simp only [fill_eq, List.take_succ_cons, List.take_zero, List.cons_append, List.nil_append, Act.put, List.setIfInBounds_toArray, List.set_cons_zero, List.set_cons_succ, sel_new, sel_dep d2]
              rfl
          · as_aux_lemma =>
              rintro l a wr ⟨ha, hO⟩ hl hd K' hK
              have d2 := hd 2 (by decide)
              have hx := X34.out; subst hx
              have hx := X39.out; subst hx
              simp only [fill_eq, List.take_succ_cons, List.take_zero, List.cons_append, List.nil_append, sel_of d2] at ha
              subst ha
              rw [if_neg (by intro h; exact absurd (show (false : Bool) = true from h) (by decide))]
              refine hK.out _ _ ⟨?_, hO⟩
              simp only [fill_eq, List.take_succ_cons, List.take_zero, List.cons_append, List.nil_append, Act.put, List.setIfInBounds_toArray, List.set_cons_zero, List.set_cons_succ, sel_new, sel_dep d2]
              rfl
          · as_aux_lemma =>
              rintro l a wr ⟨ha, hO⟩ hl hd K' hK
              have d2 := hd 2 (by decide)
              have hx := X34.out; subst hx
              have hx := X40.out; subst hx
              simp only [fill_eq, List.take_succ_cons, List.take_zero, List.cons_append, List.nil_append, sel_of d2] at ha
              subst ha
              rw [if_neg (by intro h; exact absurd (show (false : Bool) = true from h) (by decide))]
              refine hK.out _ _ ⟨?_, hO⟩
              simp only [fill_eq, List.take_succ_cons, List.take_zero, List.cons_append, List.nil_append, Act.put, List.setIfInBounds_toArray, List.set_cons_zero, List.set_cons_succ, sel_new, sel_dep d2]
              rfl
          · as_aux_lemma =>
              rintro l a wr ⟨ha, hO⟩ hl hd K' hK
              have d2 := hd 2 (by decide)
              have hx := X34.out; subst hx
              have hx := X41.out; subst hx
              simp only [fill_eq, List.take_succ_cons, List.take_zero, List.cons_append, List.nil_append, sel_of d2] at ha
              subst ha
              rw [if_neg (by intro h; exact absurd (show (false : Bool) = true from h) (by decide))]
              refine hK.out _ _ ⟨?_, hO⟩
              simp only [fill_eq, List.take_succ_cons, List.take_zero, List.cons_append, List.nil_append, Act.put, List.setIfInBounds_toArray, List.set_cons_zero, List.set_cons_succ, sel_new, sel_dep d2]
              rfl
          · as_aux_lemma =>
              rintro l a wr ⟨ha, hO⟩ hl hd K' hK
              have d2 := hd 2 (by decide)
              have hx := X34.out; subst hx
              have hx := X42.out; subst hx
              simp only [fill_eq, List.take_succ_cons, List.take_zero, List.cons_append, List.nil_append, sel_of d2] at ha
              subst ha
              rw [if_neg (by intro h; exact absurd (show (false : Bool) = true from h) (by decide))]
              refine hK.out _ _ ⟨?_, hO⟩
              simp only [fill_eq, List.take_succ_cons, List.take_zero, List.cons_append, List.nil_append, Act.put, List.setIfInBounds_toArray, List.set_cons_zero, List.set_cons_succ, sel_new, sel_dep d2]
              rfl
          · as_aux_lemma =>
              rintro l a wr ⟨ha, hO⟩ hl hd K' hK
              have d2 := hd 2 (by decide)
              have hx := X34.out; subst hx
              have hx := X43.out; subst hx
              simp only [fill_eq, List.take_succ_cons, List.take_zero, List.cons_append, List.nil_append, sel_of d2] at ha
              subst ha
              rw [if_neg (by intro h; exact absurd (show (false : Bool) = true from h) (by decide))]
              refine hK.out _ _ ⟨?_, hO⟩
              simp only [fill_eq, List.take_succ_cons, List.take_zero, List.cons_append, List.nil_append, Act.put, List.setIfInBounds_toArray, List.set_cons_zero, List.set_cons_succ, sel_new, sel_dep d2]
              rfl
          · as_aux_lemma =>
              rintro l a wr ⟨ha, hO⟩ hl hd K' hK
              have d2 := hd 2 (by decide)
              have hx := X34.out; subst hx
              have hx := X44.out; subst hx
              simp only [fill_eq, List.take_succ_cons, List.take_zero, List.cons_append, List.nil_append, sel_of d2] at ha
              subst ha
              rw [if_neg (by intro h; exact absurd (show (false : Bool) = true from h) (by decide))]
              refine hK.out _ _ ⟨?_, hO⟩
              simp only [fill_eq, List.take_succ_cons, List.take_zero, List.cons_append, List.nil_append, Act.put, List.setIfInBounds_toArray, List.set_cons_zero, List.set_cons_succ, sel_new, sel_dep d2]
              rfl
          · as_aux_lemma =>
              rintro l a wr ⟨ha, hO⟩ hl hd K' hK
              have d2 := hd 2 (by decide)
              have hx := X34.out; subst hx
              have hx := X45.out; subst hx
              simp only [fill_eq, List.take_succ_cons, List.take_zero, List.cons_append, List.nil_append, sel_of d2] at ha
              subst ha
              rw [if_neg (by intro h; exact absurd (show (false : Bool) = true from h) (by decide))]
              refine hK.out _ _ ⟨?_, hO⟩
              simp only [fill_eq, List.take_succ_cons, List.take_zero, List.cons_append, List.nil_append, Act.put, List.setIfInBounds_toArray, List.set_cons_zero, List.set_cons_succ, sel_new, sel_dep d2]
              rfl
          · as_aux_lemma =>
              rintro l a wr ⟨ha, hO⟩ hl hd K' hK
              have d2 := hd 2 (by decide)
              have hx := X34.out; subst hx
              have hx := X46.out; subst hx
              simp only [fill_eq, List.take_succ_cons, List.take_zero, List.cons_append, List.nil_append, sel_of d2] at ha
              subst ha
              rw [if_neg (by intro h; exact absurd (show (false : Bool) = true from h) (by decide))]
              refine hK.out _ _ ⟨?_, hO⟩
              simp only [fill_eq, List.take_succ_cons, List.take_zero, List.cons_append, List.nil_append, Act.put, List.setIfInBounds_toArray, List.set_cons_zero, List.set_cons_succ, sel_new, sel_dep d2]
              rfl
          · as_aux_lemma =>
              rintro l a wr ⟨ha, hO⟩ hl hd K' hK
              have d2 := hd 2 (by decide)
              have hx := X34.out; subst hx
              have hx := X47.out; subst hx
              simp only [fill_eq, List.take_succ_cons, List.take_zero, List.cons_append, List.nil_append, sel_of d2] at ha
              subst ha
              rw [if_neg (by intro h; exact absurd (show (false : Bool) = true from h) (by decide))]
              refine hK.out _ _ ⟨?_, hO⟩
              simp only [fill_eq, List.take_succ_cons, List.take_zero, List.cons_append, List.nil_append, Act.put, List.setIfInBounds_toArray, List.set_cons_zero, List.set_cons_succ, sel_new, sel_dep d2]
              rfl
          · as_aux_lemma =>
              rintro l a wr ⟨ha, hO⟩ hl hd K' hK
              have d2 := hd 2 (by decide)
              have hx := X34.out; subst hx
              have hx := X48.out; subst hx
              simp only [fill_eq, List.take_succ_cons, List.take_zero, List.cons_append, List.nil_append, sel_of d2] at ha
              subst ha
              rw [if_neg (by intro h; exact absurd (show (false : Bool) = true from h) (by decide))]
              refine hK.out _ _ ⟨?_, hO⟩
              simp only [fill_eq, List.take_succ_cons, List.take_zero, List.cons_append, List.nil_append, Act.put, List.setIfInBounds_toArray, List.set_cons_zero, List.set_cons_succ, sel_new, sel_dep d2]
              rfl
          · as_aux_lemma =>
              rintro l a wr ⟨ha, hO⟩ hl hd K' hK
              have d2 := hd 2 (by decide)
              have hx := X34.out; subst hx
              have hx := X49.out; subst hx
              simp only [fill_eq, List.take_succ_cons, List.take_zero, List.cons_append, List.nil_append, sel_of d2] at ha
              subst ha
              rw [if_neg (by intro h; exact absurd (show (false : Bool) = true from h) (by decide))]
              refine hK.out _ _ ⟨?_, hO⟩
              simp only [fill_eq, List.take_succ_cons, List.take_zero, List.cons_append, List.nil_append, Act.put, List.setIfInBounds_toArray, List.set_cons_zero, List.set_cons_succ, sel_new, sel_dep d2]
              rfl
          · as_aux_lemma =>
              rintro l a wr ⟨ha, hO⟩ hl hd K' hK
              have d2 := hd 2 (by decide)
              have hx := X34.out; subst hx
              have hx := X50.out; subst hx
              simp only [fill_eq, List.take_succ_cons, List.take_zero, List.cons_append, List.nil_append, sel_of d2] at ha
              subst ha
              rw [if_pos (by rfl)]
              go_simp
              refine hK.out _ _ ⟨?_, hO⟩
              simp only [fill_eq, List.take_succ_cons, List.take_zero, List.cons_append, List.nil_append, Act.put, List.setIfInBounds_toArray, List.set_cons_zero, List.set_cons_succ, sel_new, sel_dep d2]
              rfl
          · as_aux_lemma =>
              rintro l a wr ⟨ha, hO⟩ hl hd K' hK
              have d18 := hd 18 (by decide)
              have hx := X50.out; subst hx
              have hx := X51.out; subst hx
              simp only [fill_eq, List.take_succ_cons, List.take_zero, List.cons_append, List.nil_append, sel_of d18] at ha
              subst ha
              rw [if_pos (by rfl)]
              go_simp
              refine hK.out _ _ ⟨?_, hO⟩
              simp only [fill_eq, List.take_succ_cons, List.take_zero, List.cons_append, List.nil_append, Act.put, List.setIfInBounds_toArray, List.set_cons_zero, List.set_cons_succ, sel_new, sel_dep d18]
              rfl
          · as_aux_lemma =>
              rintro l a wr ⟨ha, hO⟩ hl hd K' hK
              have d19 := hd 19 (by decide)
              have hx := X51.out; subst hx
              have hx := X52.out; subst hx
              simp only [fill_eq, List.take_succ_cons, List.take_zero, List.cons_append, List.nil_append, sel_of d19] at ha
              subst ha
              rw [if_pos (by rfl)]
              go_simp
              refine hK.out _ _ ⟨?_, hO⟩
              simp only [fill_eq, List.take_succ_cons, List.take_zero, List.cons_append, List.nil_append, Act.put, List.setIfInBounds_toArray, List.set_cons_zero, List.set_cons_succ, sel_new, sel_dep d19]
              rfl
          · as_aux_lemma =>
              rintro l a wr ⟨ha, hO⟩ hl hd K' hK
              have d19 := hd 19 (by decide)
              have hx := X51.out; subst hx
              have hx := X53.out; subst hx
              simp only [fill_eq, List.take_succ_cons, List.take_zero, List.cons_append, List.nil_append, sel_of d19] at ha
              subst ha
              rw [if_pos (by rfl)]
              go_simp
              refine hK.out _ _ ⟨?_, hO⟩
              simp only [fill_eq, List.take_succ_cons, List.take_zero, List.cons_append, List.nil_append, Act.put, List.setIfInBounds_toArray, List.set_cons_zero, List.set_cons_succ, sel_new, sel_dep d19]
              rfl
          · as_aux_lemma =>
              rintro l a wr ⟨ha, hO⟩ hl hd K' hK
              have d19 := hd 19 (by decide)
              have d20 := hd 20 (by decide)
              have d21 := hd 21 (by decide)
              have hx := X51.out; subst hx
              have hx := X52.out; subst hx
              have hx := X53.out; subst hx
              have hx := X54.out; subst hx
              simp only [fill_eq, List.take_succ_cons, List.take_zero, List.cons_append, List.nil_append, sel_of d19, sel_of d20, sel_of d21] at ha
              subst ha
              rw [if_pos (by rfl)]
              go_simp
              refine hK.out _ _ ⟨?_, hO⟩
              simp only [fill_eq, List.take_succ_cons, List.take_zero, List.cons_append, List.nil_append, Act.put, List.setIfInBounds_toArray, List.set_cons_zero, List.set_cons_succ, sel_new, sel_dep d19, sel_dep d20, sel_dep d21]
              rfl
          · as_aux_lemma =>
              rintro l a wr ⟨ha, hO⟩ hl hd K' hK
              have d19 := hd 19 (by decide)
              have d22 := hd 22 (by decide)
              have hx := X51.out; subst hx
              have hx := X54.out; subst hx
              have hx := X55.out; subst hx
              simp only [fill_eq, List.take_succ_cons, List.take_zero, List.cons_append, List.nil_append, sel_of d19, sel_of d22] at ha
              subst ha
              have hc := HK.out wr hO
              have p0 := hc.1
              clear hc
              rw [if_pos (by rfl)]
              go_simp
              refine hK.out _ _ ⟨?_, hO⟩
              simp only [fill_eq, List.take_succ_cons, List.take_zero, List.cons_append, List.nil_append, Act.put, List.setIfInBounds_toArray, List.set_cons_zero, List.set_cons_succ, sel_new, sel_dep d19, sel_dep d22]
              rfl
          · as_aux_lemma =>
              rintro l a wr ⟨ha, hO⟩ hl hd K' hK
              have d19 := hd 19 (by decide)
              have hx := X51.out; subst hx
              have hx := X56.out; subst hx
              simp only [fill_eq, List.take_succ_cons, List.take_zero, List.cons_append, List.nil_append, sel_of d19] at ha
              subst ha
              rw [if_pos (by rfl)]
              go_simp
              refine hK.out _ _ ⟨?_, hO⟩
              simp only [fill_eq, List.take_succ_cons, List.take_zero, List.cons_append, List.nil_append, Act.put, List.setIfInBounds_toArray, List.set_cons_zero, List.set_cons_succ, sel_new, sel_dep d19]
              rfl
          · as_aux_lemma =>
              rintro l a wr ⟨ha, hO⟩ hl hd K' hK
              have d19 := hd 19 (by decide)
              have hx := X51.out; subst hx
              have hx := X57.out; subst hx
              simp only [fill_eq, List.take_succ_cons, List.take_zero, List.cons_append, List.nil_append, sel_of d19] at ha
              subst ha
              rw [if_pos (by rfl)]
              go_simp
              refine hK.out _ _ ⟨?_, hO⟩
              simp only [fill_eq, List.take_succ_cons, List.take_zero, List.cons_append, List.nil_append, Act.put, List.setIfInBounds_toArray, List.set_cons_zero, List.set_cons_succ, sel_new, sel_dep d19]
              rfl
          · as_aux_lemma =>
              rintro l a wr ⟨ha, hO⟩ hl hd K' hK
              have d19 := hd 19 (by decide)
              have d24 := hd 24 (by decide)
              have d25 := hd 25 (by decide)
              have hx := X51.out; subst hx
              have hx := X56.out; subst hx
              have hx := X57.out; subst hx
              have hx := X58.out; subst hx
              simp only [fill_eq, List.take_succ_cons, List.take_zero, List.cons_append, List.nil_append, sel_of d19, sel_of d24, sel_of d25] at ha
              subst ha
              rw [if_pos (by rfl)]
              go_simp
              refine hK.out _ _ ⟨?_, hO⟩
              simp only [fill_eq, List.take_succ_cons, List.take_zero, List.cons_append, List.nil_append, Act.put, List.setIfInBounds_toArray, List.set_cons_zero, List.set_cons_succ, sel_new, sel_dep d19, sel_dep d24, sel_dep d25]
              rfl
          · as_aux_lemma =>
              rintro l a wr ⟨ha, hO⟩ hl hd K' hK
              have d19 := hd 19 (by decide)
              have d26 := hd 26 (by decide)
              have hx := X51.out; subst hx
              have hx := X58.out; subst hx
              have hx := X59.out; subst hx
              simp only [fill_eq, List.take_succ_cons, List.take_zero, List.cons_append, List.nil_append, sel_of d19, sel_of d26] at ha
              subst ha
              have hc := HK.out wr hO
              have p0 := hc.1
              clear hc
              rw [if_pos (by rfl)]
              go_simp
              refine hK.out _ _ ⟨?_, hO⟩
              simp only [fill_eq, List.take_succ_cons, List.take_zero, List.cons_append, List.nil_append, Act.put, List.setIfInBounds_toArray, List.set_cons_zero, List.set_cons_succ, sel_new, sel_dep d19, sel_dep d26]
              rfl
          · as_aux_lemma =>
              rintro l a wr ⟨ha, hO⟩ hl hd K' hK
              have d19 := hd 19 (by decide)
              have d27 := hd 27 (by decide)
              have hx := X51.out; subst hx
              have hx := X59.out; subst hx
              have hx := X60.out; subst hx
              simp only [fill_eq, List.take_succ_cons, List.take_zero, List.cons_append, List.nil_append, sel_of d19, sel_of d27] at ha
              subst ha
              rw [if_pos (by rfl)]
              go_simp
              refine hK.out _ _ ⟨?_, hO⟩
              simp only [fill_eq, List.take_succ_cons, List.take_zero, List.cons_append, List.nil_append, Act.put, List.setIfInBounds_toArray, List.set_cons_zero, List.set_cons_succ, sel_new, sel_dep d19, sel_dep d27]
              rfl
          · as_aux_lemma =>
              rintro l a wr ⟨ha, hO⟩ hl hd K' hK
              have d19 := hd 19 (by decide)
              have hx := X51.out; subst hx
              have hx := X61.out; subst hx
              simp only [fill_eq, List.take_succ_cons, List.take_zero, List.cons_append, List.nil_append, sel_of d19] at ha
              subst ha
              rw [if_pos (by rfl)]
              go_simp
              refine hK.out _ _ ⟨?_, hO⟩
              simp only [fill_eq, List.take_succ_cons, List.take_zero, List.cons_append, List.nil_append, Act.put, List.setIfInBounds_toArray, List.set_cons_zero, List.set_cons_succ, sel_new, sel_dep d19]
              rfl
          · as_aux_lemma =>
              rintro l a wr ⟨ha, hO⟩ hl hd K' hK
              have d19 := hd 19 (by decide)
              have hx := X51.out; subst hx
              have hx := X62.out; subst hx
              simp only [fill_eq, List.take_succ_cons, List.take_zero, List.cons_append, List.nil_append, sel_of d19] at ha
              subst ha
              rw [if_pos (by rfl)]
              go_simp
              refine hK.out _ _ ⟨?_, hO⟩
              simp only [fill_eq, List.take_succ_cons, List.take_zero, List.cons_append, List.nil_append, Act.put, List.setIfInBounds_toArray, List.set_cons_zero, List.set_cons_succ, sel_new, sel_dep d19]
              rfl
          · as_aux_lemma =>
              rintro l a wr ⟨ha, hO⟩ hl hd K' hK
              have d19 := hd 19 (by decide)
              have d29 := hd 29 (by decide)
              have d30 := hd 30 (by decide)
              have hx := X51.out; subst hx
              have hx := X61.out; subst hx
              have hx := X62.out; subst hx
              have hx := X63.out; subst hx
              simp only [fill_eq, List.take_succ_cons, List.take_zero, List.cons_append, List.nil_append, sel_of d19, sel_of d29, sel_of d30] at ha
              subst ha
              rw [if_pos (by rfl)]
              go_simp
              refine hK.out _ _ ⟨?_, hO⟩
              simp only [fill_eq, List.take_succ_cons, List.take_zero, List.cons_append, List.nil_append, Act.put, List.setIfInBounds_toArray, List.set_cons_zero, List.set_cons_succ, sel_new, sel_dep d19, sel_dep d29, sel_dep d30]
              rfl
          · as_aux_lemma =>
              rintro l a wr ⟨ha, hO⟩ hl hd K' hK
              have d19 := hd 19 (by decide)
              have d31 := hd 31 (by decide)
              have hx := X51.out; subst hx
              have hx := X63.out; subst hx
              have hx := X64.out; subst hx
              simp only [fill_eq, List.take_succ_cons, List.take_zero, List.cons_append, List.nil_append, sel_of d19, sel_of d31] at ha
              subst ha
              have hc := HK.out wr hO
              have p0 := hc.1
              clear hc
              rw [if_pos (by rfl)]
              go_simp
              refine hK.out _ _ ⟨?_, hO⟩
              simp only [fill_eq, List.take_succ_cons, List.take_zero, List.cons_append, List.nil_append, Act.put, List.setIfInBounds_toArray, List.set_cons_zero, List.set_cons_succ, sel_new, sel_dep d19, sel_dep d31]
              rfl
          · as_aux_lemma =>
              rintro l a wr ⟨ha, hO⟩ hl hd K' hK
              have d19 := hd 19 (by decide)
              have d32 := hd 32 (by decide)
              have hx := X51.out; subst hx
              have hx := X64.out; subst hx
              have hx := X65.out; subst hx
              simp only [fill_eq, List.take_succ_cons, List.take_zero, List.cons_append, List.nil_append, sel_of d19, sel_of d32] at ha
              subst ha
              rw [if_pos (by rfl)]
              go_simp
              refine hK.out _ _ ⟨?_, hO⟩
              simp only [fill_eq, List.take_succ_cons, List.take_zero, List.cons_append, List.nil_append, Act.put, List.setIfInBounds_toArray, List.set_cons_zero, List.set_cons_succ, sel_new, sel_dep d19, sel_dep d32]
              rfl
          · as_aux_lemma =>
              rintro l a wr ⟨ha, hO⟩ hl hd K' hK
              have d19 := hd 19 (by decide)
              have d33 := hd 33 (by decide)
              have hx := X51.out; subst hx
              have hx := X65.out; subst hx
              have hx := X66.out; subst hx
              simp only [fill_eq, List.take_succ_cons, List.take_zero, List.cons_append, List.nil_append, sel_of d19, sel_of d33] at ha
              subst ha
              rw [if_pos (by rfl)]
              go_simp
              refine hK.out _ _ ⟨?_, hO⟩
              simp only [fill_eq, List.take_succ_cons, List.take_zero, List.cons_append, List.nil_append, Act.put, List.setIfInBounds_toArray, List.set_cons_zero, List.set_cons_succ, sel_new, sel_dep d19, sel_dep d33]
              rfl
          · as_aux_lemma =>
              rintro l a wr ⟨ha, hO⟩ hl hd K' hK
              have d19 := hd 19 (by decide)
              have d28 := hd 28 (by decide)
              have d34 := hd 34 (by decide)
              have hx := X51.out; subst hx
              have hx := X60.out; subst hx
              have hx := X66.out; subst hx
              have hx := X67.out; subst hx
              simp only [fill_eq, List.take_succ_cons, List.take_zero, List.cons_append, List.nil_append, sel_of d19, sel_of d28, sel_of d34] at ha
              subst ha
              rw [if_pos (by rfl)]
              go_simp
              refine hK.out _ _ ⟨?_, hO⟩
              simp only [fill_eq, List.take_succ_cons, List.take_zero, List.cons_append, List.nil_append, Act.put, List.setIfInBounds_toArray, List.set_cons_zero, List.set_cons_succ, sel_new, sel_dep d19, sel_dep d28, sel_dep d34]
              rfl
          · as_aux_lemma =>
              rintro l a wr ⟨ha, hO⟩ hl hd K' hK
              have d19 := hd 19 (by decide)
              have d23 := hd 23 (by decide)
              have d35 := hd 35 (by decide)
              have hx := X51.out; subst hx
              have hx := X55.out; subst hx
              have hx := X67.out; subst hx
              have hx := X68.out; subst hx
              simp only [fill_eq, List.take_succ_cons, List.take_zero, List.cons_append, List.nil_append, sel_of d19, sel_of d23, sel_of d35] at ha
              subst ha
              rw [if_pos (by rfl)]
              go_simp
              refine hK.out _ _ ⟨?_, hO⟩
              simp only [fill_eq, List.take_succ_cons, List.take_zero, List.cons_append, List.nil_append, Act.put, List.setIfInBounds_toArray, List.set_cons_zero, List.set_cons_succ, sel_new, sel_dep d19, sel_dep d23, sel_dep d35]
              rfl
          · as_aux_lemma =>
              rintro l a wr ⟨ha, hO⟩ hl hd K' hK
              have d19 := hd 19 (by decide)
              have d36 := hd 36 (by decide)
              have hx := X51.out; subst hx
              have hx := X68.out; subst hx
              have hx := X69.out; subst hx
              simp only [fill_eq, List.take_succ_cons, List.take_zero, List.cons_append, List.nil_append, sel_of d19, sel_of d36] at ha
              subst ha
              rw [if_pos (by rfl)]
              go_simp
              refine (held_inv (HQ2.out wr) hO).mono ?_
              rintro e w1 ⟨rfl, hO1, hOW⟩
              go_wp2_with fail
              refine hK.out _ _ ⟨?_, hO1⟩
              simp only [fill_eq, List.take_succ_cons, List.take_zero, List.cons_append, List.nil_append, Act.put, List.setIfInBounds_toArray, List.set_cons_zero, List.set_cons_succ, sel_new, sel_dep d19, sel_dep d36]
              rfl
          · as_aux_lemma =>
              rintro l a wr ⟨ha, hO⟩ hl hd K' hK
              have d19 := hd 19 (by decide)
              have d37 := hd 37 (by decide)
              have hx := X51.out; subst hx
              have hx := X69.out; subst hx
              have hx := X70.out; subst hx
              simp only [fill_eq, List.take_succ_cons, List.take_zero, List.cons_append, List.nil_append, sel_of d19, sel_of d37] at ha
              subst ha
              rw [if_pos (by rfl)]
              go_simp
              refine hK.out _ _ ⟨?_, hO⟩
              simp only [fill_eq, List.take_succ_cons, List.take_zero, List.cons_append, List.nil_append, Act.put, List.setIfInBounds_toArray, List.set_cons_zero, List.set_cons_succ, sel_new, sel_dep d19, sel_dep d37]
              rfl
          · as_aux_lemma =>
              rintro l a wr ⟨ha, hO⟩ hl hd K' hK
              have d19 := hd 19 (by decide)
              have d38 := hd 38 (by decide)
              have hx := X51.out; subst hx
              have hx := X70.out; subst hx
              have hx := X71.out; subst hx
              simp only [fill_eq, List.take_succ_cons, List.take_zero, List.cons_append, List.nil_append, sel_of d19, sel_of d38] at ha
              subst ha
              rw [if_pos (by rfl)]
              go_simp
              refine hK.out _ _ ⟨?_, hO⟩
              simp only [fill_eq, List.take_succ_cons, List.take_zero, List.cons_append, List.nil_append, Act.put, List.setIfInBounds_toArray, List.set_cons_zero, List.set_cons_succ, sel_new, sel_dep d19, sel_dep d38]
              rfl
          · rintro l a wc ⟨ha, hO⟩ hd
            simp only [fill_eq, List.take_succ_cons, List.take_zero, List.cons_append, List.nil_append, sel_of (hd 0 (by decide)), sel_of (hd 1 (by decide)), sel_of (hd 2 (by decide)), sel_of (hd 3 (by decide)), sel_of (hd 4 (by decide)), sel_of (hd 5 (by decide)), sel_of (hd 6 (by decide)), sel_of (hd 7 (by decide)), sel_of (hd 8 (by decide)), sel_of (hd 9 (by decide)), sel_of (hd 10 (by decide)), sel_of (hd 11 (by decide)), sel_of (hd 12 (by decide)), sel_of (hd 13 (by decide)), sel_of (hd 14 (by decide)), sel_of (hd 15 (by decide)), sel_of (hd 16 (by decide)), sel_of (hd 17 (by decide)), sel_of (hd 18 (by decide)), sel_of (hd 19 (by decide)), sel_of (hd 20 (by decide)), sel_of (hd 21 (by decide)), sel_of (hd 22 (by decide)), sel_of (hd 23 (by decide)), sel_of (hd 24 (by decide)), sel_of (hd 25 (by decide)), sel_of (hd 26 (by decide)), sel_of (hd 27 (by decide)), sel_of (hd 28 (by decide)), sel_of (hd 29 (by decide)), sel_of (hd 30 (by decide)), sel_of (hd 31 (by decide)), sel_of (hd 32 (by decide)), sel_of (hd 33 (by decide)), sel_of (hd 34 (by decide)), sel_of (hd 35 (by decide)), sel_of (hd 36 (by decide)), sel_of (hd 37 (by decide)), sel_of (hd 38 (by decide)), sel_of (hd 39 (by decide))] at ha
            subst ha
            have hx := X71.out; subst hx
            skip
            have HO2 := Lib.hid hO
            clear hO
            go_wp2_with fail
            go_roundw
            case rel => exact ⟨0 + 1, by omega, by simp, HO.out.trans HO2.out (fun _ _ c => c)⟩
            case measure => simp [intOf] <;> omega
      · obtain rfl : n = k := by omega
        have hki : ¬ ((n : Nat) : Int) < (n : Int) := by omega
        have HO := Lib.hid hO
        obtain ⟨j, hj⟩ : ∃ j, j = n - 1 := ⟨_, rfl⟩
        obtain ⟨m, hm⟩ : ∃ m, m = 1 % n := ⟨_, rfl⟩
        have hq := HEnd.out
        rw [← hj, ← hm] at hq
        have hjn : j < n := by omega
        have hjni : (j : Int) < (n : Int) := by omega
        have hmn : m < n := by rw [hm]; exact Nat.mod_lt _ hn0
        have hmni : (m : Int) < (n : Int) := by omega
        have hL2 := hO.heap HL1.out (fun c => c)
        have m1 := cell_c hL2 (HGet.out j hjn)
        have m2 := cell_c hL2 (HGet.out m hmn)
        have hwj : IntKind.i64.wrap ((n : Int) - 1) = (j : Int) := by rw [IntKind.wrap_i64]; omega
        have hmod : (1 : Int).tmod (n : Int) = (m : Int) := by
          rw [hm, show (1 : Int) = ((1 : Nat) : Int) from rfl]
          exact Int.tmod_eq_emod_of_nonneg (by omega)
        have hwm : IntKind.i64.wrap (m : Int) = (m : Int) := by rw [IntKind.wrap_i64]; omega
        have E2 := fun (W : World) (t : TypeId) => run_complex_mul (P := Tryd.prog) W t _ _ _ _ _ _ hq
        have hn00 : ¬ (n : Int) = 0 := by omega
        have hn01 : ¬ n = 0 := by omega
        have HK := Lib.hid (show ∀ W', Off (fun _ => False) wr W' → W'.cell? ⟨g, j, none⟩ = some (.complex .f64 (f j).1 (f j).2) ∧ W'.cell? ⟨g, m, none⟩ = some (.complex .f64 (f m).1 (f m).2) ∧ Off (fun _ => False) wr W' from fun W' h => ⟨h.cell m1 (fun c => c), h.cell m2 (fun c => c), h⟩)
        have hOw : Off (fun _ => False) w wr := HO1.out.trans hO (fun _ _ c => c)
        have HTW := Lib.hid (fun W (h : Off (fun _ => False) wr W) => HT.out.off (hOw.trans h (fun _ _ c => c)))
        have HOw := Lib.hid hOw
        clear hO hj hm hq hL2 m1 m2 hOw
        go_upto_region 12 with fail
        obtain ⟨x73, hx⟩ : ∃ x : Value, x = .bool true := ⟨_, rfl⟩
        have X73 := Lib.hid hx
        clear hx
        obtain ⟨x74, hx⟩ : ∃ x : Value, x = .bool true := ⟨_, rfl⟩
        have X74 := Lib.hid hx
        clear hx
        obtain ⟨x75, hx⟩ : ∃ x : Value, x = .slice (some ⟨g, 0, none⟩) n n := ⟨_, rfl⟩
        have X75 := Lib.hid hx
        clear hx
        obtain ⟨x76, hx⟩ : ∃ x : Value, x = .int .i64 (n : Int) := ⟨_, rfl⟩
        have X76 := Lib.hid hx
        clear hx
        obtain ⟨x77, hx⟩ : ∃ x : Value, x = .int .i64 (j : Int) := ⟨_, rfl⟩
        have X77 := Lib.hid hx
        clear hx
        obtain ⟨x78, hx⟩ : ∃ x : Value, x = .pointer (some ⟨g, j, none⟩) := ⟨_, rfl⟩
        have X78 := Lib.hid hx
        clear hx
        obtain ⟨x79, hx⟩ : ∃ x : Value, x = .complex .f64 (f j).1 (f j).2 := ⟨_, rfl⟩
        have X79 := Lib.hid hx
        clear hx
        obtain ⟨x80, hx⟩ : ∃ x : Value, x = .slice (some ⟨g, 0, none⟩) n n := ⟨_, rfl⟩
        have X80 := Lib.hid hx
        clear hx
        obtain ⟨x81, hx⟩ : ∃ x : Value, x = .int .i64 (n : Int) := ⟨_, rfl⟩
        have X81 := Lib.hid hx
        clear hx
        obtain ⟨x82, hx⟩ : ∃ x : Value, x = .int .i64 (m : Int) := ⟨_, rfl⟩
        have X82 := Lib.hid hx
        clear hx
        obtain ⟨x83, hx⟩ : ∃ x : Value, x = .pointer (some ⟨g, m, none⟩) := ⟨_, rfl⟩
        have X83 := Lib.hid hx
        clear hx
        obtain ⟨x84, hx⟩ : ∃ x : Value, x = .complex .f64 (f m).1 (f m).2 := ⟨_, rfl⟩
        have X84 := Lib.hid hx
        clear hx
        obtain ⟨x85, hx⟩ : ∃ x : Value, x = .complex .f64 (q).1 (q).2 := ⟨_, rfl⟩
        have X85 := Lib.hid hx
        clear hx
        obtain ⟨x86, hx⟩ : ∃ x : Value, x = .bool true := ⟨_, rfl⟩
        have X86 := Lib.hid hx
        clear hx
        obtain ⟨x87, hx⟩ : ∃ x : Value, x = .bool true := ⟨_, rfl⟩
        have X87 := Lib.hid hx
        clear hx
        obtain ⟨x2, hx⟩ : ∃ x : Value, x = .bool true := ⟨_, rfl⟩
        have X2 := Lib.hid hx
        clear hx
        refine wp_region_inv (fun a0 l a' w' => a' = (Act.put (fill a0 73 [sel (l 0) x73 undef, sel (l 1) x74 undef, sel (l 2) x75 undef, sel (l 3) x76 undef, sel (l 4) x77 undef, sel (l 5) x78 undef, sel (l 6) x79 undef, sel (l 7) x80 undef, sel (l 8) x81 undef, sel (l 9) x82 undef, sel (l 10) x83 undef, sel (l 11) x84 undef, sel (l 12) x85 undef, sel (l 13) x86 undef, sel (l 14) x87 undef]) (some 2) (sel (l 15) x2 (u2))) ∧ Off (fun _ => False) wr w') (by kernel_rfl) (by kernel_rfl) ?_ ⟨?_, ?_, ?_, ?_, ?_, ?_, ?_, ?_, ?_, ?_, ?_, ?_, ?_, ?_, ?_, ?_, trivial⟩ ?_
        · refine ⟨?_, (Off.refl _ wr).drew⟩
          simp only [fill_eq, List.take_succ_cons, List.take_zero, List.cons_append, List.nil_append, Act.put, List.setIfInBounds_toArray, List.set_cons_zero, List.set_cons_succ, sel_start]
        · as_aux_lemma =>
            rintro l a wr ⟨ha, hO⟩ hl hd K' hK
            have hx := X73.out; subst hx
            simp only [fill_eq, List.take_succ_cons, List.take_zero, List.cons_append, List.nil_append, Act.put, List.setIfInBounds_toArray, List.set_cons_zero, List.set_cons_succ] at ha
            subst ha
            rw [if_pos (by rfl)]
            go_simp
            refine (held_inv (HAl.out wr (HTW.out wr hO)) hO).mono ?_
            rintro e w1 ⟨rfl, hO1, hOW⟩
            go_wp2_with fail
            refine hK.out _ _ ⟨?_, hO1⟩
            simp only [fill_eq, List.take_succ_cons, List.take_zero, List.cons_append, List.nil_append, Act.put, List.setIfInBounds_toArray, List.set_cons_zero, List.set_cons_succ, sel_new]
            rfl
        · as_aux_lemma =>
            rintro l a wr ⟨ha, hO⟩ hl hd K' hK
            have d0 := hd 0 (by decide)
            have hx := X73.out; subst hx
            have hx := X74.out; subst hx
            simp only [fill_eq, List.take_succ_cons, List.take_zero, List.cons_append, List.nil_append, Act.put, List.setIfInBounds_toArray, List.set_cons_zero, List.set_cons_succ, sel_of d0] at ha
            subst ha
            rw [if_pos (by rfl)]
            go_simp
            refine hK.out _ _ ⟨?_, hO⟩
            simp only [fill_eq, List.take_succ_cons, List.take_zero, List.cons_append, List.nil_append, Act.put, List.setIfInBounds_toArray, List.set_cons_zero, List.set_cons_succ, sel_new, sel_dep d0]
            rfl
        · as_aux_lemma =>
            rintro l a wr ⟨ha, hO⟩ hl hd K' hK
            have d1 := hd 1 (by decide)
            have hx := X74.out; subst hx
            have hx := X75.out; subst hx
            simp only [fill_eq, List.take_succ_cons, List.take_zero, List.cons_append, List.nil_append, Act.put, List.setIfInBounds_toArray, List.set_cons_zero, List.set_cons_succ, sel_of d1] at ha
            subst ha
            rw [if_pos (by rfl)]
            go_simp
            refine hK.out _ _ ⟨?_, hO⟩
            simp only [fill_eq, List.take_succ_cons, List.take_zero, List.cons_append, List.nil_append, Act.put, List.setIfInBounds_toArray, List.set_cons_zero, List.set_cons_succ, sel_new, sel_dep d1]
            rfl
        · as_aux_lemma =>
            rintro l a wr ⟨ha, hO⟩ hl hd K' hK
            have d1 := hd 1 (by decide)
            have hx := X74.out; subst hx
            have hx := X76.out; subst hx
            simp only [fill_eq, List.take_succ_cons, List.take_zero, List.cons_append, List.nil_append, Act.put, List.setIfInBounds_toArray, List.set_cons_zero, List.set_cons_succ, sel_of d1] at ha
            subst ha
            rw [if_pos (by rfl)]
            go_simp
            refine hK.out _ _ ⟨?_, hO⟩
            simp only [fill_eq, List.take_succ_cons, List.take_zero, List.cons_append, List.nil_append, Act.put, List.setIfInBounds_toArray, List.set_cons_zero, List.set_cons_succ, sel_new, sel_dep d1]
            rfl
        · as_aux_lemma =>
            rintro l a wr ⟨ha, hO⟩ hl hd K' hK
            have d1 := hd 1 (by decide)
            have d3 := hd 3 (by decide)
            have hx := X74.out; subst hx
            have hx := X76.out; subst hx
            have hx := X77.out; subst hx
            simp only [fill_eq, List.take_succ_cons, List.take_zero, List.cons_append, List.nil_append, Act.put, List.setIfInBounds_toArray, List.set_cons_zero, List.set_cons_succ, sel_of d1, sel_of d3] at ha
            subst ha
            rw [if_pos (by rfl)]
            go_simp
            refine hK.out _ _ ⟨?_, hO⟩
            simp only [fill_eq, List.take_succ_cons, List.take_zero, List.cons_append, List.nil_append, Act.put, List.setIfInBounds_toArray, List.set_cons_zero, List.set_cons_succ, sel_new, sel_dep d1, sel_dep d3]
            rfl
        · as_aux_lemma =>
            rintro l a wr ⟨ha, hO⟩ hl hd K' hK
            have d1 := hd 1 (by decide)
            have d2 := hd 2 (by decide)
            have d4 := hd 4 (by decide)
            have hx := X74.out; subst hx
            have hx := X75.out; subst hx
            have hx := X77.out; subst hx
            have hx := X78.out; subst hx
            simp only [fill_eq, List.take_succ_cons, List.take_zero, List.cons_append, List.nil_append, Act.put, List.setIfInBounds_toArray, List.set_cons_zero, List.set_cons_succ, sel_of d1, sel_of d2, sel_of d4] at ha
            subst ha
            rw [if_pos (by rfl)]
            go_simp
            refine hK.out _ _ ⟨?_, hO⟩
            simp only [fill_eq, List.take_succ_cons, List.take_zero, List.cons_append, List.nil_append, Act.put, List.setIfInBounds_toArray, List.set_cons_zero, List.set_cons_succ, sel_new, sel_dep d1, sel_dep d2, sel_dep d4]
            rfl
        · as_aux_lemma =>
            rintro l a wr ⟨ha, hO⟩ hl hd K' hK
            have d1 := hd 1 (by decide)
            have d5 := hd 5 (by decide)
            have hx := X74.out; subst hx
            have hx := X78.out; subst hx
            have hx := X79.out; subst hx
            simp only [fill_eq, List.take_succ_cons, List.take_zero, List.cons_append, List.nil_append, Act.put, List.setIfInBounds_toArray, List.set_cons_zero, List.set_cons_succ, sel_of d1, sel_of d5] at ha
            subst ha
            have hc := HK.out wr hO
            have p0 := hc.1
            clear hc
            rw [if_pos (by rfl)]
            go_simp
            refine hK.out _ _ ⟨?_, hO⟩
            simp only [fill_eq, List.take_succ_cons, List.take_zero, List.cons_append, List.nil_append, Act.put, List.setIfInBounds_toArray, List.set_cons_zero, List.set_cons_succ, sel_new, sel_dep d1, sel_dep d5]
            rfl
        · as_aux_lemma =>
            rintro l a wr ⟨ha, hO⟩ hl hd K' hK
            have d1 := hd 1 (by decide)
            have hx := X74.out; subst hx
            have hx := X80.out; subst hx
            simp only [fill_eq, List.take_succ_cons, List.take_zero, List.cons_append, List.nil_append, Act.put, List.setIfInBounds_toArray, List.set_cons_zero, List.set_cons_succ, sel_of d1] at ha
            subst ha
            rw [if_pos (by rfl)]
            go_simp
            refine hK.out _ _ ⟨?_, hO⟩
            simp only [fill_eq, List.take_succ_cons, List.take_zero, List.cons_append, List.nil_append, Act.put, List.setIfInBounds_toArray, List.set_cons_zero, List.set_cons_succ, sel_new, sel_dep d1]
            rfl
        · as_aux_lemma =>
            rintro l a wr ⟨ha, hO⟩ hl hd K' hK
            have d1 := hd 1 (by decide)
            have hx := X74.out; subst hx
            have hx := X81.out; subst hx
            simp only [fill_eq, List.take_succ_cons, List.take_zero, List.cons_append, List.nil_append, Act.put, List.setIfInBounds_toArray, List.set_cons_zero, List.set_cons_succ, sel_of d1] at ha
            subst ha
            rw [if_pos (by rfl)]
            go_simp
            refine hK.out _ _ ⟨?_, hO⟩
            simp only [fill_eq, List.take_succ_cons, List.take_zero, List.cons_append, List.nil_append, Act.put, List.setIfInBounds_toArray, List.set_cons_zero, List.set_cons_succ, sel_new, sel_dep d1]
            rfl
        · as_aux_lemma =>
            rintro l a wr ⟨ha, hO⟩ hl hd K' hK
            have d1 := hd 1 (by decide)
            have d8 := hd 8 (by decide)
            have hx := X74.out; subst hx
            have hx := X81.out; subst hx
            have hx := X82.out; subst hx
            simp only [fill_eq, List.take_succ_cons, List.take_zero, List.cons_append, List.nil_append, Act.put, List.setIfInBounds_toArray, List.set_cons_zero, List.set_cons_succ, sel_of d1, sel_of d8] at ha
            subst ha
            rw [if_pos (by rfl)]
            go_simp
            refine hK.out _ _ ⟨?_, hO⟩
            simp only [fill_eq, List.take_succ_cons, List.take_zero, List.cons_append, List.nil_append, Act.put, List.setIfInBounds_toArray, List.set_cons_zero, List.set_cons_succ, sel_new, sel_dep d1, sel_dep d8]
            rfl
        · as_aux_lemma =>
            rintro l a wr ⟨ha, hO⟩ hl hd K' hK
            have d1 := hd 1 (by decide)
            have d7 := hd 7 (by decide)
            have d9 := hd 9 (by decide)
            have hx := X74.out; subst hx
            have hx := X80.out; subst hx
            have hx := X82.out; subst hx
            have hx := X83.out; subst hx
            simp only [fill_eq, List.take_succ_cons, List.take_zero, List.cons_append, List.nil_append, Act.put, List.setIfInBounds_toArray, List.set_cons_zero, List.set_cons_succ, sel_of d1, sel_of d7, sel_of d9] at ha
            subst ha
            rw [if_pos (by rfl)]
            go_simp
            refine hK.out _ _ ⟨?_, hO⟩
            simp only [fill_eq, List.take_succ_cons, List.take_zero, List.cons_append, List.nil_append, Act.put, List.setIfInBounds_toArray, List.set_cons_zero, List.set_cons_succ, sel_new, sel_dep d1, sel_dep d7, sel_dep d9]
            rfl
        · as_aux_lemma =>
            rintro l a wr ⟨ha, hO⟩ hl hd K' hK
            have d1 := hd 1 (by decide)
            have d10 := hd 10 (by decide)
            have hx := X74.out; subst hx
            have hx := X83.out; subst hx
            have hx := X84.out; subst hx
            simp only [fill_eq, List.take_succ_cons, List.take_zero, List.cons_append, List.nil_append, Act.put, List.setIfInBounds_toArray, List.set_cons_zero, List.set_cons_succ, sel_of d1, sel_of d10] at ha
            subst ha
            have hc := HK.out wr hO
            have p0 := hc.2.1
            clear hc
            rw [if_pos (by rfl)]
            go_simp
            refine hK.out _ _ ⟨?_, hO⟩
            simp only [fill_eq, List.take_succ_cons, List.take_zero, List.cons_append, List.nil_append, Act.put, List.setIfInBounds_toArray, List.set_cons_zero, List.set_cons_succ, sel_new, sel_dep d1, sel_dep d10]
            rfl
        · as_aux_lemma =>
            rintro l a wr ⟨ha, hO⟩ hl hd K' hK
            have d1 := hd 1 (by decide)
            have d6 := hd 6 (by decide)
            have d11 := hd 11 (by decide)
            have hx := X74.out; subst hx
            have hx := X79.out; subst hx
            have hx := X84.out; subst hx
            have hx := X85.out; subst hx
            simp only [fill_eq, List.take_succ_cons, List.take_zero, List.cons_append, List.nil_append, Act.put, List.setIfInBounds_toArray, List.set_cons_zero, List.set_cons_succ, sel_of d1, sel_of d6, sel_of d11] at ha
            subst ha
            rw [if_pos (by rfl)]
            go_simp
            refine hK.out _ _ ⟨?_, hO⟩
            simp only [fill_eq, List.take_succ_cons, List.take_zero, List.cons_append, List.nil_append, Act.put, List.setIfInBounds_toArray, List.set_cons_zero, List.set_cons_succ, sel_new, sel_dep d1, sel_dep d6, sel_dep d11]
            rfl
        · as_aux_lemma =>
            rintro l a wr ⟨ha, hO⟩ hl hd K' hK
            have d1 := hd 1 (by decide)
            have d12 := hd 12 (by decide)
            have hx := X74.out; subst hx
            have hx := X85.out; subst hx
            have hx := X86.out; subst hx
            simp only [fill_eq, List.take_succ_cons, List.take_zero, List.cons_append, List.nil_append, Act.put, List.setIfInBounds_toArray, List.set_cons_zero, List.set_cons_succ, sel_of d1, sel_of d12] at ha
            subst ha
            rw [if_pos (by rfl)]
            go_simp
            refine (held_inv (HZq.out wr) hO).mono ?_
            rintro e w1 ⟨rfl, hO1, hOW⟩
            go_wp2_with fail
            refine hK.out _ _ ⟨?_, hO1⟩
            simp only [fill_eq, List.take_succ_cons, List.take_zero, List.cons_append, List.nil_append, Act.put, List.setIfInBounds_toArray, List.set_cons_zero, List.set_cons_succ, sel_new, sel_dep d1, sel_dep d12]
            rfl
        · as_aux_lemma =>
            rintro l a wr ⟨ha, hO⟩ hl hd K' hK
            have d1 := hd 1 (by decide)
            have d13 := hd 13 (by decide)
            have hx := X74.out; subst hx
            have hx := X86.out; subst hx
            have hx := X87.out; subst hx
            simp only [fill_eq, List.take_succ_cons, List.take_zero, List.cons_append, List.nil_append, Act.put, List.setIfInBounds_toArray, List.set_cons_zero, List.set_cons_succ, sel_of d1, sel_of d13] at ha
            subst ha
            rw [if_pos (by rfl)]
            go_simp
            refine hK.out _ _ ⟨?_, hO⟩
            simp only [fill_eq, List.take_succ_cons, List.take_zero, List.cons_append, List.nil_append, Act.put, List.setIfInBounds_toArray, List.set_cons_zero, List.set_cons_succ, sel_new, sel_dep d1, sel_dep d13]
            rfl
        · as_aux_lemma =>
            rintro l a wr ⟨ha, hO⟩ hl hd K' hK
            have d14 := hd 14 (by decide)
            have hx := X87.out; subst hx
            have hx := X2.out; subst hx
            simp only [fill_eq, List.take_succ_cons, List.take_zero, List.cons_append, List.nil_append, Act.put, List.setIfInBounds_toArray, List.set_cons_zero, List.set_cons_succ, sel_of d14] at ha
            subst ha
            rw [if_pos (by rfl)]
            go_simp
            refine hK.out _ _ ⟨?_, hO⟩
            simp only [fill_eq, List.take_succ_cons, List.take_zero, List.cons_append, List.nil_append, Act.put, List.setIfInBounds_toArray, List.set_cons_zero, List.set_cons_succ, sel_new, sel_dep d14]
            rfl
        · rintro l a wc ⟨ha, hO⟩ hd
          simp only [fill_eq, List.take_succ_cons, List.take_zero, List.cons_append, List.nil_append, Act.put, List.setIfInBounds_toArray, List.set_cons_zero, List.set_cons_succ, sel_of (hd 0 (by decide)), sel_of (hd 1 (by decide)), sel_of (hd 2 (by decide)), sel_of (hd 3 (by decide)), sel_of (hd 4 (by decide)), sel_of (hd 5 (by decide)), sel_of (hd 6 (by decide)), sel_of (hd 7 (by decide)), sel_of (hd 8 (by decide)), sel_of (hd 9 (by decide)), sel_of (hd 10 (by decide)), sel_of (hd 11 (by decide)), sel_of (hd 12 (by decide)), sel_of (hd 13 (by decide)), sel_of (hd 14 (by decide)), sel_of (hd 15 (by decide))] at ha
          subst ha
          have hx := X2.out; subst hx
          have HO2 := Lib.hid hO
          clear hO hd
          go_wp2
          go_ret
          exact ⟨rfl, HOw.out.trans HO2.out (fun _ _ c => c)⟩
  · rw [Bool.not_eq_true] at hp
    rw [hp] at hIs
    have hR := roots_none i0 hp w
    clear hp w0 hT
    go_enter Tryd.func4, Tryd.ntmps4
    go_wp2_with first | (go_at_call 13; refine hR.mono ?_; rintro r w' ⟨rfl, rfl⟩) | (go_at_call 14; refine (hIs _).mono ?_; rintro r w' ⟨rfl, rfl⟩) | (go_at_call 11; refine (HAl.out _ HT.out).mono ?_; rintro r w3 ⟨rfl, hO3⟩; have HO3 := Lib.hid hO3; clear hO3) | fail
    go_ret
    exact ⟨rfl, HO3.out⟩

theorem door_met (os : Os) (args : Array Value) : laidMetH Tryd.prog [("math._sin", Rows.laid_math_sin), ("math._cos", Rows.laid_math_cos), ("math.mPi4", Rows.laid_math_mPi4)] ((World.doorLaid Tryd.prog 400 os).forCall (fun _ _ => 0) ⟨#[], args, []⟩).memory :=
  laidMetH_of_parts3 (fuel := 8) (laidMet_of_run' 8 (by kernel_rfl) (by kernel_rfl)) (by kernel_rfl) (by kernel_rfl)

set_option maxRecDepth 100000 in
theorem lifted (os : Os) (started : os.Started) (H : Type) (enc : TypeId × Value → H) :
    ReturnsInHanded {} Tryd.checked os 4 .any (fun w args => (Rows.dftRootsSpec.pre enc Tryd.prog Tryd.f4 [] false w args ∧ laidMetH Tryd.prog [("math._sin", Rows.laid_math_sin), ("math._cos", Rows.laid_math_cos), ("math.mPi4", Rows.laid_math_mPi4)] w) ∧ sizedMet enc Tryd.prog Tryd.f4 (OpenSpec.ofChange Rows.dftRootsSpec) false w args)
      (Rows.dftRootsSpec.post enc Tryd.prog Tryd.f4 false true false false) := by
  refine returnsInHanded_of_change_and (C := Tryd.checked) (X := fun w _ => laidMetH Tryd.prog [("math._sin", Rows.laid_math_sin), ("math._cos", Rows.laid_math_cos), ("math.mPi4", Rows.laid_math_mPi4)] w) (fun _ _ _ hh h => h.of_heap hh) own started (by kernel_rfl) Tryd.func4
    (ChangeSpec.witness_shaped (enc := enc) (C := Tryd.checked) (os := os) (X := fun w _ => laidMetH Tryd.prog [("math._sin", Rows.laid_math_sin), ("math._cos", Rows.laid_math_cos), ("math.mPi4", Rows.laid_math_mPi4)] w) false (World.doorLaid Tryd.prog 400 os) #[.int .i64 0] 8 rfl (World.shaped_of_RefB (by kernel_rfl) (by kernel_rfl)) (by kernel_rfl) (by kernel_rfl) (by kernel_rfl) (door_met os _)) ?_
  intro W base args ds gs before hval0 hW _ _ hL _
  have hval : ∀ (j : Nat) t v, Tryd.f4.params[j]? = some t → args[j]? = some v → Value.okWide Tryd.prog W .any base t v := hval0
  have hW' := hW
  obtain ⟨p, q, hA0, hV, rfl, hfz, hnd⟩ := hW
  have hA : DataW.TrodAll enc Tryd.prog W 0 (fun _ => true) true Tryd.f4.params.toList args.toList ds p := hA0
  rw [Tryd.params4] at hA hval
  obtain ⟨v0, vs0, d0, ds0, p0, q0, hargs, rfl, rfl, h0, r0⟩ := trodAll_cons hA
  obtain ⟨rfl, rfl, rfl⟩ := trodAll_nil r0
  obtain rfl : args = #[v0] := by cases args; simp_all
  obtain ⟨rfl, rfl⟩ := trodVars_none hV
  obtain ⟨i0, rfl, rfl, rfl, w0⟩ := open_int Tryd.underlying3 (hval 0 3 v0 rfl rfl) h0
  have hT := tab_of_laid hL
  clear hA0 hval0
  refine (walk i0 W w0 hT).mono fun e W' ⟨he, hoff⟩ => ?_
  have bel : Below W.heap.size W W' := hoff.below (Nat.le_refl _) (fun _ _ c => c)
  subst he
  exact ⟨_, rfl, _, _, _, [], _, [], hW', trodAll_mk1 (shut_bool Tryd.underlying4 _), (trodAll_cons_mk (shut_int Tryd.underlying3 w0) trodAll_mk0), rfl, bel.frame _, fun h => by cases h⟩

theorem over : Rows.dftRootsRow.holds Tryd.pinned (OpenSpec.ofChange Rows.dftRootsSpec) :=
  OpenClaim.holds_of_wide 4 Tryd.f4 rfl rfl rfl rfl rfl rfl rfl ⟨rfl, rfl, rfl, rfl, rfl⟩ rfl rfl rfl rfl rfl (by kernel_rfl) Tryd.func4 (by kernel_rfl)
    (of_decide_eq_true (by kernel_rfl)) (by unfold Func.isWrapper; first | (rw [if_pos (by decide +kernel)]; kernel_rfl) | (rw [if_neg (by decide +kernel)]; exact ⟨rfl, rfl⟩))
    (fun os started H enc _ => lifted os started H enc)

theorem proved : Rows.DftRootsCardSaid :=
  Claim7.holds_tied_plain_at .later [] [.data, .data, .data] true (true, "a54383ae1ec94b8d7a338044b2fb747fa0409bfe29f2e7e860f0f0d16de69d0e") false
    over (fun _ h => by cases h) (by kernel_rfl) (fun _ h => by cases h) dftRoots_row_tie rfl ⟨rfl, rfl⟩ (by kernel_rfl) rfl
    (fun f fn hf hfn => by
      obtain rfl : f = 4 := Option.some.inj ((show Tryd.prog.funcNamed "sharecore/sharecorelaw11.DftRoots" = some 4 by kernel_rfl).symm.trans hf) |>.symm
      obtain rfl : fn = Tryd.f4 := (Option.some.inj (Tryd.func4.symm.trans hfn)).symm
      exact ⟨by kernel_rfl, fun j t ht => by
        rw [Tryd.params4] at ht
        have hm : t ∈ [3] := by simpa using Array.mem_of_getElem? ht
        have hall : ([3].all fun u => !Tryd.prog.wantsStandIn u) = true := by kernel_rfl
        exact (show Tryd.prog.wantsStandIn t = false by simpa using List.all_eq_true.1 hall t hm)⟩)
    (by kernel_rfl)
#print axioms proved
end Go.Proofs.YtghacjhempmejaaDoor.dftRoots
