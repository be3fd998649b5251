/-
  For every list of integers and every two rows of small integers, the landed Multiply distributes over their sum. Condition: none but the row's own (the tables of the coefficients of math.Sincos lie in memory as the program's text lays them).
-/
import Derived.Test.YtghacjhempmejaaDoorRows
import Derived.Test.YtghacjhempmejaaDoorTie
import Derived.Test.YtghacjhempmejaaDoorCards
import Derived.LaidMore
import Derived.LaidHandle
import Derived.SevenTiedAt
import Derived.Stop.Joined
import Derived.JoinedOf
import Derived.Test.YtghacjhempmejaaDoorIntOpen
import Derived.Test.YtghacjhempmejaaDoorDftTabs
import Derived.Test.YtghacjhempmejaaDoorDftDist
import Derived.WalkKit
import Derived.ProofKit
import Derived.OpenShut
import Derived.ShutString
import Derived.ChangeOld
import Derived.Below
namespace Go.Proofs.YtghacjhempmejaaDoor.dftDistributes
open Go.ChangeShapes Go.WideShapes Go.ChangeAt Go.RowKit
set_option linter.unusedVariables false

theorem own : ownKnob Tryd.prog.godebug = none := by kernel_rfl
theorem laidOut : laidOutB Tryd.prog = true := by kernel_rfl

set_option maxRecDepth 100000 in
set_option maxHeartbeats 4000000 in
theorem walk (a0 : Option Addr) (n0 cap0 : Nat) (is0 : List Int) (ps1 qs1 : List Int) (w : World) (hn0 : n0 = is0.length) (w0 : IvAt w (.slice a0 n0 cap0) is0 (fun k => k < w.heap.size)) (w1 : ps1.length = 8 ∧ qs1.length = 8) (hT : TabAt w) :
    Calls Tryd.prog 8 #[.slice a0 n0 cap0, i16pair ps1 qs1] w fun e w' => e = .returned (.bool true) ∧ Off (fun _ => False) w w' := by
  obtain ⟨hp8, hq8⟩ := w1
  have HM1 := Lib.hid (fun a c W => mult_full is0 (dL ps1 8) n0 8 cap0 c a0 a hn0 (dL_len _ _).symm W)
  have HM2 := Lib.hid (fun a c W => mult_full is0 (dL qs1 8) n0 8 cap0 c a0 a hn0 (dL_len _ _).symm W)
  have HM3 := Lib.hid (fun a c W => mult_full is0 (dS ps1 qs1 8) n0 8 cap0 c a0 a hn0 (dS_len _ _ _).symm W)
  rw [mulE_is is0 _ (by rw [dL_len]; omega) (dL_small ps1 8)] at HM1
  rw [mulE_is is0 _ (by rw [dL_len]; omega) (dL_small qs1 8)] at HM2
  rw [mulE_is is0 _ (by rw [dS_len]; omega) (dS_small ps1 qs1 8)] at HM3
  have HL1 := Lib.hid (mulP_len is0 _ (dL_len ps1 8) (dL_small ps1 8))
  have HL2 := Lib.hid (mulP_len is0 _ (dL_len qs1 8) (dL_small qs1 8))
  have HL3 := Lib.hid (mulP_len is0 _ (dS_len ps1 qs1 8) (dS_small ps1 qs1 8))
  have HAdd := Lib.hid (fun j h => mulP_add is0 ps1 qs1 j h)
  have hm71 := lenA_le is0
  obtain ⟨m, hm⟩ : ∃ m, m = lenA is0 := ⟨_, rfl⟩
  obtain ⟨E, hE⟩ : ∃ E, E = errA is0 := ⟨_, rfl⟩
  rw [← hm] at HL1 HL2 HL3 HAdd hm71
  rw [← hE] at HM1 HM2 HM3
  have HV := Lib.hid (Iv.of w0)
  have HT := Lib.hid hT
  have HAl := Lib.hid (fun W => alive_any W)
  have HP8 := Lib.hid hp8
  have HQ8 := Lib.hid hq8
  obtain ⟨cs, hcs⟩ : ∃ cs, cs = ((ps1 ++ qs1).map i16v).toArray := ⟨_, rfl⟩
  rw [show i16pair ps1 qs1 = .agg cs by rw [hcs]; rfl]
  have HCS := Lib.hid hcs
  clear hm hE w0 hT hn0 hp8 hq8 hcs
  go_enter Tryd.func8, Tryd.ntmps8
  go_wp2_with fail
  obtain ⟨W1, hW1⟩ : ∃ W1, W1 = w.alloc (.cells cs 45) := ⟨_, rfl⟩
  obtain ⟨b, hb⟩ : ∃ b, b = w.heap.size := ⟨_, rfl⟩
  have HB := Lib.hid (show W1.heap[b]? = some (.cells cs 45) by rw [hW1, hb]; exact heap_new' rfl _)
  have HO1 := Lib.hid (show Off (fun _ => False) w W1 by rw [hW1]; exact (Off.refl _ w).alloc _)
  rw [← hW1, ← hb]
  clear hW1 hb
  go_loopw [5, 6, 7, 18] (fun v1 v2 v3 i wr => ∃ k : Nat, k ≤ 8 ∧ i = .int .i64 (k : Int) ∧ RowI W1.heap.size wr v1 (dL ps1 k) ∧ RowI W1.heap.size wr v2 (dL qs1 k) ∧ RowI W1.heap.size wr v3 (dS ps1 qs1 k) ∧ (∀ b, v1.ownBlock = some b → v2.ownBlock ≠ some b) ∧ (∀ b, v1.ownBlock = some b → v3.ownBlock ≠ some b) ∧ (∀ b, v2.ownBlock = some b → v3.ownBlock ≠ some b) ∧ Off (fun _ => False) W1 wr) (fun _ _ _ i _ => 8 - (intOf i).toNat)
  case atStart => exact ⟨0, by omega, rfl, World.ownsRow_nil _ _ _ _, World.ownsRow_nil _ _ _ _, World.ownsRow_nil _ _ _ _, fun b hb => by simp [Value.ownBlock] at hb, fun b hb => by simp [Value.ownBlock] at hb, fun b hb => by simp [Value.ownBlock] at hb, Off.refl _ _⟩
  case round =>
    obtain ⟨k, hk, rfl, h1, h2, h3, a12, a13, a23, hO⟩ := hrel
    by_cases hk8 : k < 8
    · have hki : (k : Int) < 8 := by omega
      have hwk : IntKind.i64.wrap ((k : Int) + 1) = (k : Int) + 1 := by rw [IntKind.wrap_i64]; omega
      obtain ⟨p, hp⟩ : ∃ p, ps1[k]? = some p := ⟨_, List.getElem?_eq_getElem (by have := HP8.out; omega)⟩
      obtain ⟨q, hq⟩ : ∃ q, qs1[k]? = some q := ⟨_, List.getElem?_eq_getElem (by have := HQ8.out; omega)⟩
      have hB := hO.heap HB.out (fun c => c)
      have mp : wr.cell? ⟨b, k, none⟩ = some (.int .i16 p) := by
        rw [cell_of_heap hB, HCS.out, List.getElem?_toArray, List.getElem?_map, List.getElem?_append_left (by have := HP8.out; omega), hp]; rfl
      have mq : wr.cell? ⟨b, 8 + k, none⟩ = some (.int .i16 q) := by
        rw [cell_of_heap hB, HCS.out, List.getElem?_toArray, List.getElem?_map, List.getElem?_append_right (by have := HP8.out; omega), show 8 + k - ps1.length = k by have := HP8.out; omega, hq]; rfl
      have bx := d500_abs ps1 k
      have by' := d500_abs qs1 k
      obtain ⟨x, hx⟩ : ∃ x, x = d500 ps1 k := ⟨_, rfl⟩
      obtain ⟨y, hy⟩ : ∃ y, y = d500 qs1 k := ⟨_, rfl⟩
      have ex : p.tmod 500 = x := by rw [hx]; unfold d500; rw [List.getD_eq_getElem?_getD, hp]; rfl
      have ey : q.tmod 500 = y := by rw [hy]; unfold d500; rw [List.getD_eq_getElem?_getD, hq]; rfl
      rw [← hx] at bx
      rw [← hy] at by'
      have wx : IntKind.i64.wrap x = x := by rw [IntKind.wrap_i64]; omega
      have wy : IntKind.i64.wrap y = y := by rw [IntKind.wrap_i64]; omega
      have wx2 : IntKind.i16.wrap x = x := by simp [IntKind.wrap, IntKind.bits, IntKind.signed]; omega
      have wy2 : IntKind.i16.wrap y = y := by simp [IntKind.wrap, IntKind.bits, IntKind.signed]; omega
      have wxy : IntKind.i64.wrap (x + y) = x + y := by rw [IntKind.wrap_i64]; omega
      have hOd : Off (fun _ => False) W1 wr.drew := hO.drew
      obtain ⟨v1', w1, hr1, r1, r2, r3, c12, c13, o1⟩ := app_one_int (hOd.alloc (.cells #[.int .i64 x] 3)) (RowI.alloc (RowI.drew h1) _) (RowI.alloc (RowI.drew h2) _) (RowI.alloc (RowI.drew h3) _) a12 a13 (by rw [dL_len]; omega) ⟨wr.drew.heap.size, 0, none⟩ x (by rw [cell_of_heap (heap_new' rfl _)]; rfl)
      obtain ⟨v2', w2, hr2, s2, s1, s3, d21, d23, o2⟩ := app_one_int (o1.alloc (.cells #[.int .i64 y] 3)) (RowI.alloc r2 _) (RowI.alloc r1 _) (RowI.alloc r3 _) (fun b h h' => c12 b h' h) a23 (by rw [dL_len]; omega) ⟨w1.heap.size, 0, none⟩ y (by rw [cell_of_heap (heap_new' rfl _)]; rfl)
      obtain ⟨v3', w3, hr3, t3, t1, t2, e31, e32, o3⟩ := app_one_int (o2.alloc (.cells #[.int .i64 (x + y)] 3)) (RowI.alloc s3 _) (RowI.alloc s1 _) (RowI.alloc s2 _) (fun b h h' => c13 b h' h) (fun b h h' => d23 b h' h) (by rw [dS_len]; omega) ⟨w2.heap.size, 0, none⟩ (x + y) (by rw [cell_of_heap (heap_new' rfl _)]; rfl)
      have R1 := Lib.hid (show RowI W1.heap.size w3 v1' (dL ps1 (k + 1)) by rw [← dL_next, ← hx]; exact t1)
      have R2 := Lib.hid (show RowI W1.heap.size w3 v2' (dL qs1 (k + 1)) by rw [← dL_next, ← hy]; exact t2)
      have R3 := Lib.hid (show RowI W1.heap.size w3 v3' (dS ps1 qs1 (k + 1)) by rw [← dS_next, ← hx, ← hy]; exact t3)
      have A12 := Lib.hid (fun b (h : v1'.ownBlock = some b) => (fun h' => d21 b h' h : v2'.ownBlock ≠ some b))
      have A13 := Lib.hid (fun b (h : v1'.ownBlock = some b) => (fun h' => e31 b h' h : v3'.ownBlock ≠ some b))
      have A23 := Lib.hid (fun b (h : v2'.ownBlock = some b) => (fun h' => e32 b h' h : v3'.ownBlock ≠ some b))
      have O3 := Lib.hid o3
      have HR1 := Lib.hid hr1
      have HR2 := Lib.hid hr2
      have HR3 := Lib.hid hr3
      clear h1 h2 h3 a12 a13 a23 hO hp hq hB bx by' hx hy hOd hr1 hr2 hr3 r1 r2 r3 c12 c13 o1 s1 s2 s3 d21 d23 o2 t1 t2 t3 e31 e32 o3
      go_upto_region 5 with fail
      go_region
      go_wp2_with first | (at_builtin; refine Go.Lib.wpList_append_run _ rfl _ _ _ _ rfl _ _ rfl rfl _ _ HR1.out ?_) | (at_builtin; refine Go.Lib.wpList_append_run _ rfl _ _ _ _ rfl _ _ rfl rfl _ _ HR2.out ?_) | (at_builtin; refine Go.Lib.wpList_append_run _ rfl _ _ _ _ rfl _ _ rfl rfl _ _ HR3.out ?_) | fail
      go_roundw
      case rel => exact ⟨k + 1, by omega, by simp, R1.out, R2.out, R3.out, A12.out, A13.out, A23.out, O3.out⟩
      case measure => simp [intOf] <;> omega
    · obtain rfl : k = 8 := by omega
      have hki : ¬ ((8 : Nat) : Int) < 8 := by omega
      have i1 := RowI.iv h1 (by rw [dL_len]; omega) (small_wf (dL_small ps1 8))
      have i2 := RowI.iv h2 (by rw [dL_len]; omega) (small_wf (dL_small qs1 8))
      have i3 := RowI.iv h3 (by rw [dS_len]; omega) (small_wf (dS_small ps1 qs1 8))
      obtain ⟨p1, c1, rfl, _⟩ := i1.open
      obtain ⟨p2, c2, rfl, _⟩ := i2.open
      obtain ⟨p3, c3, rfl, _⟩ := i3.open
      rw [dL_len] at i1 i2 ⊢
      rw [dL_len]
      rw [dS_len] at i3 ⊢
      have I1 := Lib.hid i1
      have I2 := Lib.hid i2
      have I3 := Lib.hid i3
      have HO2 := Lib.hid (HO1.out.trans hO (fun _ _ c => c))
      clear h1 h2 h3 a12 a13 a23 hO i1 i2 i3 HB HO1
      go_wp2_with fail
      refine (HM1.out p1 c1 _ (Iv.off HV.out HO2.out) I1.out (HT.out.off HO2.out)).mono ?_
      rintro r w4 ⟨u1, rfl, hu, hO4⟩
      have U1 := Lib.hid hu
      have I2' := Lib.hid (Iv.off I2.out hO4)
      have I3' := Lib.hid (Iv.off I3.out hO4)
      have HO4 := Lib.hid (HO2.out.trans hO4 (fun _ _ c => c))
      clear hu hO4 HO2 HM1 I1 I2 I3
      go_wp2_with fail
      refine (HM2.out p2 c2 _ (Iv.off HV.out HO4.out) I2'.out (HT.out.off HO4.out)).mono ?_
      rintro r w5 ⟨u2, rfl, hu, hO5⟩
      have U1' := Lib.hid (Iv.off U1.out hO5)
      have U2 := Lib.hid hu
      have I3 := Lib.hid (Iv.off I3'.out hO5)
      have HO5 := Lib.hid (HO4.out.trans hO5 (fun _ _ c => c))
      clear hu hO5 HO4 HM2 U1 I2' I3'
      go_wp2_with fail
      refine (HM3.out p3 c3 _ (Iv.off HV.out HO5.out) I3.out (HT.out.off HO5.out)).mono ?_
      rintro r w6 ⟨u3, rfl, hu, hO6⟩
      have U1 := Iv.off U1'.out hO6
      have U2' := Iv.off U2.out hO6
      have U3 := hu
      have HO6 := Lib.hid (HO5.out.trans hO6 (fun _ _ c => c))
      clear hu hO6 HO5 HM3 U1' U2 I3
      obtain ⟨q1, d1, rfl, _⟩ := U1.open
      obtain ⟨q2, d2, rfl, _⟩ := U2'.open
      obtain ⟨q3, d3, rfl, _⟩ := U3.open
      rw [HL1.out] at U1 ⊢
      rw [HL2.out] at U2' ⊢
      rw [HL3.out] at U3 ⊢
      have V1 := Lib.hid U1
      have V2 := Lib.hid U2'
      have V3 := Lib.hid U3
      have hEE : (E != E) = false := by simp
      have hmm : ((m : Int) != (m : Int)) = false := by simp
      clear U1 U2' U3 HL1 HL2 HL3
      go_wp2_with fail
      go_loopw [90] (fun i wr => ∃ k : Nat, k ≤ m ∧ i = .int .i64 (k : Int) ∧ Off (fun _ => False) w6 wr) (fun i _ => m - (intOf i).toNat)
      case atStart => exact ⟨0, Nat.zero_le _, rfl, Off.refl _ _⟩
      case round =>
        obtain ⟨k, hk, rfl, hO⟩ := hrel
        by_cases hkm : k < m
        · have hki : (k : Int) < (m : Int) := by omega
          have hwk : IntKind.i64.wrap ((k : Int) + 1) = (k : Int) + 1 := by rw [IntKind.wrap_i64]; omega
          obtain ⟨x, y, hx, hy, hs, bx, by'⟩ := HAdd.out k hkm
          obtain ⟨x', b1, o1, hx', rfl, m1, _, _⟩ := IvAt.at (Iv.off V1.out hO) hkm
          obtain ⟨y', b2, o2, hy', rfl, m2, _, _⟩ := IvAt.at (Iv.off V2.out hO) hkm
          obtain ⟨s', b3, o3, hs', rfl, m3, _, _⟩ := IvAt.at (Iv.off V3.out hO) hkm
          rw [hx] at hx'
          cases hx'
          rw [hy] at hy'
          cases hy'
          rw [hs] at hs'
          cases hs'
          have wxy : IntKind.i64.wrap (x + y) = x + y := by rw [IntKind.wrap_i64]; omega
          have hne : ((x + y) != (x + y)) = false := by simp
          have HO := Lib.hid hO
          clear hO hx hy hs bx by'
          go_upto_region 16 with fail
          go_region
          have HO7 := Lib.hid (HO.out.drew)
          clear HO
          go_wp2
          go_roundw
          case rel => exact ⟨k + 1, by omega, by simp, HO7.out⟩
          case measure => simp [intOf] <;> omega
        · have hki : ¬ (k : Int) < (m : Int) := by omega
          have HO7 := Lib.hid (HO6.out.trans hO (fun _ _ c => c))
          clear hO
          go_wp2_with fail
          refine (HAl.out _ (HT.out.off HO7.out)).mono ?_
          rintro r w8 ⟨rfl, hO8⟩
          have HO8 := Lib.hid (HO7.out.trans hO8 (fun _ _ c => c))
          clear hO8
          go_wp2
          go_ret
          exact ⟨rfl, HO8.out⟩

theorem door_met (os : Os) (args : Array Value) : laidMetH Tryd.prog [("math._sin", Rows.laid_math_sin), ("math._cos", Rows.laid_math_cos), ("math.mPi4", Rows.laid_math_mPi4)] ((World.doorLaid Tryd.prog 400 os).forCall (fun _ _ => 0) ⟨#[], args, []⟩).memory :=
  laidMetH_of_parts3 (fuel := 8) (laidMet_of_run' 8 (by kernel_rfl) (by kernel_rfl)) (by kernel_rfl) (by kernel_rfl)

set_option maxRecDepth 100000 in
theorem lifted (os : Os) (started : os.Started) (H : Type) (enc : TypeId × Value → H) :
    ReturnsInHanded {} Tryd.checked os 8 .any (fun w args => (Rows.dftDistributesSpec.pre enc Tryd.prog Tryd.f8 [] false w args ∧ laidMetH Tryd.prog [("math._sin", Rows.laid_math_sin), ("math._cos", Rows.laid_math_cos), ("math.mPi4", Rows.laid_math_mPi4)] w) ∧ sizedMet enc Tryd.prog Tryd.f8 (OpenSpec.ofChange Rows.dftDistributesSpec) false w args)
      (Rows.dftDistributesSpec.post enc Tryd.prog Tryd.f8 false true false false) := by
  refine returnsInHanded_of_change_and (C := Tryd.checked) (X := fun w _ => laidMetH Tryd.prog [("math._sin", Rows.laid_math_sin), ("math._cos", Rows.laid_math_cos), ("math.mPi4", Rows.laid_math_mPi4)] w) (fun _ _ _ hh h => h.of_heap hh) own started (by kernel_rfl) Tryd.func8
    (ChangeSpec.witness_shaped (enc := enc) (C := Tryd.checked) (os := os) (X := fun w _ => laidMetH Tryd.prog [("math._sin", Rows.laid_math_sin), ("math._cos", Rows.laid_math_cos), ("math.mPi4", Rows.laid_math_mPi4)] w) false (World.doorLaid Tryd.prog 400 os) #[.slice none 0 0, i16pair [0, 0, 0, 0, 0, 0, 0, 0] [0, 0, 0, 0, 0, 0, 0, 0]] 8 rfl (World.shaped_of_RefB (by kernel_rfl) (by kernel_rfl)) (by kernel_rfl) (by kernel_rfl) (by kernel_rfl) (door_met os _)) ?_
  intro W base args ds gs before hval0 hW _ _ hL _
  have hval : ∀ (j : Nat) t v, Tryd.f8.params[j]? = some t → args[j]? = some v → Value.okWide Tryd.prog W .any base t v := hval0
  have hW' := hW
  obtain ⟨p, q, hA0, hV, rfl, hfz, hnd⟩ := hW
  have hA : DataW.TrodAll enc Tryd.prog W 0 (fun _ => true) true Tryd.f8.params.toList args.toList ds p := hA0
  rw [Tryd.params8] at hA hval
  obtain ⟨v0, vs0, d0, ds0, p0, q0, hargs, rfl, rfl, h0, r0⟩ := trodAll_cons hA
  obtain ⟨v1, vs1, d1, ds1, p1, q1, rfl, rfl, rfl, h1, r1⟩ := trodAll_cons r0
  obtain ⟨rfl, rfl, rfl⟩ := trodAll_nil r1
  obtain rfl : args = #[v0, v1] := by cases args; simp_all
  obtain ⟨rfl, rfl⟩ := trodVars_none hV
  obtain ⟨a0, n0, cap0, rfl⟩ := okWide_slice Tryd.underlying22 (hval 0 22 v0 rfl rfl)
  have k0 := h0
  have lt0 : ∀ x ∈ p0, x.block < W.heap.size := by obtain ⟨m, hm⟩ := k0; exact DataW.trod_lt m _ _ _ hm
  obtain ⟨is0, hn0, w0⟩ : ∃ xs, n0 = xs.length ∧ IvAt W (.slice a0 n0 cap0) xs (fun k => k < W.heap.size) := by
    obtain ⟨fuel, hf⟩ := h0
    exact ints_of_trod hf
  have k1 := h1
  have lt1 : ∀ x ∈ p1, x.block < W.heap.size := by obtain ⟨m, hm⟩ := k1; exact DataW.trod_lt m _ _ _ hm
  obtain ⟨ps1, qs1, w1, rfl⟩ := open_i16pair (hval 1 45 v1 rfl rfl) h1
  have hT := tab_of_laid hL
  clear hA0 hval0
  refine (walk a0 n0 cap0 is0 ps1 qs1 W hn0 w0 w1 hT).mono fun e W' ⟨he, hoff⟩ => ?_
  have bel : Below W.heap.size W W' := hoff.below (Nat.le_refl _) (fun _ _ c => c)
  subst he
  exact ⟨_, rfl, _, _, _, [], _, [], hW', trodAll_mk1 (shut_bool Tryd.underlying4 _), (trodAll_cons_mk (Below.trod laidOut (by kernel_rfl) (of_decide_eq_true (by kernel_rfl)) k0 bel lt0) (trodAll_cons_mk (Below.trod laidOut (by kernel_rfl) (of_decide_eq_true (by kernel_rfl)) k1 bel lt1) trodAll_mk0)), rfl, bel.frame _, fun h => by cases h⟩

theorem over : Rows.dftDistributesRow.holds Tryd.pinned (OpenSpec.ofChange Rows.dftDistributesSpec) :=
  OpenClaim.holds_of_wide 8 Tryd.f8 rfl rfl rfl rfl rfl rfl rfl ⟨rfl, rfl, rfl, rfl, rfl⟩ rfl rfl rfl rfl rfl (by kernel_rfl) Tryd.func8 (by kernel_rfl)
    (of_decide_eq_true (by kernel_rfl)) (by unfold Func.isWrapper; first | (rw [if_pos (by decide +kernel)]; kernel_rfl) | (rw [if_neg (by decide +kernel)]; exact ⟨rfl, rfl⟩))
    (fun os started H enc _ => lifted os started H enc)

theorem proved : Rows.DftDistributesCardSaid :=
  Claim7.holds_tied_plain_at .later [] [.data, .data, .data] true (true, "a54383ae1ec94b8d7a338044b2fb747fa0409bfe29f2e7e860f0f0d16de69d0e") false
    over (fun _ h => by cases h) (by kernel_rfl) (fun _ h => by cases h) dftDistributes_row_tie rfl ⟨rfl, rfl⟩ (by kernel_rfl) rfl
    (fun f fn hf hfn => by
      obtain rfl : f = 8 := Option.some.inj ((show Tryd.prog.funcNamed "sharecore/sharecorelaw11.DftDistributes" = some 8 by kernel_rfl).symm.trans hf) |>.symm
      obtain rfl : fn = Tryd.f8 := (Option.some.inj (Tryd.func8.symm.trans hfn)).symm
      exact ⟨by kernel_rfl, fun j t ht => by
        rw [Tryd.params8] at ht
        have hm : t ∈ [22, 45] := by simpa using Array.mem_of_getElem? ht
        have hall : ([22, 45].all fun u => !Tryd.prog.wantsStandIn u) = true := by kernel_rfl
        exact (show Tryd.prog.wantsStandIn t = false by simpa using List.all_eq_true.1 hall t hm)⟩)
    (by kernel_rfl)
#print axioms proved
end Go.Proofs.YtghacjhempmejaaDoor.dftDistributes
