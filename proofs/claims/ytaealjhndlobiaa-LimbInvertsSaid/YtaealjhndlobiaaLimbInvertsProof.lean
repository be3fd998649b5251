/-
  For every two numbers of four words, the examples of the chapter hold, Sub inverts Add, and the carry is the borrow of the sum and a summand: the statement of P3.1 and P3.5. No condition.
-/
import Derived.Test.YtaealjhndlobiaaRows
import Derived.Test.YtaealjhndlobiaaLimbOpen
import Derived.WalkKit
import Derived.ProofKit
import Derived.OpenShut
import Derived.ShutString
import Derived.ChangeOld
import Derived.Below
namespace Go.Proofs.Ytaealjhndlobiaa.limbInverts
open Go.ChangeShapes Go.WideShapes Go.ChangeAt Go.RowKit
set_option linter.unusedVariables false

theorem own : ownKnob Try.prog.godebug = none := by kernel_rfl
theorem laidOut : laidOutB Try.prog = true := by kernel_rfl

theorem sum_mod {a b : Nat} : V (a + b) = V ((a + b) % R256) := (V_mod _).symm
theorem sum_sub {a b : Nat} (ha : a < R256) (hb : b < R256) : V (subV ((a + b) % R256) b) = V a := by
  have e : subV ((a + b) % R256) b % R256 = a := by
    unfold subV R256 W64 at *
    simp only [Nat.reducePow] at *
    omega
  rw [← V_mod, e]
theorem sum_borrow {a b : Nat} (ha : a < R256) (hb : b < R256) : ltN ((a + b) % R256) b = (a + b) / R256 := by
  unfold ltN R256 W64 at *
  simp only [Nat.reducePow] at *
  split <;> omega
theorem sum_less {a b : Nat} (ha : a < R256) (hb : b < R256) : lessN ((a + b) % R256) b = decide (((((a + b) / R256 : Nat) : Int)) = 1) := by
  unfold lessN R256 W64 at *
  simp only [Nat.reducePow] at *
  rw [decide_eq_decide]
  omega
set_option maxHeartbeats 4000000 in
theorem walk (n0 : Nat) (n1 : Nat) (w : World) (w0 : n0 < R256) (w1 : n1 < R256) :
    Calls Try.prog 7 #[V n0, V n1] w fun e w' => e = .returned (.bool true) ∧ Off (fun _ => False) w w' := by
  have hq := fun n W => eql_same n W
  have hl := Nat.mod_lt (n0 + n1) r256_pos
  have F1 := fun W => add_any n0 n1 w0 w1 W
  have F2 := fun W => sub_any ((n0 + n1) % R256) n1 hl w1 W
  have F3 := fun W => limb_less ((n0 + n1) % R256) n1 hl w1 W
  rw [sum_sub w0 w1, sum_borrow w0 w1] at F2
  have hd := sum_less w0 w1
  rw [sum_mod] at F1
  obtain ⟨s, hs⟩ : ∃ s, s = (n0 + n1) % R256 := ⟨_, rfl⟩
  obtain ⟨c, hc⟩ : ∃ c, c = (n0 + n1) / R256 := ⟨_, rfl⟩
  simp only [← hs] at F1 F2 F3 hd
  simp only [← hc] at F1 F2 hd
  have hd2 : (((c : Nat) : Int) == 1) = lessN s n1 := by rw [hd]; rfl
  have F4 := fun W => refmask_any (lessN s n1) W
  have F1 := Lib.hid F1
  have F2 := Lib.hid F2
  have F3 := Lib.hid F3
  have F4 := Lib.hid F4
  clear hs hc hd hl w0 w1
  go_enter Try.func7, Try.ntmps7
  go_wp2_with fail
  refine (F1.out _).mono ?_
  rintro e u1 ⟨rfl, hO1⟩
  have hA : NumAt u1 w.heap.size n0 := hO1.heap (heap_old' (heap_new' rfl _) _) (fun c => c)
  have hB : NumAt u1 (w.heap.size + 1) n1 := hO1.heap (heap_new' (by simp) _) (fun c => c)
  have O1 := Lib.hid ((((Off.refl _ w).alloc _).alloc _).trans hO1 (fun _ _ c => c))
  have lb := hB.lt
  obtain ⟨b0, b1, b2, b3⟩ := hB.four
  have HA := Lib.hid hA
  have HB := Lib.hid hB
  clear hA hB hO1
  go_wp2_with fail
  refine (F2.out _).mono ?_
  rintro e u2 ⟨rfl, hO2⟩
  clear lb b0 b1 b2 b3
  have HA2 := Lib.hid (show NumAt u2 w.heap.size n0 from hO2.heap (heap_old' HA.out _) (fun c => c))
  have HB2 := Lib.hid (show NumAt u2 (w.heap.size + 1) n1 from hO2.heap (heap_old' HB.out _) (fun c => c))
  have HS := Lib.hid (show NumAt u2 u1.heap.size s from hO2.heap (heap_new' rfl _) (fun c => c))
  have O2 := Lib.hid ((O1.out.alloc _).trans hO2 (fun _ _ c => c))
  clear HA HB hO2
  go_wp2_with fail
  refine (alive_any _).mono ?_
  rintro e u3 ⟨rfl, hO3⟩
  have hA : NumAt u3 w.heap.size n0 := hO3.heap (heap_old' HA2.out _) (fun c => c)
  have hB : NumAt u3 (w.heap.size + 1) n1 := hO3.heap (heap_old' HB2.out _) (fun c => c)
  have hS : NumAt u3 u1.heap.size s := hO3.heap (heap_old' HS.out _) (fun c => c)
  have hX : NumAt u3 u2.heap.size n0 := hO3.heap (heap_new' rfl _) (fun c => c)
  have O3 := Lib.hid ((O2.out.alloc _).trans hO3 (fun _ _ c => c))
  obtain ⟨a0, a1, a2, a3⟩ := hA.four
  obtain ⟨b0, b1, b2, b3⟩ := hB.four
  obtain ⟨c0, c1, c2, c3⟩ := hS.four
  obtain ⟨d0, d1, d2, d3⟩ := hX.four
  clear hO3 hA hB hS hX HA2 HB2 HS
  go_wp2_with fail
  refine (F3.out _).mono ?_
  rintro e u4 ⟨rfl, hO4⟩
  have O4 := Lib.hid (O3.out.trans hO4 (fun _ _ c => c))
  clear hO4
  go_wp2_with fail
  refine (F4.out _).mono ?_
  rintro e u5 ⟨rfl, rfl⟩
  go_wp2_with fail
  go_ret
  exact ⟨rfl, O4.out⟩

set_option maxRecDepth 100000 in
theorem lifted (os : Os) (started : os.Started) (H : Type) (enc : TypeId × Value → H) :
    ReturnsInHanded {} Try.checked os 7 .any (Rows.limbInvertsSpec.pre6 enc Try.prog Try.f7 Rows.limbInvertsRow.domain false) (Rows.limbInvertsSpec.post enc Try.prog Try.f7 false true false false) := by
  refine returnsInHanded_of_change (C := Try.checked) own started (by kernel_rfl) Try.func7
    (ChangeSpec.witness6 (enc := enc) (C := Try.checked) false ⟨#[], #[.agg #[.int .u64 0, .int .u64 0, .int .u64 0, .int .u64 0], .agg #[.int .u64 0, .int .u64 0, .int .u64 0, .int .u64 0]], []⟩ 8 (by kernel_rfl) (by kernel_rfl) (by kernel_rfl) (by kernel_rfl)) ?_
  intro W base args ds gs before hval0 hW hcnd _
  have hval : ∀ (j : Nat) t v, Try.f7.params[j]? = some t → args[j]? = some v → Value.okWide Try.prog W .any base t v := hval0
  have hW' := hW
  obtain ⟨p, q, hA0, hV, rfl, hfz, hnd⟩ := hW
  have hA : DataW.TrodAll enc Try.prog W 0 (fun _ => true) true Try.f7.params.toList args.toList ds p := hA0
  rw [Try.params7] at hA hval
  obtain ⟨v0, vs0, d0, ds0, p0, q0, hargs, rfl, rfl, h0, r0⟩ := trodAll_cons hA
  obtain ⟨v1, vs1, d1, ds1, p1, q1, rfl, rfl, rfl, h1, r1⟩ := trodAll_cons r0
  obtain ⟨rfl, rfl, rfl⟩ := trodAll_nil r1
  obtain rfl : args = #[v0, v1] := by cases args; simp_all
  obtain ⟨rfl, rfl⟩ := trodVars_none hV
  have k0 := h0
  have lt0 : ∀ x ∈ p0, x.block < W.heap.size := by obtain ⟨m, hm⟩ := k0; exact DataW.trod_lt m _ _ _ hm
  obtain ⟨n0, w0, rfl⟩ := open_vec (hval 0 23 v0 rfl rfl) h0
  have k1 := h1
  have lt1 : ∀ x ∈ p1, x.block < W.heap.size := by obtain ⟨m, hm⟩ := k1; exact DataW.trod_lt m _ _ _ hm
  obtain ⟨n1, w1, rfl⟩ := open_vec (hval 1 23 v1 rfl rfl) h1
  clear hA0 hval0
  refine (walk n0 n1 W w0 w1).mono fun e W' ⟨he, hoff⟩ => ?_
  have bel : Below W.heap.size W W' := hoff.below (Nat.le_refl _) (fun _ _ c => c)
  subst he
  exact ⟨_, rfl, _, _, _, [], _, [], hW', trodAll_mk1 (shut_bool Try.underlying4 _), (trodAll_cons_mk (Below.trod laidOut (by kernel_rfl) (of_decide_eq_true (by kernel_rfl)) k0 bel lt0) (trodAll_cons_mk (Below.trod laidOut (by kernel_rfl) (of_decide_eq_true (by kernel_rfl)) k1 bel lt1) trodAll_mk0)), rfl, bel.frame _, fun h => by cases h⟩

theorem over : Rows.limbInvertsRow.holds Try.pinned (OpenSpec.ofChange Rows.limbInvertsSpec) :=
  OpenClaim.holds_of_wide 7 Try.f7 rfl rfl rfl rfl rfl rfl rfl ⟨rfl, rfl, rfl, rfl, rfl⟩ rfl rfl rfl rfl rfl (by kernel_rfl) Try.func7 (by kernel_rfl)
    (of_decide_eq_true (by kernel_rfl)) (by unfold Func.isWrapper; first | (rw [if_pos (by decide +kernel)]; kernel_rfl) | (rw [if_neg (by decide +kernel)]; exact ⟨rfl, rfl⟩))
    (fun os started H enc _ => lifted os started H enc)

theorem proved : Rows.LimbInvertsSaid := over
#print axioms proved
end Go.Proofs.Ytaealjhndlobiaa.limbInverts
