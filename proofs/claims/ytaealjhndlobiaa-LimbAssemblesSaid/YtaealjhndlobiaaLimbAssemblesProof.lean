/-
  For every number of four words and every size of groups, the examples of the chapter hold, and the number is determined by its groups of bits: the statement of P3.4 and P3.5. No condition.
-/
import Derived.Test.YtaealjhndlobiaaRows
import Derived.Test.YtaealjhndlobiaaLimbOpen
import Derived.WalkKit
import Derived.ProofKit
import Derived.OpenShut
import Derived.ShutString
import Derived.ChangeOld
import Derived.Below
namespace Go.Proofs.Ytaealjhndlobiaa.limbAssembles
open Go.ChangeShapes Go.WideShapes Go.ChangeAt Go.RowKit
set_option linter.unusedVariables false

theorem own : ownKnob Try.prog.godebug = none := by kernel_rfl
theorem laidOut : laidOutB Try.prog = true := by kernel_rfl

/-- A bit of a group is the bit of the number. -/
theorem group_bit (a p n i : Nat) (hi : i < n) (hn : n ≤ 64) : bits .and .u64 ((bitsV a (p : Int) (n : Int) : Int) / 2 ^ i) 1 = (bitsV a ((p + i : Nat) : Int) 1 : Int) := by
  have h1 : bitsV a ((p + i : Nat) : Int) 1 = a / 2 ^ (p + i) % 2 ^ 1 := bitsV_in (n := 1) (by omega)
  rw [h1, bitsV_in hn]
  have e : ((a / 2 ^ p % 2 ^ n : Nat) : Int) / 2 ^ i = ((a / 2 ^ p % 2 ^ n / 2 ^ i : Nat) : Int) := by simp
  have hl : a / 2 ^ p % 2 ^ n / 2 ^ i < 18446744073709551616 := by
    have l1 : a / 2 ^ p % 2 ^ n < 2 ^ n := Nat.mod_lt _ (Nat.pow_pos (by decide))
    have l2 : 2 ^ n ≤ 2 ^ 64 := Nat.pow_le_pow_right (by decide) hn
    have l3 := Nat.div_le_self (a / 2 ^ p % 2 ^ n) (2 ^ i)
    have l4 : (2 : Nat) ^ 64 = 18446744073709551616 := by decide
    omega
  have hL : ∀ L : Nat, L < 18446744073709551616 → bits .and .u64 (L : Int) 1 = ((L &&& 1 : Nat) : Int) := by
    intro L h
    rw [u64_and _ _ (by omega) (by omega) (by omega) (by omega)]
    rfl
  rw [e, hL _ hl]
  congr 1
  rw [show (1 : Nat) = 2 ^ 1 - 1 by decide, Nat.and_two_pow_sub_one_eq_mod, Nat.pow_add, ← Nat.div_div_eq_div_mul]
  generalize a / 2 ^ p = X
  apply Nat.eq_of_testBit_eq
  intro j
  rw [Nat.testBit_mod_two_pow, Nat.testBit_mod_two_pow, Nat.testBit_div_two_pow, Nat.testBit_div_two_pow, Nat.testBit_mod_two_pow]
  by_cases h : j < 1
  · have e : j + i < n := by omega
    simp [e]
  · have e : decide (j = 0) = false := by simp; omega
    simp [e]
theorem group_word (a q : Nat) (hq : q < 4) : bitsV a ((64 * q : Nat) : Int) 64 = wd a q := by
  have h : bitsV a ((64 * q : Nat) : Int) 64 = a / 2 ^ (64 * q) % 2 ^ 64 := bitsV_in (n := 64) (by omega)
  rw [h]
  unfold wd dg W64
  rw [Nat.pow_mul]
set_option maxHeartbeats 4000000 in
theorem walk (n0 : Nat) (i1 : Int) (w : World) (w0 : n0 < R256) (w1 : (Lit.int .u8 i1).wf = true) :
    Calls Try.prog 8 #[V n0, .int .u8 i1] w fun e w' => e = .returned (.bool true) ∧ Off (fun _ => False) w w' := by
  have hb := bounds_u8 w1
  obtain ⟨m, hm⟩ := Int.eq_ofNat_of_zero_le (show 0 ≤ i1 % 64 by omega)
  have hm2 : m < 64 := by omega
  obtain ⟨n, hn⟩ : ∃ n, n = m + 1 := ⟨_, rfl⟩
  have n1' : (1 : Int) + i1 % 64 = (n : Int) := by omega
  have n2' : (n : Int) ≤ 64 := by omega
  have n3' : (1 : Int) ≤ (n : Int) := by omega
  have h0 := hb.1
  have h255 := hb.2
  have HB := Lib.hid (fun p i hi => group_bit n0 p n i hi (by omega))
  have F1 := Lib.hid (fun p W => bits_any n0 w0 p n W)
  have F2 := Lib.hid (fun p hp W => refbits_any n0 w0 p 1 hp W)
  have HN := Lib.hid hn
  clear hb hn hm hm2 w1
  have G0 := Lib.hid (fun W => by have h := bits_any n0 w0 ((64 * 0 : Nat) : Int) 64 W; rw [group_word n0 0 (by omega)] at h; exact h)
  have G1 := Lib.hid (fun W => by have h := bits_any n0 w0 ((64 * 1 : Nat) : Int) 64 W; rw [group_word n0 1 (by omega)] at h; exact h)
  have G2 := Lib.hid (fun W => by have h := bits_any n0 w0 ((64 * 2 : Nat) : Int) 64 W; rw [group_word n0 2 (by omega)] at h; exact h)
  have G3 := Lib.hid (fun W => by have h := bits_any n0 w0 ((64 * 3 : Nat) : Int) 64 W; rw [group_word n0 3 (by omega)] at h; exact h)
  have hq := fun W => eql_same n0 W
  have hN : NumAt (w.alloc (.cells #[.int .u64 (wd n0 0 : Int), .int .u64 (wd n0 1 : Int), .int .u64 (wd n0 2 : Int), .int .u64 (wd n0 3 : Int)] 23)) w.heap.size n0 := heap_new' rfl _
  have HA := Lib.hid (show Four _ _ _ from hN.four)
  have HO := Lib.hid ((Off.refl (fun _ => False) w).alloc (.cells #[.int .u64 (wd n0 0 : Int), .int .u64 (wd n0 1 : Int), .int .u64 (wd n0 2 : Int), .int .u64 (wd n0 3 : Int)] 23))
  clear hN
  go_enter Try.func8, Try.ntmps8
  go_wp2_with fail
  go_loopw [6] (fun i wr => ∃ p : Nat, p ≤ 400 ∧ i = .int .i64 p ∧ Four wr w.heap.size n0 ∧ Off (fun _ => False) w wr) (fun i _ => 400 - (intOf i).toNat)
  case atStart => exact ⟨0, by omega, rfl, HA.out, HO.out⟩
  case round =>
    obtain ⟨p, hp, rfl, hA, hO⟩ := hrel
    have HA1 := Lib.hid hA
    obtain ⟨a0, a1, a2, a3⟩ := hA
    have HO1 := Lib.hid hO
    clear HA HO
    by_cases hlt : p < 256
    · have p1 : decide ((p : Int) < 256) = true := by simp; omega
      clear hO
      go_wp2_with fail
      refine (F1.out p _).mono ?_
      rintro e u1 ⟨rfl, hO⟩
      have HA2 := Lib.hid (HA1.out.off hO)
      have HO2 := Lib.hid (HO1.out.trans hO (fun _ _ c => c))
      clear hO HA1 HO1 a0 a1 a2 a3
      obtain ⟨g, hg⟩ : ∃ g, g = bitsV n0 (p : Int) (n : Int) := ⟨_, rfl⟩
      rw [← hg]
      have HG := Lib.hid hg
      clear hg
      go_wp2_with fail
      obtain ⟨wo, rfl⟩ : ∃ wo : World, wo = u1 := ⟨_, rfl⟩
      go_loopw [23] (fun i' wr => ∃ i : Nat, i ≤ n ∧ i' = .int .i64 i ∧ Four wr w.heap.size n0 ∧ Off (fun _ => False) w wr) (fun i' _ => n - (intOf i').toNat)
      case atStart => exact ⟨0, by omega, rfl, HA2.out, HO2.out⟩
      case round =>
        obtain ⟨i, hi, rfl, hA, hO⟩ := hrel
        by_cases hlt2 : i < n
        · have j1 : decide ((i : Int) < (n : Int)) = true := by simp; omega
          obtain ⟨s, hs⟩ : ∃ s, s = p + i := ⟨_, rfl⟩
          have s0 : IntKind.i64.wrap ((p : Int) + (i : Int)) = (s : Int) := by rw [IntWalk.i64_in _ (by omega)]; omega
          have hbit := HB.out p i hlt2
          rw [← HG.out, ← hs] at hbit
          have hF := fun W => F2.out (s : Int) (by omega) W
          obtain ⟨y, hy⟩ : ∃ y, y = bitsV n0 (s : Int) 1 := ⟨_, rfl⟩
          simp only [← hy] at hbit hF
          have HF := Lib.hid hF
          have hO' : Off (fun _ => False) w wr.drew := hO.drew
          obtain ⟨a0, a1, a2, a3⟩ := hA
          clear hs hy hF hO HA2 HO2
          go_wp2_with fail
          go_region_held3 (fun w' => w'.cell? ⟨w.heap.size, 0, none⟩ = some (.int .u64 (wd n0 0 : Int)) ∧ w'.cell? ⟨w.heap.size, 1, none⟩ = some (.int .u64 (wd n0 1 : Int)) ∧ w'.cell? ⟨w.heap.size, 2, none⟩ = some (.int .u64 (wd n0 2 : Int)) ∧ w'.cell? ⟨w.heap.size, 3, none⟩ = some (.int .u64 (wd n0 3 : Int)) ∧ Off (fun _ => False) w w')
            (first | assumption | go_keep)
            (((go_at_call 23; refine (held_one HF.out (by assumption)).mono ?_; rintro e w' ⟨rfl, hS⟩)))
          go_wp2_with fail
          go_roundw
          case rel =>
            go_split_ands
            exact ⟨i + 1, by omega, by go_num, ⟨by assumption, by assumption, by assumption, by assumption⟩, by assumption⟩
          case measure => simp [intOf]; omega
        · obtain rfl : i = n := by omega
          have j1 : decide ((i : Int) < (i : Int)) = false := by simp
          have HA3 := Lib.hid hA
          have HO3 := Lib.hid hO
          clear hA hO HA2 HO2
          go_wp2_with fail
          go_roundw
          case rel => exact ⟨p + i, by omega, by simp, HA3.out, HO3.out⟩
          case measure => simp [intOf]; omega
    · have p1 : decide ((p : Int) < 256) = false := by simp; omega
      have hO' : Off (fun _ => False) w wr.drew := hO.drew
      clear hO HA1 HO1
      go_wp2_with fail
      go_region_held3 (fun w' => w'.cell? ⟨w.heap.size, 0, none⟩ = some (.int .u64 (wd n0 0 : Int)) ∧ w'.cell? ⟨w.heap.size, 1, none⟩ = some (.int .u64 (wd n0 1 : Int)) ∧ w'.cell? ⟨w.heap.size, 2, none⟩ = some (.int .u64 (wd n0 2 : Int)) ∧ w'.cell? ⟨w.heap.size, 3, none⟩ = some (.int .u64 (wd n0 3 : Int)) ∧ Off (fun _ => False) w w')
        (first | assumption | go_keep)
        (first
          | (go_at_call 13; refine (held_one alive_any (by assumption)).mono ?_; rintro e w' ⟨rfl, hS⟩)
          | (go_at_call_of 22 (Value.int IntKind.i64 0); refine (held_one G0.out (by assumption)).mono ?_; rintro e w' ⟨rfl, hS⟩)
          | (go_at_call_of 22 (Value.int IntKind.i64 128); refine (held_one G2.out (by assumption)).mono ?_; rintro e w' ⟨rfl, hS⟩)
          | (go_at_call_of 22 (Value.int IntKind.i64 192); refine (held_one G3.out (by assumption)).mono ?_; rintro e w' ⟨rfl, hS⟩)
          | (go_at_call 22; refine (held_one G1.out (by assumption)).mono ?_; rintro e w' ⟨rfl, hS⟩))
      go_wp2
      go_ret
      exact ⟨rfl, by go_split_ands; assumption⟩

set_option maxRecDepth 100000 in
theorem lifted (os : Os) (started : os.Started) (H : Type) (enc : TypeId × Value → H) :
    ReturnsInHanded {} Try.checked os 8 .any (Rows.limbAssemblesSpec.pre6 enc Try.prog Try.f8 Rows.limbAssemblesRow.domain false) (Rows.limbAssemblesSpec.post enc Try.prog Try.f8 false true false false) := by
  refine returnsInHanded_of_change (C := Try.checked) own started (by kernel_rfl) Try.func8
    (ChangeSpec.witness6 (enc := enc) (C := Try.checked) false ⟨#[], #[.agg #[.int .u64 0, .int .u64 0, .int .u64 0, .int .u64 0], .int .u8 0], []⟩ 8 (by kernel_rfl) (by kernel_rfl) (by kernel_rfl) (by kernel_rfl)) ?_
  intro W base args ds gs before hval0 hW hcnd _
  have hval : ∀ (j : Nat) t v, Try.f8.params[j]? = some t → args[j]? = some v → Value.okWide Try.prog W .any base t v := hval0
  have hW' := hW
  obtain ⟨p, q, hA0, hV, rfl, hfz, hnd⟩ := hW
  have hA : DataW.TrodAll enc Try.prog W 0 (fun _ => true) true Try.f8.params.toList args.toList ds p := hA0
  rw [Try.params8] at hA hval
  obtain ⟨v0, vs0, d0, ds0, p0, q0, hargs, rfl, rfl, h0, r0⟩ := trodAll_cons hA
  obtain ⟨v1, vs1, d1, ds1, p1, q1, rfl, rfl, rfl, h1, r1⟩ := trodAll_cons r0
  obtain ⟨rfl, rfl, rfl⟩ := trodAll_nil r1
  obtain rfl : args = #[v0, v1] := by cases args; simp_all
  obtain ⟨rfl, rfl⟩ := trodVars_none hV
  have k0 := h0
  have lt0 : ∀ x ∈ p0, x.block < W.heap.size := by obtain ⟨m, hm⟩ := k0; exact DataW.trod_lt m _ _ _ hm
  obtain ⟨n0, w0, rfl⟩ := open_vec (hval 0 23 v0 rfl rfl) h0
  obtain ⟨i1, rfl, rfl, rfl, w1⟩ := open_int Try.underlying5 (hval 1 5 v1 rfl rfl) h1
  clear hA0 hval0
  refine (walk n0 i1 W w0 w1).mono fun e W' ⟨he, hoff⟩ => ?_
  have bel : Below W.heap.size W W' := hoff.below (Nat.le_refl _) (fun _ _ c => c)
  subst he
  exact ⟨_, rfl, _, _, _, [], _, [], hW', trodAll_mk1 (shut_bool Try.underlying4 _), (trodAll_cons_mk (Below.trod laidOut (by kernel_rfl) (of_decide_eq_true (by kernel_rfl)) k0 bel lt0) (trodAll_cons_mk (shut_int Try.underlying5 w1) trodAll_mk0)), rfl, bel.frame _, fun h => by cases h⟩

theorem over : Rows.limbAssemblesRow.holds Try.pinned (OpenSpec.ofChange Rows.limbAssemblesSpec) :=
  OpenClaim.holds_of_wide 8 Try.f8 rfl rfl rfl rfl rfl rfl rfl ⟨rfl, rfl, rfl, rfl, rfl⟩ rfl rfl rfl rfl rfl (by kernel_rfl) Try.func8 (by kernel_rfl)
    (of_decide_eq_true (by kernel_rfl)) (by unfold Func.isWrapper; first | (rw [if_pos (by decide +kernel)]; kernel_rfl) | (rw [if_neg (by decide +kernel)]; exact ⟨rfl, rfl⟩))
    (fun os started H enc _ => lifted os started H enc)

theorem proved : Rows.LimbAssemblesSaid := over
#print axioms proved
end Go.Proofs.Ytaealjhndlobiaa.limbAssembles
