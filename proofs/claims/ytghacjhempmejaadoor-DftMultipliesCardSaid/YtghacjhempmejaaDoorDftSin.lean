/-
  math.Sincos: at zero, and at the words of the table. Conditions: the tables of the coefficients are as they are laid.
-/
import Derived.Test.YtghacjhempmejaaDoorDftTabs
import Derived.Test.YtghacjhempmejaaDoorDftSc
import Derived.Laws.FloatArith
import Derived.Laws.Externs
namespace Go.Proofs.YtghacjhempmejaaDoor
open Go.RowKit Ieee
set_option maxRecDepth 100000
set_option maxHeartbeats 4000000
@[local go_sem] theorem call_bits (x : Nat) (W : World) : (callFunc 36 #[.float .f64 x]).run Tryd.prog W = .ok (.value (.int .u64 (x : Int))) W := by
  rw [run_callFunc_extern Tryd.func36 (by kernel_rfl) (by kernel_rfl) (by kernel_rfl) (e := Extern.MathFloatBits.float64bits) (by kernel_rfl)]; rfl
@[local go_sem] theorem call_from (n : Int) (W : World) : (callFunc 37 #[.int .u64 n]).run Tryd.prog W = .ok (.value (.float .f64 n.toNat)) W := by
  rw [run_callFunc_extern Tryd.func37 (by kernel_rfl) (by kernel_rfl) (by kernel_rfl) (e := Extern.MathFloatBits.float64frombits) (by kernel_rfl)]; rfl
@[local go_sem] theorem unary_negf (k : FloatKind) (b : Nat) : Op.unary .neg (.float k b) = pure (.float k (Op.negFloat k b)) := rfl
@[local go_sem] theorem and07 : bits BinOp.and IntKind.u64 0 7 = 0 := by kernel_rfl
@[local go_sem] theorem and01 : bits BinOp.and IntKind.u64 0 1 = 0 := by kernel_rfl
@[local go_sem] theorem and27 : bits BinOp.and IntKind.u64 2 7 = 2 := by kernel_rfl
@[local go_sem] theorem and11 : bits BinOp.and IntKind.u64 1 1 = 1 := by kernel_rfl
@[local go_sem] theorem flo0 : floatOfInt FloatKind.f64 0 = 0 := by kernel_rfl
@[local go_sem] theorem flo1 : floatOfInt FloatKind.f64 1 = 4607182418800017408 := by kernel_rfl
theorem isnan_any (x : Nat) (h : FloatKind.f64.format.order x x = some .eq) (w : World) :
    Calls Tryd.prog 38 #[.float .f64 x] w fun e w' => e = .returned (.bool false) ∧ w = w' := by
  go_enter Tryd.func38, Tryd.ntmps38
  go_wp2
  go_ret
  exact ⟨rfl, rfl⟩
theorem abs_is (x a : Nat) (h : (bits BinOp.andNot IntKind.u64 (x : Int) 9223372036854775808).toNat = a) (w : World) :
    Calls Tryd.prog 42 #[.float .f64 x] w fun e w' => e = .returned (.float .f64 a) ∧ w = w' := by
  go_enter Tryd.func42, Tryd.ntmps42
  go_wp2
  go_ret
  exact ⟨by rw [← h]; rfl, rfl⟩
theorem isinf_no (x a : Nat) (h : (bits BinOp.andNot IntKind.u64 (x : Int) 9223372036854775808).toNat = a) (h2 : FloatKind.f64.format.order a 9218868437227405311 = some .lt) (w : World) :
    Calls Tryd.prog 39 #[.float .f64 x, .int .i64 0] w fun e w' => e = .returned (.bool false) ∧ w = w' := by
  have hA := abs_is x a h
  clear h
  go_enter Tryd.func39, Tryd.ntmps39
  go_wp2_with first | (go_at_call 42; refine (hA _).mono ?_; rintro e w' ⟨rfl, rfl⟩) | fail
  go_ret
  exact ⟨rfl, rfl⟩
/-- A word above zero and below all that is treated apart. -/
structure Plain (x a : Nat) (o : Ordering) : Prop where
  self : FloatKind.f64.format.order x x = some .eq
  zero : FloatKind.f64.format.order x 0 = some o
  mag : (bits BinOp.andNot IntKind.u64 (x : Int) 9223372036854775808).toNat = a
  fin : FloatKind.f64.format.order a 9218868437227405311 = some .lt
  low : FloatKind.f64.format.order a 4737786807993761792 = some .lt
theorem sincos_pos (a t s c : Nat) (hp : Plain a a .gt) (ht : floatBits .mul .f64 a 4608412980311869571 = some t) (hj : floatToIntVal .f64 t .u64 = some 0) (hsc : scCore a 0 = some (s, c)) (w : World) (hT : TabAt w) :
    Calls Tryd.prog 32 #[.float .f64 a] w fun e w' => e = .returned (.tuple #[.float .f64 s, .float .f64 c]) ∧ w = w' := by
  obtain ⟨h1, h2, h3, h4, h5⟩ := hp
  have hN := isnan_any a h1
  have hI := isinf_no a a h3 h4
  clear h3 h4
  have c0 : w.cell? ⟨1, 0, none⟩ = some (.float .f64 13666448263388469915) := hT.1 0 _ (by kernel_rfl)
  have c1 : w.cell? ⟨1, 1, none⟩ = some (.float .f64 4477121864728985349) := hT.1 1 _ (by kernel_rfl)
  have c2 : w.cell? ⟨1, 2, none⟩ = some (.float .f64 13732177093698800582) := hT.1 2 _ (by kernel_rfl)
  have c3 : w.cell? ⟨1, 3, none⟩ = some (.float .f64 4537941361668146421) := hT.1 3 _ (by kernel_rfl)
  have c4 : w.cell? ⟨1, 4, none⟩ = some (.float .f64 13787419979223748497) := hT.1 4 _ (by kernel_rfl)
  have c5 : w.cell? ⟨1, 5, none⟩ = some (.float .f64 4586165620538955083) := hT.1 5 _ (by kernel_rfl)
  have d0 : w.cell? ⟨2, 0, none⟩ = some (.float .f64 4460209587652500685) := hT.2 0 _ (by kernel_rfl)
  have d1 : w.cell? ⟨2, 1, none⟩ = some (.float .f64 13716528389658582877) := hT.2 1 _ (by kernel_rfl)
  have d2 : w.cell? ⟨2, 2, none⟩ = some (.float .f64 4523617212962785441) := hT.2 2 _ (by kernel_rfl)
  have d3 : w.cell? ⟨2, 3, none⟩ = some (.float .f64 13774824197404483331) := hT.2 3 _ (by kernel_rfl)
  have d4 : w.cell? ⟨2, 4, none⟩ = some (.float .f64 4575957461383575504) := hT.2 4 _ (by kernel_rfl)
  have d5 : w.cell? ⟨2, 5, none⟩ = some (.float .f64 13818544856648471880) := hT.2 5 _ (by kernel_rfl)
  unfold scCore at hsc
  simp only [Option.bind_eq_some_iff, Option.some.injEq, Prod.mk.injEq] at hsc
  obtain ⟨p1, e1, q1, e2, p2, e3, q2, e4, p3, e5, z, e6, zz, e7, hh, e8, o, e9, z4, e10, c0', e11, d0', e12, c1', e13, d1', e14, c2', e15, d2', e16, c3', e17, d3', e18, c4', e19, d4', e20, c5', e21, cs, e22, z3, e23, s0, e24, t0, e25, s1, e26, t1, e27, s2, e28, t2, e29, s3, e30, t3, e31, s4, e32, t4, e33, s5, e34, sn, e35, rfl, rfl⟩ := hsc
  have E1 := fun (W : World) (t : TypeId) => run_float_arith (P := Tryd.prog) W .mul t .f64 _ _ _ e1
  have E2 := fun (W : World) (t : TypeId) => run_float_arith (P := Tryd.prog) W .sub t .f64 _ _ _ e2
  have E3 := fun (W : World) (t : TypeId) => run_float_arith (P := Tryd.prog) W .mul t .f64 _ _ _ e3
  have E4 := fun (W : World) (t : TypeId) => run_float_arith (P := Tryd.prog) W .sub t .f64 _ _ _ e4
  have E5 := fun (W : World) (t : TypeId) => run_float_arith (P := Tryd.prog) W .mul t .f64 _ _ _ e5
  have E6 := fun (W : World) (t : TypeId) => run_float_arith (P := Tryd.prog) W .sub t .f64 _ _ _ e6
  have E7 := fun (W : World) (t : TypeId) => run_float_arith (P := Tryd.prog) W .mul t .f64 _ _ _ e7
  have E8 := fun (W : World) (t : TypeId) => run_float_arith (P := Tryd.prog) W .mul t .f64 _ _ _ e8
  have E9 := fun (W : World) (t : TypeId) => run_float_arith (P := Tryd.prog) W .sub t .f64 _ _ _ e9
  have E10 := fun (W : World) (t : TypeId) => run_float_arith (P := Tryd.prog) W .mul t .f64 _ _ _ e10
  have E11 := fun (W : World) (t : TypeId) => run_float_arith (P := Tryd.prog) W .mul t .f64 _ _ _ e11
  have E12 := fun (W : World) (t : TypeId) => run_float_arith (P := Tryd.prog) W .add t .f64 _ _ _ e12
  have E13 := fun (W : World) (t : TypeId) => run_float_arith (P := Tryd.prog) W .mul t .f64 _ _ _ e13
  have E14 := fun (W : World) (t : TypeId) => run_float_arith (P := Tryd.prog) W .add t .f64 _ _ _ e14
  have E15 := fun (W : World) (t : TypeId) => run_float_arith (P := Tryd.prog) W .mul t .f64 _ _ _ e15
  have E16 := fun (W : World) (t : TypeId) => run_float_arith (P := Tryd.prog) W .add t .f64 _ _ _ e16
  have E17 := fun (W : World) (t : TypeId) => run_float_arith (P := Tryd.prog) W .mul t .f64 _ _ _ e17
  have E18 := fun (W : World) (t : TypeId) => run_float_arith (P := Tryd.prog) W .add t .f64 _ _ _ e18
  have E19 := fun (W : World) (t : TypeId) => run_float_arith (P := Tryd.prog) W .mul t .f64 _ _ _ e19
  have E20 := fun (W : World) (t : TypeId) => run_float_arith (P := Tryd.prog) W .add t .f64 _ _ _ e20
  have E21 := fun (W : World) (t : TypeId) => run_float_arith (P := Tryd.prog) W .mul t .f64 _ _ _ e21
  have E22 := fun (W : World) (t : TypeId) => run_float_arith (P := Tryd.prog) W .add t .f64 _ _ _ e22
  have E23 := fun (W : World) (t : TypeId) => run_float_arith (P := Tryd.prog) W .mul t .f64 _ _ _ e23
  have E24 := fun (W : World) (t : TypeId) => run_float_arith (P := Tryd.prog) W .mul t .f64 _ _ _ e24
  have E25 := fun (W : World) (t : TypeId) => run_float_arith (P := Tryd.prog) W .add t .f64 _ _ _ e25
  have E26 := fun (W : World) (t : TypeId) => run_float_arith (P := Tryd.prog) W .mul t .f64 _ _ _ e26
  have E27 := fun (W : World) (t : TypeId) => run_float_arith (P := Tryd.prog) W .add t .f64 _ _ _ e27
  have E28 := fun (W : World) (t : TypeId) => run_float_arith (P := Tryd.prog) W .mul t .f64 _ _ _ e28
  have E29 := fun (W : World) (t : TypeId) => run_float_arith (P := Tryd.prog) W .add t .f64 _ _ _ e29
  have E30 := fun (W : World) (t : TypeId) => run_float_arith (P := Tryd.prog) W .mul t .f64 _ _ _ e30
  have E31 := fun (W : World) (t : TypeId) => run_float_arith (P := Tryd.prog) W .add t .f64 _ _ _ e31
  have E32 := fun (W : World) (t : TypeId) => run_float_arith (P := Tryd.prog) W .mul t .f64 _ _ _ e32
  have E33 := fun (W : World) (t : TypeId) => run_float_arith (P := Tryd.prog) W .add t .f64 _ _ _ e33
  have E34 := fun (W : World) (t : TypeId) => run_float_arith (P := Tryd.prog) W .mul t .f64 _ _ _ e34
  have E35 := fun (W : World) (t : TypeId) => run_float_arith (P := Tryd.prog) W .add t .f64 _ _ _ e35
  have E0 := fun (W : World) (t : TypeId) => run_float_arith (P := Tryd.prog) W .mul t .f64 _ _ _ ht
  have EJ := fun (W : World) => run_convert_float_int (P := Tryd.prog) W 35 59 .f64 .u64 t 0 (by kernel_rfl) (by kernel_rfl) hj
  clear ht hj
  clear e1 e2 e3 e4 e5 e6 e7 e8 e9 e10 e11 e12 e13 e14 e15 e16 e17 e18 e19 e20 e21 e22 e23 e24 e25 e26 e27 e28 e29 e30 e31 e32 e33 e34 e35
  clear hT
  go_enter Tryd.func32, Tryd.ntmps32
  go_wp2_with first | (go_at_call 38; refine (hN _).mono ?_; rintro e w' ⟨rfl, rfl⟩) | (go_at_call 39; refine (hI _).mono ?_; rintro e w' ⟨rfl, rfl⟩) | fail
  go_ret2
  exact ⟨rfl, rfl⟩
theorem sincos_neg (x a t s c : Nat) (hp : Plain x a .lt) (hx : Op.negFloat .f64 x = a) (ht : floatBits .mul .f64 a 4608412980311869571 = some t) (hj : floatToIntVal .f64 t .u64 = some 0) (hsc : scCore a 0 = some (s, c)) (w : World) (hT : TabAt w) :
    Calls Tryd.prog 32 #[.float .f64 x] w fun e w' => e = .returned (.tuple #[.float .f64 (Op.negFloat .f64 s), .float .f64 c]) ∧ w = w' := by
  obtain ⟨h1, h2, h3, h4, h5⟩ := hp
  have hN := isnan_any x h1
  have hI := isinf_no x a h3 h4
  clear h3 h4
  have c0 : w.cell? ⟨1, 0, none⟩ = some (.float .f64 13666448263388469915) := hT.1 0 _ (by kernel_rfl)
  have c1 : w.cell? ⟨1, 1, none⟩ = some (.float .f64 4477121864728985349) := hT.1 1 _ (by kernel_rfl)
  have c2 : w.cell? ⟨1, 2, none⟩ = some (.float .f64 13732177093698800582) := hT.1 2 _ (by kernel_rfl)
  have c3 : w.cell? ⟨1, 3, none⟩ = some (.float .f64 4537941361668146421) := hT.1 3 _ (by kernel_rfl)
  have c4 : w.cell? ⟨1, 4, none⟩ = some (.float .f64 13787419979223748497) := hT.1 4 _ (by kernel_rfl)
  have c5 : w.cell? ⟨1, 5, none⟩ = some (.float .f64 4586165620538955083) := hT.1 5 _ (by kernel_rfl)
  have d0 : w.cell? ⟨2, 0, none⟩ = some (.float .f64 4460209587652500685) := hT.2 0 _ (by kernel_rfl)
  have d1 : w.cell? ⟨2, 1, none⟩ = some (.float .f64 13716528389658582877) := hT.2 1 _ (by kernel_rfl)
  have d2 : w.cell? ⟨2, 2, none⟩ = some (.float .f64 4523617212962785441) := hT.2 2 _ (by kernel_rfl)
  have d3 : w.cell? ⟨2, 3, none⟩ = some (.float .f64 13774824197404483331) := hT.2 3 _ (by kernel_rfl)
  have d4 : w.cell? ⟨2, 4, none⟩ = some (.float .f64 4575957461383575504) := hT.2 4 _ (by kernel_rfl)
  have d5 : w.cell? ⟨2, 5, none⟩ = some (.float .f64 13818544856648471880) := hT.2 5 _ (by kernel_rfl)
  unfold scCore at hsc
  simp only [Option.bind_eq_some_iff, Option.some.injEq, Prod.mk.injEq] at hsc
  obtain ⟨p1, e1, q1, e2, p2, e3, q2, e4, p3, e5, z, e6, zz, e7, hh, e8, o, e9, z4, e10, c0', e11, d0', e12, c1', e13, d1', e14, c2', e15, d2', e16, c3', e17, d3', e18, c4', e19, d4', e20, c5', e21, cs, e22, z3, e23, s0, e24, t0, e25, s1, e26, t1, e27, s2, e28, t2, e29, s3, e30, t3, e31, s4, e32, t4, e33, s5, e34, sn, e35, rfl, rfl⟩ := hsc
  have E1 := fun (W : World) (t : TypeId) => run_float_arith (P := Tryd.prog) W .mul t .f64 _ _ _ e1
  have E2 := fun (W : World) (t : TypeId) => run_float_arith (P := Tryd.prog) W .sub t .f64 _ _ _ e2
  have E3 := fun (W : World) (t : TypeId) => run_float_arith (P := Tryd.prog) W .mul t .f64 _ _ _ e3
  have E4 := fun (W : World) (t : TypeId) => run_float_arith (P := Tryd.prog) W .sub t .f64 _ _ _ e4
  have E5 := fun (W : World) (t : TypeId) => run_float_arith (P := Tryd.prog) W .mul t .f64 _ _ _ e5
  have E6 := fun (W : World) (t : TypeId) => run_float_arith (P := Tryd.prog) W .sub t .f64 _ _ _ e6
  have E7 := fun (W : World) (t : TypeId) => run_float_arith (P := Tryd.prog) W .mul t .f64 _ _ _ e7
  have E8 := fun (W : World) (t : TypeId) => run_float_arith (P := Tryd.prog) W .mul t .f64 _ _ _ e8
  have E9 := fun (W : World) (t : TypeId) => run_float_arith (P := Tryd.prog) W .sub t .f64 _ _ _ e9
  have E10 := fun (W : World) (t : TypeId) => run_float_arith (P := Tryd.prog) W .mul t .f64 _ _ _ e10
  have E11 := fun (W : World) (t : TypeId) => run_float_arith (P := Tryd.prog) W .mul t .f64 _ _ _ e11
  have E12 := fun (W : World) (t : TypeId) => run_float_arith (P := Tryd.prog) W .add t .f64 _ _ _ e12
  have E13 := fun (W : World) (t : TypeId) => run_float_arith (P := Tryd.prog) W .mul t .f64 _ _ _ e13
  have E14 := fun (W : World) (t : TypeId) => run_float_arith (P := Tryd.prog) W .add t .f64 _ _ _ e14
  have E15 := fun (W : World) (t : TypeId) => run_float_arith (P := Tryd.prog) W .mul t .f64 _ _ _ e15
  have E16 := fun (W : World) (t : TypeId) => run_float_arith (P := Tryd.prog) W .add t .f64 _ _ _ e16
  have E17 := fun (W : World) (t : TypeId) => run_float_arith (P := Tryd.prog) W .mul t .f64 _ _ _ e17
  have E18 := fun (W : World) (t : TypeId) => run_float_arith (P := Tryd.prog) W .add t .f64 _ _ _ e18
  have E19 := fun (W : World) (t : TypeId) => run_float_arith (P := Tryd.prog) W .mul t .f64 _ _ _ e19
  have E20 := fun (W : World) (t : TypeId) => run_float_arith (P := Tryd.prog) W .add t .f64 _ _ _ e20
  have E21 := fun (W : World) (t : TypeId) => run_float_arith (P := Tryd.prog) W .mul t .f64 _ _ _ e21
  have E22 := fun (W : World) (t : TypeId) => run_float_arith (P := Tryd.prog) W .add t .f64 _ _ _ e22
  have E23 := fun (W : World) (t : TypeId) => run_float_arith (P := Tryd.prog) W .mul t .f64 _ _ _ e23
  have E24 := fun (W : World) (t : TypeId) => run_float_arith (P := Tryd.prog) W .mul t .f64 _ _ _ e24
  have E25 := fun (W : World) (t : TypeId) => run_float_arith (P := Tryd.prog) W .add t .f64 _ _ _ e25
  have E26 := fun (W : World) (t : TypeId) => run_float_arith (P := Tryd.prog) W .mul t .f64 _ _ _ e26
  have E27 := fun (W : World) (t : TypeId) => run_float_arith (P := Tryd.prog) W .add t .f64 _ _ _ e27
  have E28 := fun (W : World) (t : TypeId) => run_float_arith (P := Tryd.prog) W .mul t .f64 _ _ _ e28
  have E29 := fun (W : World) (t : TypeId) => run_float_arith (P := Tryd.prog) W .add t .f64 _ _ _ e29
  have E30 := fun (W : World) (t : TypeId) => run_float_arith (P := Tryd.prog) W .mul t .f64 _ _ _ e30
  have E31 := fun (W : World) (t : TypeId) => run_float_arith (P := Tryd.prog) W .add t .f64 _ _ _ e31
  have E32 := fun (W : World) (t : TypeId) => run_float_arith (P := Tryd.prog) W .mul t .f64 _ _ _ e32
  have E33 := fun (W : World) (t : TypeId) => run_float_arith (P := Tryd.prog) W .add t .f64 _ _ _ e33
  have E34 := fun (W : World) (t : TypeId) => run_float_arith (P := Tryd.prog) W .mul t .f64 _ _ _ e34
  have E35 := fun (W : World) (t : TypeId) => run_float_arith (P := Tryd.prog) W .add t .f64 _ _ _ e35
  have E0 := fun (W : World) (t : TypeId) => run_float_arith (P := Tryd.prog) W .mul t .f64 _ _ _ ht
  have EJ := fun (W : World) => run_convert_float_int (P := Tryd.prog) W 35 59 .f64 .u64 t 0 (by kernel_rfl) (by kernel_rfl) hj
  clear ht hj
  clear e1 e2 e3 e4 e5 e6 e7 e8 e9 e10 e11 e12 e13 e14 e15 e16 e17 e18 e19 e20 e21 e22 e23 e24 e25 e26 e27 e28 e29 e30 e31 e32 e33 e34 e35
  clear hT
  go_enter Tryd.func32, Tryd.ntmps32
  go_wp2_with first | (go_at_call 38; refine (hN _).mono ?_; rintro e w' ⟨rfl, rfl⟩) | (go_at_call 39; refine (hI _).mono ?_; rintro e w' ⟨rfl, rfl⟩) | fail
  go_ret2
  exact ⟨rfl, rfl⟩
theorem sincos_pos1 (a t s c : Nat) (hp : Plain a a .gt) (ht : floatBits .mul .f64 a 4608412980311869571 = some t) (hj : floatToIntVal .f64 t .u64 = some 1) (hsc : scCore a 4611686018427387904 = some (s, c)) (w : World) (hT : TabAt w) :
    Calls Tryd.prog 32 #[.float .f64 a] w fun e w' => e = .returned (.tuple #[.float .f64 c, .float .f64 (Op.negFloat .f64 s)]) ∧ w = w' := by
  obtain ⟨h1, h2, h3, h4, h5⟩ := hp
  have hN := isnan_any a h1
  have hI := isinf_no a a h3 h4
  clear h3 h4
  have c0 : w.cell? ⟨1, 0, none⟩ = some (.float .f64 13666448263388469915) := hT.1 0 _ (by kernel_rfl)
  have c1 : w.cell? ⟨1, 1, none⟩ = some (.float .f64 4477121864728985349) := hT.1 1 _ (by kernel_rfl)
  have c2 : w.cell? ⟨1, 2, none⟩ = some (.float .f64 13732177093698800582) := hT.1 2 _ (by kernel_rfl)
  have c3 : w.cell? ⟨1, 3, none⟩ = some (.float .f64 4537941361668146421) := hT.1 3 _ (by kernel_rfl)
  have c4 : w.cell? ⟨1, 4, none⟩ = some (.float .f64 13787419979223748497) := hT.1 4 _ (by kernel_rfl)
  have c5 : w.cell? ⟨1, 5, none⟩ = some (.float .f64 4586165620538955083) := hT.1 5 _ (by kernel_rfl)
  have d0 : w.cell? ⟨2, 0, none⟩ = some (.float .f64 4460209587652500685) := hT.2 0 _ (by kernel_rfl)
  have d1 : w.cell? ⟨2, 1, none⟩ = some (.float .f64 13716528389658582877) := hT.2 1 _ (by kernel_rfl)
  have d2 : w.cell? ⟨2, 2, none⟩ = some (.float .f64 4523617212962785441) := hT.2 2 _ (by kernel_rfl)
  have d3 : w.cell? ⟨2, 3, none⟩ = some (.float .f64 13774824197404483331) := hT.2 3 _ (by kernel_rfl)
  have d4 : w.cell? ⟨2, 4, none⟩ = some (.float .f64 4575957461383575504) := hT.2 4 _ (by kernel_rfl)
  have d5 : w.cell? ⟨2, 5, none⟩ = some (.float .f64 13818544856648471880) := hT.2 5 _ (by kernel_rfl)
  unfold scCore at hsc
  simp only [Option.bind_eq_some_iff, Option.some.injEq, Prod.mk.injEq] at hsc
  obtain ⟨p1, e1, q1, e2, p2, e3, q2, e4, p3, e5, z, e6, zz, e7, hh, e8, o, e9, z4, e10, c0', e11, d0', e12, c1', e13, d1', e14, c2', e15, d2', e16, c3', e17, d3', e18, c4', e19, d4', e20, c5', e21, cs, e22, z3, e23, s0, e24, t0, e25, s1, e26, t1, e27, s2, e28, t2, e29, s3, e30, t3, e31, s4, e32, t4, e33, s5, e34, sn, e35, rfl, rfl⟩ := hsc
  have E1 := fun (W : World) (t : TypeId) => run_float_arith (P := Tryd.prog) W .mul t .f64 _ _ _ e1
  have E2 := fun (W : World) (t : TypeId) => run_float_arith (P := Tryd.prog) W .sub t .f64 _ _ _ e2
  have E3 := fun (W : World) (t : TypeId) => run_float_arith (P := Tryd.prog) W .mul t .f64 _ _ _ e3
  have E4 := fun (W : World) (t : TypeId) => run_float_arith (P := Tryd.prog) W .sub t .f64 _ _ _ e4
  have E5 := fun (W : World) (t : TypeId) => run_float_arith (P := Tryd.prog) W .mul t .f64 _ _ _ e5
  have E6 := fun (W : World) (t : TypeId) => run_float_arith (P := Tryd.prog) W .sub t .f64 _ _ _ e6
  have E7 := fun (W : World) (t : TypeId) => run_float_arith (P := Tryd.prog) W .mul t .f64 _ _ _ e7
  have E8 := fun (W : World) (t : TypeId) => run_float_arith (P := Tryd.prog) W .mul t .f64 _ _ _ e8
  have E9 := fun (W : World) (t : TypeId) => run_float_arith (P := Tryd.prog) W .sub t .f64 _ _ _ e9
  have E10 := fun (W : World) (t : TypeId) => run_float_arith (P := Tryd.prog) W .mul t .f64 _ _ _ e10
  have E11 := fun (W : World) (t : TypeId) => run_float_arith (P := Tryd.prog) W .mul t .f64 _ _ _ e11
  have E12 := fun (W : World) (t : TypeId) => run_float_arith (P := Tryd.prog) W .add t .f64 _ _ _ e12
  have E13 := fun (W : World) (t : TypeId) => run_float_arith (P := Tryd.prog) W .mul t .f64 _ _ _ e13
  have E14 := fun (W : World) (t : TypeId) => run_float_arith (P := Tryd.prog) W .add t .f64 _ _ _ e14
  have E15 := fun (W : World) (t : TypeId) => run_float_arith (P := Tryd.prog) W .mul t .f64 _ _ _ e15
  have E16 := fun (W : World) (t : TypeId) => run_float_arith (P := Tryd.prog) W .add t .f64 _ _ _ e16
  have E17 := fun (W : World) (t : TypeId) => run_float_arith (P := Tryd.prog) W .mul t .f64 _ _ _ e17
  have E18 := fun (W : World) (t : TypeId) => run_float_arith (P := Tryd.prog) W .add t .f64 _ _ _ e18
  have E19 := fun (W : World) (t : TypeId) => run_float_arith (P := Tryd.prog) W .mul t .f64 _ _ _ e19
  have E20 := fun (W : World) (t : TypeId) => run_float_arith (P := Tryd.prog) W .add t .f64 _ _ _ e20
  have E21 := fun (W : World) (t : TypeId) => run_float_arith (P := Tryd.prog) W .mul t .f64 _ _ _ e21
  have E22 := fun (W : World) (t : TypeId) => run_float_arith (P := Tryd.prog) W .add t .f64 _ _ _ e22
  have E23 := fun (W : World) (t : TypeId) => run_float_arith (P := Tryd.prog) W .mul t .f64 _ _ _ e23
  have E24 := fun (W : World) (t : TypeId) => run_float_arith (P := Tryd.prog) W .mul t .f64 _ _ _ e24
  have E25 := fun (W : World) (t : TypeId) => run_float_arith (P := Tryd.prog) W .add t .f64 _ _ _ e25
  have E26 := fun (W : World) (t : TypeId) => run_float_arith (P := Tryd.prog) W .mul t .f64 _ _ _ e26
  have E27 := fun (W : World) (t : TypeId) => run_float_arith (P := Tryd.prog) W .add t .f64 _ _ _ e27
  have E28 := fun (W : World) (t : TypeId) => run_float_arith (P := Tryd.prog) W .mul t .f64 _ _ _ e28
  have E29 := fun (W : World) (t : TypeId) => run_float_arith (P := Tryd.prog) W .add t .f64 _ _ _ e29
  have E30 := fun (W : World) (t : TypeId) => run_float_arith (P := Tryd.prog) W .mul t .f64 _ _ _ e30
  have E31 := fun (W : World) (t : TypeId) => run_float_arith (P := Tryd.prog) W .add t .f64 _ _ _ e31
  have E32 := fun (W : World) (t : TypeId) => run_float_arith (P := Tryd.prog) W .mul t .f64 _ _ _ e32
  have E33 := fun (W : World) (t : TypeId) => run_float_arith (P := Tryd.prog) W .add t .f64 _ _ _ e33
  have E34 := fun (W : World) (t : TypeId) => run_float_arith (P := Tryd.prog) W .mul t .f64 _ _ _ e34
  have E35 := fun (W : World) (t : TypeId) => run_float_arith (P := Tryd.prog) W .add t .f64 _ _ _ e35
  have E0 := fun (W : World) (t : TypeId) => run_float_arith (P := Tryd.prog) W .mul t .f64 _ _ _ ht
  have EJ := fun (W : World) => run_convert_float_int (P := Tryd.prog) W 35 59 .f64 .u64 t 1 (by kernel_rfl) (by kernel_rfl) hj
  have EY := fun (W : World) (t : TypeId) => run_float_arith (P := Tryd.prog) W .add t .f64 4607182418800017408 4607182418800017408 4611686018427387904 (by kernel_rfl)
  clear ht hj
  clear e1 e2 e3 e4 e5 e6 e7 e8 e9 e10 e11 e12 e13 e14 e15 e16 e17 e18 e19 e20 e21 e22 e23 e24 e25 e26 e27 e28 e29 e30 e31 e32 e33 e34 e35
  clear hT
  go_enter Tryd.func32, Tryd.ntmps32
  go_wp2_with first | (go_at_call 38; refine (hN _).mono ?_; rintro e w' ⟨rfl, rfl⟩) | (go_at_call 39; refine (hI _).mono ?_; rintro e w' ⟨rfl, rfl⟩) | fail
  go_ret2
  exact ⟨rfl, rfl⟩
theorem sincos_neg1 (x a t s c : Nat) (hp : Plain x a .lt) (hx : Op.negFloat .f64 x = a) (ht : floatBits .mul .f64 a 4608412980311869571 = some t) (hj : floatToIntVal .f64 t .u64 = some 1) (hsc : scCore a 4611686018427387904 = some (s, c)) (w : World) (hT : TabAt w) :
    Calls Tryd.prog 32 #[.float .f64 x] w fun e w' => e = .returned (.tuple #[.float .f64 (Op.negFloat .f64 c), .float .f64 (Op.negFloat .f64 s)]) ∧ w = w' := by
  obtain ⟨h1, h2, h3, h4, h5⟩ := hp
  have hN := isnan_any x h1
  have hI := isinf_no x a h3 h4
  clear h3 h4
  have c0 : w.cell? ⟨1, 0, none⟩ = some (.float .f64 13666448263388469915) := hT.1 0 _ (by kernel_rfl)
  have c1 : w.cell? ⟨1, 1, none⟩ = some (.float .f64 4477121864728985349) := hT.1 1 _ (by kernel_rfl)
  have c2 : w.cell? ⟨1, 2, none⟩ = some (.float .f64 13732177093698800582) := hT.1 2 _ (by kernel_rfl)
  have c3 : w.cell? ⟨1, 3, none⟩ = some (.float .f64 4537941361668146421) := hT.1 3 _ (by kernel_rfl)
  have c4 : w.cell? ⟨1, 4, none⟩ = some (.float .f64 13787419979223748497) := hT.1 4 _ (by kernel_rfl)
  have c5 : w.cell? ⟨1, 5, none⟩ = some (.float .f64 4586165620538955083) := hT.1 5 _ (by kernel_rfl)
  have d0 : w.cell? ⟨2, 0, none⟩ = some (.float .f64 4460209587652500685) := hT.2 0 _ (by kernel_rfl)
  have d1 : w.cell? ⟨2, 1, none⟩ = some (.float .f64 13716528389658582877) := hT.2 1 _ (by kernel_rfl)
  have d2 : w.cell? ⟨2, 2, none⟩ = some (.float .f64 4523617212962785441) := hT.2 2 _ (by kernel_rfl)
  have d3 : w.cell? ⟨2, 3, none⟩ = some (.float .f64 13774824197404483331) := hT.2 3 _ (by kernel_rfl)
  have d4 : w.cell? ⟨2, 4, none⟩ = some (.float .f64 4575957461383575504) := hT.2 4 _ (by kernel_rfl)
  have d5 : w.cell? ⟨2, 5, none⟩ = some (.float .f64 13818544856648471880) := hT.2 5 _ (by kernel_rfl)
  unfold scCore at hsc
  simp only [Option.bind_eq_some_iff, Option.some.injEq, Prod.mk.injEq] at hsc
  obtain ⟨p1, e1, q1, e2, p2, e3, q2, e4, p3, e5, z, e6, zz, e7, hh, e8, o, e9, z4, e10, c0', e11, d0', e12, c1', e13, d1', e14, c2', e15, d2', e16, c3', e17, d3', e18, c4', e19, d4', e20, c5', e21, cs, e22, z3, e23, s0, e24, t0, e25, s1, e26, t1, e27, s2, e28, t2, e29, s3, e30, t3, e31, s4, e32, t4, e33, s5, e34, sn, e35, rfl, rfl⟩ := hsc
  have E1 := fun (W : World) (t : TypeId) => run_float_arith (P := Tryd.prog) W .mul t .f64 _ _ _ e1
  have E2 := fun (W : World) (t : TypeId) => run_float_arith (P := Tryd.prog) W .sub t .f64 _ _ _ e2
  have E3 := fun (W : World) (t : TypeId) => run_float_arith (P := Tryd.prog) W .mul t .f64 _ _ _ e3
  have E4 := fun (W : World) (t : TypeId) => run_float_arith (P := Tryd.prog) W .sub t .f64 _ _ _ e4
  have E5 := fun (W : World) (t : TypeId) => run_float_arith (P := Tryd.prog) W .mul t .f64 _ _ _ e5
  have E6 := fun (W : World) (t : TypeId) => run_float_arith (P := Tryd.prog) W .sub t .f64 _ _ _ e6
  have E7 := fun (W : World) (t : TypeId) => run_float_arith (P := Tryd.prog) W .mul t .f64 _ _ _ e7
  have E8 := fun (W : World) (t : TypeId) => run_float_arith (P := Tryd.prog) W .mul t .f64 _ _ _ e8
  have E9 := fun (W : World) (t : TypeId) => run_float_arith (P := Tryd.prog) W .sub t .f64 _ _ _ e9
  have E10 := fun (W : World) (t : TypeId) => run_float_arith (P := Tryd.prog) W .mul t .f64 _ _ _ e10
  have E11 := fun (W : World) (t : TypeId) => run_float_arith (P := Tryd.prog) W .mul t .f64 _ _ _ e11
  have E12 := fun (W : World) (t : TypeId) => run_float_arith (P := Tryd.prog) W .add t .f64 _ _ _ e12
  have E13 := fun (W : World) (t : TypeId) => run_float_arith (P := Tryd.prog) W .mul t .f64 _ _ _ e13
  have E14 := fun (W : World) (t : TypeId) => run_float_arith (P := Tryd.prog) W .add t .f64 _ _ _ e14
  have E15 := fun (W : World) (t : TypeId) => run_float_arith (P := Tryd.prog) W .mul t .f64 _ _ _ e15
  have E16 := fun (W : World) (t : TypeId) => run_float_arith (P := Tryd.prog) W .add t .f64 _ _ _ e16
  have E17 := fun (W : World) (t : TypeId) => run_float_arith (P := Tryd.prog) W .mul t .f64 _ _ _ e17
  have E18 := fun (W : World) (t : TypeId) => run_float_arith (P := Tryd.prog) W .add t .f64 _ _ _ e18
  have E19 := fun (W : World) (t : TypeId) => run_float_arith (P := Tryd.prog) W .mul t .f64 _ _ _ e19
  have E20 := fun (W : World) (t : TypeId) => run_float_arith (P := Tryd.prog) W .add t .f64 _ _ _ e20
  have E21 := fun (W : World) (t : TypeId) => run_float_arith (P := Tryd.prog) W .mul t .f64 _ _ _ e21
  have E22 := fun (W : World) (t : TypeId) => run_float_arith (P := Tryd.prog) W .add t .f64 _ _ _ e22
  have E23 := fun (W : World) (t : TypeId) => run_float_arith (P := Tryd.prog) W .mul t .f64 _ _ _ e23
  have E24 := fun (W : World) (t : TypeId) => run_float_arith (P := Tryd.prog) W .mul t .f64 _ _ _ e24
  have E25 := fun (W : World) (t : TypeId) => run_float_arith (P := Tryd.prog) W .add t .f64 _ _ _ e25
  have E26 := fun (W : World) (t : TypeId) => run_float_arith (P := Tryd.prog) W .mul t .f64 _ _ _ e26
  have E27 := fun (W : World) (t : TypeId) => run_float_arith (P := Tryd.prog) W .add t .f64 _ _ _ e27
  have E28 := fun (W : World) (t : TypeId) => run_float_arith (P := Tryd.prog) W .mul t .f64 _ _ _ e28
  have E29 := fun (W : World) (t : TypeId) => run_float_arith (P := Tryd.prog) W .add t .f64 _ _ _ e29
  have E30 := fun (W : World) (t : TypeId) => run_float_arith (P := Tryd.prog) W .mul t .f64 _ _ _ e30
  have E31 := fun (W : World) (t : TypeId) => run_float_arith (P := Tryd.prog) W .add t .f64 _ _ _ e31
  have E32 := fun (W : World) (t : TypeId) => run_float_arith (P := Tryd.prog) W .mul t .f64 _ _ _ e32
  have E33 := fun (W : World) (t : TypeId) => run_float_arith (P := Tryd.prog) W .add t .f64 _ _ _ e33
  have E34 := fun (W : World) (t : TypeId) => run_float_arith (P := Tryd.prog) W .mul t .f64 _ _ _ e34
  have E35 := fun (W : World) (t : TypeId) => run_float_arith (P := Tryd.prog) W .add t .f64 _ _ _ e35
  have E0 := fun (W : World) (t : TypeId) => run_float_arith (P := Tryd.prog) W .mul t .f64 _ _ _ ht
  have EJ := fun (W : World) => run_convert_float_int (P := Tryd.prog) W 35 59 .f64 .u64 t 1 (by kernel_rfl) (by kernel_rfl) hj
  have EY := fun (W : World) (t : TypeId) => run_float_arith (P := Tryd.prog) W .add t .f64 4607182418800017408 4607182418800017408 4611686018427387904 (by kernel_rfl)
  clear ht hj
  clear e1 e2 e3 e4 e5 e6 e7 e8 e9 e10 e11 e12 e13 e14 e15 e16 e17 e18 e19 e20 e21 e22 e23 e24 e25 e26 e27 e28 e29 e30 e31 e32 e33 e34 e35
  clear hT
  go_enter Tryd.func32, Tryd.ntmps32
  go_wp2_with first | (go_at_call 38; refine (hN _).mono ?_; rintro e w' ⟨rfl, rfl⟩) | (go_at_call 39; refine (hI _).mono ?_; rintro e w' ⟨rfl, rfl⟩) | fail
  go_ret2
  exact ⟨rfl, rfl⟩
theorem sincos_zero (w : World) : Calls Tryd.prog 32 #[.float .f64 0] w fun e w' => e = .returned (.tuple #[.float .f64 0, .float .f64 4607182418800017408]) ∧ w = w' := by
  have h : FloatKind.f64.format.order 0 0 = some .eq := by kernel_rfl
  go_enter Tryd.func32, Tryd.ntmps32
  go_wp2
  go_ret2
  exact ⟨rfl, rfl⟩
end Go.Proofs.YtghacjhempmejaaDoor
