/-
  For every field and three numbers, the examples of the chapter hold, and the operations on their forms fulfill the laws of a commutative ring: the statement of P5.1 and P5.4. No condition.
-/
import Derived.Test.YtpekmoegmdfmpaaDoorRows
import Derived.Test.YtpekmoegmdfmpaaDoorTie
import Derived.Test.YtpekmoegmdfmpaaDoorCards
import Derived.LaidMore
import Derived.LaidHandle
import Derived.SevenTiedAt
import Derived.Stop.Joined
import Derived.JoinedOf
import Derived.Test.YtpekmoegmdfmpaaDoorLimbOpen
import Derived.Test.YtpekmoegmdfmpaaDoorMontOpen
import Derived.Test.YtpekmoegmdfmpaaDoorFieldTab
import Derived.Test.YtpekmoegmdfmpaaDoorFieldHeld
import Derived.Test.YtpekmoegmdfmpaaDoorMontOps
import Derived.Test.YtpekmoegmdfmpaaDoorMontAlive
import Derived.Test.YtpekmoegmdfmpaaDoorInvMem
import Derived.Test.YtpekmoegmdfmpaaDoorInvSel
import Derived.WalkKit
import Derived.ProofKit
import Derived.OpenShut
import Derived.ShutString
import Derived.ChangeOld
import Derived.Below
namespace Go.Proofs.YtpekmoegmdfmpaaDoor.montIsRing
open Go.ChangeShapes Go.WideShapes Go.ChangeAt Go.RowKit
set_option linter.unusedVariables false

theorem own : ownKnob Tryd.prog.godebug = none := by kernel_rfl
theorem laidOut : laidOutB Tryd.prog = true := by kernel_rfl

theorem ring_dist {p : Nat} (h : Mp p) (x y z : Nat) : (mm p (fm p x) (fm p y) + mm p (fm p x) (fm p z)) % p = mm p (fm p x) ((fm p y + fm p z) % p) := by
  rw [fm_add, mm_fm h, mm_fm h, mm_fm h, fm_add, Nat.mul_mod_mod, Nat.mul_add, ← Nat.add_mod]
theorem ring_assoc {p : Nat} (h : Mp p) (x y z : Nat) : mm p (fm p x) (mm p (fm p y) (fm p z)) = mm p (mm p (fm p x) (fm p y)) (fm p z) := by
  rw [mm_fm h, mm_fm h, mm_fm h, mm_fm h, Nat.mul_mod_mod, Nat.mod_mul_mod, Nat.mul_assoc]
theorem ring_one {p : Nat} (h : Mp p) {x : Nat} (hx : x < p) : mm p (fm p x) (radV p 256) = fm p x := by
  rw [← fm_one, mm_fm h, Nat.mul_one, Nat.mod_eq_of_lt hx]
set_option maxHeartbeats 4000000 in
theorem walk (i0 : Bool) (n1 o1 : Nat) (n2 : Nat) (w : World) (w0 : True) (w1 : n1 < R256 ∧ o1 < R256) (w2 : n2 < R256) (hT : TabAt w) :
    Calls Tryd.prog 7 #[.bool i0, V2 n1 o1, V n2] w fun e w' => e = .returned (.bool true) ∧ Off (fun _ => False) w w' := by
  obtain ⟨id, p, i, r, s, hF, hid⟩ := fld_of i0
  have hp := hF.mp.lt
  have h1 := hF.mp.one
  have qP := fun W hT => pair_any i0 hF hid n1 o1 w1.1 w1.2 W hT
  obtain ⟨x, hx⟩ : ∃ x, x = n1 % p := ⟨_, rfl⟩
  have hxp : x < p := by rw [hx]; exact Nat.mod_lt _ (by omega)
  obtain ⟨y, hy⟩ : ∃ y, y = o1 % p := ⟨_, rfl⟩
  have hyp : y < p := by rw [hy]; exact Nat.mod_lt _ (by omega)
  rw [← hx, ← hy] at qP
  have FP := Lib.hid qP
  obtain ⟨v, hv⟩ : ∃ v, v = fm p y := ⟨_, rfl⟩
  have hvp : v < p := by rw [hv]; exact fm_lt (by omega) _
  obtain ⟨u, hu⟩ : ∃ u, u = fm p x := ⟨_, rfl⟩
  have hup : u < p := by rw [hu]; exact fm_lt (by omega) _
  obtain ⟨z, hz⟩ : ∃ z, z = n2 % p := ⟨_, rfl⟩
  have hzp : z < p := by rw [hz]; exact Nat.mod_lt _ (by omega)
  obtain ⟨k, hk⟩ : ∃ k, k = fm p z := ⟨_, rfl⟩
  have hkp : k < p := by rw [hk]; exact fm_lt (by omega) _
  have hpos : 0 < p := by omega
  obtain ⟨a1, ha1⟩ : ∃ a1, a1 = (v + k) % p := ⟨_, rfl⟩
  have ha1p : a1 < p := by rw [ha1]; exact Nat.mod_lt _ hpos
  obtain ⟨lf, hl⟩ : ∃ lf, lf = mm p u a1 := ⟨_, rfl⟩
  obtain ⟨a2, ha2⟩ : ∃ a2, a2 = mm p u v := ⟨_, rfl⟩
  have ha2p : a2 < p := by rw [ha2]; exact mm_lt hF.mp _ _
  obtain ⟨a3, ha3⟩ : ∃ a3, a3 = mm p u k := ⟨_, rfl⟩
  have ha3p : a3 < p := by rw [ha3]; exact mm_lt hF.mp _ _
  have hdist : (a2 + a3) % p = lf := by rw [ha2, ha3, hl, ha1, hu, hv, hk]; exact ring_dist hF.mp x y z
  obtain ⟨a4, ha4⟩ : ∃ a4, a4 = mm p a2 k := ⟨_, rfl⟩
  obtain ⟨a5, ha5⟩ : ∃ a5, a5 = mm p v k := ⟨_, rfl⟩
  have ha5p : a5 < p := by rw [ha5]; exact mm_lt hF.mp _ _
  have hassoc : mm p u a5 = a4 := by rw [ha5, ha4, ha2, hu, hv, hk]; exact ring_assoc hF.mp x y z
  have hrp : r < p := by rw [hF.rr]; exact Nat.mod_lt _ hpos
  have hone : mm p u r = u := by rw [hu, hF.rr]; exact ring_one hF.mp hxp
  obtain ⟨d, hd⟩ : ∃ d, d = (u + (p - v)) % p := ⟨_, rfl⟩
  have hdp : d < p := by rw [hd]; exact Nat.mod_lt _ hpos
  have hdv : (d + v) % p = u := by rw [hd, Nat.mod_add_mod, show u + (p - v) + v = u + p by omega, Nat.add_mod_right]; exact Nat.mod_eq_of_lt hup
  obtain ⟨g, hg⟩ : ∃ g, g = (p - u) % p := ⟨_, rfl⟩
  have hgp : g < p := by rw [hg]; exact Nat.mod_lt _ hpos
  have hug : (u + g) % p = 0 := by rw [hg, Nat.add_mod_mod, show u + (p - u) = p by omega, Nat.mod_self]
  have FUV : Hid (∀ e f, ((e = u ∧ f = v) ∨ (e = v ∧ f = u)) → ∀ W, TabAt W → Calls Tryd.prog 12 #[FV id p i r s, V e, V f] W fun e w' => e = .returned (V a2) ∧ Off (fun _ => False) W w') := Lib.hid (fun e f h W hT => by
    rcases h with ⟨rfl, rfl⟩ | ⟨rfl, rfl⟩
    · have h := mmul_any hF e f (by omega) hvp W; rw [← ha2] at h; exact h
    · have h := mmul_any hF e f (by omega) hup W; rw [mm_comm, ← ha2] at h; exact h)
  have e3 : ∀ W, (Op.equalIn 10000 24 (.agg #[.int .u64 0, .int .u64 0, .int .u64 0, .int .u64 0]) (.agg #[.int .u64 0, .int .u64 0, .int .u64 0, .int .u64 0])).run Tryd.prog W = .ok true W := fun W => by rw [equalIn_elem]; simp
  have FU : Hid (∀ W, TabAt W → Calls Tryd.prog 10 #[V p, V x] W fun e w' => e = .returned (V u) ∧ Off (fun _ => False) W w') := Lib.hid (fun W hT => by have h := lform_any p x hp h1 (by have := hxp; omega) W; rw [← hu] at h; exact h)
  have FV1 : Hid (∀ W, TabAt W → Calls Tryd.prog 10 #[V p, V y] W fun e w' => e = .returned (V v) ∧ Off (fun _ => False) W w') := Lib.hid (fun W hT => by have h := lform_any p y hp h1 (by have := hyp; omega) W; rw [← hv] at h; exact h)
  have FK : Hid (∀ W, TabAt W → Calls Tryd.prog 10 #[V p, V z] W fun e w' => e = .returned (V k) ∧ Off (fun _ => False) W w') := Lib.hid (fun W hT => by have h := lform_any p z hp h1 (by have := hzp; omega) W; rw [← hk] at h; exact h)
  have FMOD : Hid (∀ W, TabAt W → Calls Tryd.prog 25 #[V p, V n2] W fun e w' => e = .returned (V z) ∧ Off (fun _ => False) W w') := Lib.hid (fun W hT => by have h := mod_mod p n2 hp h1 w2 W; rw [← hz] at h; exact h)
  have FA1 : Hid (∀ W, TabAt W → Calls Tryd.prog 15 #[FV id p i r s, V v, V k] W fun e w' => e = .returned (V a1) ∧ Off (fun _ => False) W w') := Lib.hid (fun W hT => by have h := madd_any hF v k hvp hkp W; rw [← ha1] at h; exact h)
  have FL : Hid (∀ W, TabAt W → Calls Tryd.prog 12 #[FV id p i r s, V u, V a1] W fun e w' => e = .returned (V lf) ∧ Off (fun _ => False) W w') := Lib.hid (fun W hT => by have h := mmul_any hF u a1 (by omega) ha1p W; rw [← hl] at h; exact h)
  have FA3 : Hid (∀ W, TabAt W → Calls Tryd.prog 12 #[FV id p i r s, V u, V k] W fun e w' => e = .returned (V a3) ∧ Off (fun _ => False) W w') := Lib.hid (fun W hT => by have h := mmul_any hF u k (by omega) hkp W; rw [← ha3] at h; exact h)
  have FR : Hid (∀ W, TabAt W → Calls Tryd.prog 15 #[FV id p i r s, V a2, V a3] W fun e w' => e = .returned (V lf) ∧ Off (fun _ => False) W w') := Lib.hid (fun W hT => by have h := madd_any hF a2 a3 ha2p ha3p W; rw [hdist] at h; exact h)
  have FM4 : Hid (∀ W, TabAt W → Calls Tryd.prog 12 #[FV id p i r s, V a2, V k] W fun e w' => e = .returned (V a4) ∧ Off (fun _ => False) W w') := Lib.hid (fun W hT => by have h := mmul_any hF a2 k (by omega) hkp W; rw [← ha4] at h; exact h)
  have FA5 : Hid (∀ W, TabAt W → Calls Tryd.prog 12 #[FV id p i r s, V v, V k] W fun e w' => e = .returned (V a5) ∧ Off (fun _ => False) W w') := Lib.hid (fun W hT => by have h := mmul_any hF v k (by omega) hkp W; rw [← ha5] at h; exact h)
  have FM5 : Hid (∀ W, TabAt W → Calls Tryd.prog 12 #[FV id p i r s, V u, V a5] W fun e w' => e = .returned (V a4) ∧ Off (fun _ => False) W w') := Lib.hid (fun W hT => by have h := mmul_any hF u a5 (by omega) ha5p W; rw [hassoc] at h; exact h)
  have FONE : Hid (∀ W, TabAt W → Calls Tryd.prog 12 #[FV id p i r s, V u, V r] W fun e w' => e = .returned (V u) ∧ Off (fun _ => False) W w') := Lib.hid (fun W hT => by have h := mmul_any hF u r (by omega) hrp W; rw [hone] at h; exact h)
  have FD : Hid (∀ W, TabAt W → Calls Tryd.prog 17 #[FV id p i r s, V u, V v] W fun e w' => e = .returned (V d) ∧ Off (fun _ => False) W w') := Lib.hid (fun W hT => by have h := msub_any hF u v hup hvp W; rw [← hd] at h; exact h)
  have FDV : Hid (∀ W, TabAt W → Calls Tryd.prog 15 #[FV id p i r s, V d, V v] W fun e w' => e = .returned (V u) ∧ Off (fun _ => False) W w') := Lib.hid (fun W hT => by have h := madd_any hF d v hdp hvp W; rw [hdv] at h; exact h)
  have FG : Hid (∀ W, TabAt W → Calls Tryd.prog 19 #[FV id p i r s, V u] W fun e w' => e = .returned (V g) ∧ Off (fun _ => False) W w') := Lib.hid (fun W hT => by have h := mneg_any hF u hup W; rw [← hg] at h; exact h)
  have FUG : Hid (∀ W, TabAt W → Calls Tryd.prog 15 #[FV id p i r s, V u, V g] W fun e w' => e = .returned (.agg #[.int .u64 0, .int .u64 0, .int .u64 0, .int .u64 0]) ∧ Off (fun _ => False) W w') := Lib.hid (fun W hT => by have h := madd_any hF u g hup hgp W; rw [hug, lit_small 0 (by decide)] at h; exact h)
  have FAL : Hid (∀ W, TabAt W → Calls Tryd.prog 11 #[] W fun e w' => e = .returned (.bool true) ∧ Off (fun _ => False) W w') := Lib.hid (fun W hT => by exact malive_any W hT)
  clear qP hp h1 hx hxp hu hup hF hid w0 w1 hy hyp hv hvp w2 hz hzp hk hkp hpos ha1 ha1p hl ha2 ha2p ha3 ha3p hdist ha4 ha5 ha5p hassoc hrp hone hd hdp hdv hg hgp hug 
  have e1 := equalIn_elem_same
  have e2 := equalIn_same
  go_enter Tryd.func7, Tryd.ntmps7
  go_wp2_with fail
  refine (FP.out _ (hT.off (((Off.refl _ w).alloc _).alloc _))).mono ?_
  rintro e u0 ⟨rfl, hO1⟩
  obtain ⟨W0, hW0⟩ : ∃ W0, W0 = (((u0.alloc (.cells #[.int .i64 id, .int .u64 (wd p 0 : Int), .int .u64 (wd p 1 : Int), .int .u64 (wd p 2 : Int), .int .u64 (wd p 3 : Int), .int .u64 (i : Int), .int .u64 (wd r 0 : Int), .int .u64 (wd r 1 : Int), .int .u64 (wd r 2 : Int), .int .u64 (wd r 3 : Int), .int .u64 (wd s 0 : Int), .int .u64 (wd s 1 : Int), .int .u64 (wd s 2 : Int), .int .u64 (wd s 3 : Int)] 26)).alloc (.cells #[.int .u64 (wd p 0 : Int), .int .u64 (wd p 1 : Int), .int .u64 (wd p 2 : Int), .int .u64 (wd p 3 : Int)] 23)).alloc (.cells #[.int .u64 (wd x 0 : Int), .int .u64 (wd x 1 : Int), .int .u64 (wd x 2 : Int), .int .u64 (wd x 3 : Int)] 23)).alloc (.cells #[.int .u64 (wd y 0 : Int), .int .u64 (wd y 1 : Int), .int .u64 (wd y 2 : Int), .int .u64 (wd y 3 : Int)] 23) := ⟨_, rfl⟩
  have hO : Off (fun _ => False) w W0 := by rw [hW0]; exact (((((((Off.refl _ w).alloc _).alloc _).trans hO1 (fun _ _ c => c)).alloc _).alloc _).alloc _).alloc _
  have HF0 := Lib.hid (show W0.heap[u0.heap.size]? = some (.cells #[.int .i64 id, .int .u64 (wd p 0 : Int), .int .u64 (wd p 1 : Int), .int .u64 (wd p 2 : Int), .int .u64 (wd p 3 : Int), .int .u64 (i : Int), .int .u64 (wd r 0 : Int), .int .u64 (wd r 1 : Int), .int .u64 (wd r 2 : Int), .int .u64 (wd r 3 : Int), .int .u64 (wd s 0 : Int), .int .u64 (wd s 1 : Int), .int .u64 (wd s 2 : Int), .int .u64 (wd s 3 : Int)] 26) by rw [hW0]; exact heap_old' (heap_old' (heap_old' (heap_new' rfl _) _) _) _)
  have HP0 := Lib.hid (show NumAt W0 (u0.heap.size + 1) p by rw [hW0]; exact heap_old' (heap_old' (heap_new' (by simp) _) _) _)
  have HX0 := Lib.hid (show NumAt W0 (u0.heap.size + 1 + 1) x by rw [hW0]; exact heap_old' (heap_new' (by simp) _) _)
  have HY0 := Lib.hid (show NumAt W0 (u0.heap.size + 1 + 1 + 1) y by rw [hW0]; exact heap_new' (by simp) _)
  have HC0 := Lib.hid (show NumAt W0 (w.heap.size + 1) n2 by rw [hW0]; exact heap_old' (heap_old' (heap_old' (heap_old' (hO1.heap (heap_new' (by simp) _) (fun c => c)) _) _) _) _)
  have HT0 := Lib.hid (hT.off hO)
  have HTW := Lib.hid (fun W (h : Off (fun _ => False) W0 W) => HT0.out.off h)
  have HO0 := Lib.hid hO
  have HW0 := Lib.hid hW0
  have HK : Hid (∀ W, Off (fun _ => False) W0 W → (W.cell? ⟨(u0.heap.size + 1), 0, none⟩ = some (.int .u64 (wd p 0 : Int)) ∧ W.cell? ⟨(u0.heap.size + 1), 1, none⟩ = some (.int .u64 (wd p 1 : Int)) ∧ W.cell? ⟨(u0.heap.size + 1), 2, none⟩ = some (.int .u64 (wd p 2 : Int)) ∧ W.cell? ⟨(u0.heap.size + 1), 3, none⟩ = some (.int .u64 (wd p 3 : Int))) ∧ (W.cell? ⟨(u0.heap.size + 1 + 1), 0, none⟩ = some (.int .u64 (wd x 0 : Int)) ∧ W.cell? ⟨(u0.heap.size + 1 + 1), 1, none⟩ = some (.int .u64 (wd x 1 : Int)) ∧ W.cell? ⟨(u0.heap.size + 1 + 1), 2, none⟩ = some (.int .u64 (wd x 2 : Int)) ∧ W.cell? ⟨(u0.heap.size + 1 + 1), 3, none⟩ = some (.int .u64 (wd x 3 : Int))) ∧ (W.cell? ⟨(u0.heap.size + 1 + 1 + 1), 0, none⟩ = some (.int .u64 (wd y 0 : Int)) ∧ W.cell? ⟨(u0.heap.size + 1 + 1 + 1), 1, none⟩ = some (.int .u64 (wd y 1 : Int)) ∧ W.cell? ⟨(u0.heap.size + 1 + 1 + 1), 2, none⟩ = some (.int .u64 (wd y 2 : Int)) ∧ W.cell? ⟨(u0.heap.size + 1 + 1 + 1), 3, none⟩ = some (.int .u64 (wd y 3 : Int))) ∧ (W.cell? ⟨(w.heap.size + 1), 0, none⟩ = some (.int .u64 (wd n2 0 : Int)) ∧ W.cell? ⟨(w.heap.size + 1), 1, none⟩ = some (.int .u64 (wd n2 1 : Int)) ∧ W.cell? ⟨(w.heap.size + 1), 2, none⟩ = some (.int .u64 (wd n2 2 : Int)) ∧ W.cell? ⟨(w.heap.size + 1), 3, none⟩ = some (.int .u64 (wd n2 3 : Int))) ∧ Off (fun _ => False) W0 W) := Lib.hid (fun W h => ⟨Four.off HP0.out.four h, Four.off HX0.out.four h, Four.off HY0.out.four h, Four.off HC0.out.four h, h⟩)
  clear hO hO1 hT hW0 FP
  go_upto_region 2 with fail
  rw [← HW0.out]
  refine wp_region_inv (fun a0 l a' w' => ∃ (u27 : Value) (u28 : Value) (u29 : Value) (u30 : Value) (u31 : Value) (u32 : Value) (u33 : Value) (u34 : Value) (u35 : Value) (u36 : Value) (u37 : Value) (u11 : Value) (u12 : Value) (u13 : Value) (b11 : Nat) (b12 : Nat) (b13 : Nat), a' = (Act.put (Act.put (Act.put (Act.put (Act.put (Act.put (Act.put (Act.put (Act.put (Act.put (Act.put (Act.put (Act.put (Act.put a0 (some 27) u27) (some 28) u28) (some 29) u29) (some 30) u30) (some 31) u31) (some 32) u32) (some 33) u33) (some 34) u34) (some 35) u35) (some 36) u36) (some 37) u37) (some 11) u11) (some 12) u12) (some 13) u13) ∧ Slot l 0 u27 (V p) ∧ Slot l 1 u28 (V x) ∧ Slot l 2 u29 (V u) ∧ Slot l 3 u30 (V p) ∧ Slot l 4 u31 (V y) ∧ Slot l 5 u32 (V v) ∧ Slot l 6 u33 (V p) ∧ Slot l 7 u34 (V p) ∧ Slot l 8 u35 (V n2) ∧ Slot l 9 u36 (V z) ∧ Slot l 10 u37 (V k) ∧ Blk l 11 14 u11 b11 W0 w' (.cells #[.int .u64 0, .int .u64 0, .int .u64 0, .int .u64 0] 24) (.cells #[.int .u64 (wd u 0 : Int), .int .u64 (wd u 1 : Int), .int .u64 (wd u 2 : Int), .int .u64 (wd u 3 : Int)] 24) ∧ Blk l 12 15 u12 b12 W0 w' (.cells #[.int .u64 0, .int .u64 0, .int .u64 0, .int .u64 0] 24) (.cells #[.int .u64 (wd v 0 : Int), .int .u64 (wd v 1 : Int), .int .u64 (wd v 2 : Int), .int .u64 (wd v 3 : Int)] 24) ∧ Blk l 13 16 u13 b13 W0 w' (.cells #[.int .u64 0, .int .u64 0, .int .u64 0, .int .u64 0] 24) (.cells #[.int .u64 (wd k 0 : Int), .int .u64 (wd k 1 : Int), .int .u64 (wd k 2 : Int), .int .u64 (wd k 3 : Int)] 24) ∧ Dif l 11 12 b11 b12 ∧ Dif l 11 13 b11 b13 ∧ Dif l 12 13 b12 b13 ∧ Off (fun _ => False) W0 w') (by kernel_rfl) (by kernel_rfl) ?_ ⟨?_, ?_, ?_, ?_, ?_, ?_, ?_, ?_, ?_, ?_, ?_, ?_, ?_, ?_, ?_, ?_, ?_, trivial⟩ ?_
  · refine ⟨undef, undef, undef, undef, undef, undef, undef, undef, undef, undef, undef, undef, undef, undef, 0, 0, 0, ?_, Slot.start _ _ _, Slot.start _ _ _, Slot.start _ _ _, Slot.start _ _ _, Slot.start _ _ _, Slot.start _ _ _, Slot.start _ _ _, Slot.start _ _ _, Slot.start _ _ _, Slot.start _ _ _, Slot.start _ _ _, Blk.start _ _ _ _ _ _ _ _, Blk.start _ _ _ _ _ _ _ _, Blk.start _ _ _ _ _ _ _ _, Dif.start _ _ _ _, Dif.start _ _ _ _, Dif.start _ _ _ _, (Off.refl _ W0).drew⟩
    simp only [Act.put, List.setIfInBounds_toArray, List.set_cons_zero, List.set_cons_succ]
  · as_aux_lemma =>
      intro l a wr hI hl hd K' hK
      obtain ⟨u27, u28, u29, u30, u31, u32, u33, u34, u35, u36, u37, u11, u12, u13, b11, b12, b13, ha, s0, s1, s2, s3, s4, s5, s6, s7, s8, s9, s10, B11, B12, B13, D11_12, D11_13, D12_13, hO⟩ := hI
      simp only [Act.put, List.setIfInBounds_toArray, List.set_cons_zero, List.set_cons_succ] at ha
      subst ha
      have hc := HK.out wr hO
      have p0 := hc.1.1
      have p1 := hc.1.2.1
      have p2 := hc.1.2.2.1
      have p3 := hc.1.2.2.2
      clear hc
      go_simp
      refine hK.out _ _ ⟨_, _, _, _, _, _, _, _, _, _, _, _, _, _, _, _, _, ?_, Slot.new _ _ _, s1.keep rfl, s2.keep rfl, s3.keep rfl, s4.keep rfl, s5.keep rfl, s6.keep rfl, s7.keep rfl, s8.keep rfl, s9.keep rfl, s10.keep rfl, B11.keep (Off.refl _ wr) rfl rfl, B12.keep (Off.refl _ wr) rfl rfl, B13.keep (Off.refl _ wr) rfl rfl, D11_12.keep rfl rfl, D11_13.keep rfl rfl, D12_13.keep rfl rfl, hO⟩
      simp only [Act.put, List.setIfInBounds_toArray, List.set_cons_zero, List.set_cons_succ]
  · as_aux_lemma =>
      intro l a wr hI hl hd K' hK
      obtain ⟨u27, u28, u29, u30, u31, u32, u33, u34, u35, u36, u37, u11, u12, u13, b11, b12, b13, ha, s0, s1, s2, s3, s4, s5, s6, s7, s8, s9, s10, B11, B12, B13, D11_12, D11_13, D12_13, hO⟩ := hI
      simp only [Act.put, List.setIfInBounds_toArray, List.set_cons_zero, List.set_cons_succ] at ha
      subst ha
      have hc := HK.out wr hO
      have p0 := hc.2.1.1
      have p1 := hc.2.1.2.1
      have p2 := hc.2.1.2.2.1
      have p3 := hc.2.1.2.2.2
      clear hc
      go_simp
      refine hK.out _ _ ⟨_, _, _, _, _, _, _, _, _, _, _, _, _, _, _, _, _, ?_, s0.keep rfl, Slot.new _ _ _, s2.keep rfl, s3.keep rfl, s4.keep rfl, s5.keep rfl, s6.keep rfl, s7.keep rfl, s8.keep rfl, s9.keep rfl, s10.keep rfl, B11.keep (Off.refl _ wr) rfl rfl, B12.keep (Off.refl _ wr) rfl rfl, B13.keep (Off.refl _ wr) rfl rfl, D11_12.keep rfl rfl, D11_13.keep rfl rfl, D12_13.keep rfl rfl, hO⟩
      simp only [Act.put, List.setIfInBounds_toArray, List.set_cons_zero, List.set_cons_succ]
  · as_aux_lemma =>
      intro l a wr hI hl hd K' hK
      obtain ⟨u27, u28, u29, u30, u31, u32, u33, u34, u35, u36, u37, u11, u12, u13, b11, b12, b13, ha, s0, s1, s2, s3, s4, s5, s6, s7, s8, s9, s10, B11, B12, B13, D11_12, D11_13, D12_13, hO⟩ := hI
      simp only [Act.put, List.setIfInBounds_toArray, List.set_cons_zero, List.set_cons_succ] at ha
      have q0 := s0 (hd 0 (by decide))
      have q1 := s1 (hd 1 (by decide))
      subst ha q0 q1
      go_simp
      refine (held_inv (FU.out wr (HTW.out wr hO)) hO).mono ?_
      rintro e w1 ⟨rfl, hO1, hOW⟩
      go_wp2_with fail
      refine hK.out _ _ ⟨_, _, _, _, _, _, _, _, _, _, _, _, _, _, _, _, _, ?_, s0.keep rfl, s1.keep rfl, Slot.new _ _ _, s3.keep rfl, s4.keep rfl, s5.keep rfl, s6.keep rfl, s7.keep rfl, s8.keep rfl, s9.keep rfl, s10.keep rfl, B11.keep hOW rfl rfl, B12.keep hOW rfl rfl, B13.keep hOW rfl rfl, D11_12.keep rfl rfl, D11_13.keep rfl rfl, D12_13.keep rfl rfl, hO1⟩
      simp only [Act.put, List.setIfInBounds_toArray, List.set_cons_zero, List.set_cons_succ]
  · as_aux_lemma =>
      intro l a wr hI hl hd K' hK
      obtain ⟨u27, u28, u29, u30, u31, u32, u33, u34, u35, u36, u37, u11, u12, u13, b11, b12, b13, ha, s0, s1, s2, s3, s4, s5, s6, s7, s8, s9, s10, B11, B12, B13, D11_12, D11_13, D12_13, hO⟩ := hI
      simp only [Act.put, List.setIfInBounds_toArray, List.set_cons_zero, List.set_cons_succ] at ha
      subst ha
      have hc := HK.out wr hO
      have p0 := hc.1.1
      have p1 := hc.1.2.1
      have p2 := hc.1.2.2.1
      have p3 := hc.1.2.2.2
      clear hc
      go_simp
      refine hK.out _ _ ⟨_, _, _, _, _, _, _, _, _, _, _, _, _, _, _, _, _, ?_, s0.keep rfl, s1.keep rfl, s2.keep rfl, Slot.new _ _ _, s4.keep rfl, s5.keep rfl, s6.keep rfl, s7.keep rfl, s8.keep rfl, s9.keep rfl, s10.keep rfl, B11.keep (Off.refl _ wr) rfl rfl, B12.keep (Off.refl _ wr) rfl rfl, B13.keep (Off.refl _ wr) rfl rfl, D11_12.keep rfl rfl, D11_13.keep rfl rfl, D12_13.keep rfl rfl, hO⟩
      simp only [Act.put, List.setIfInBounds_toArray, List.set_cons_zero, List.set_cons_succ]
  · as_aux_lemma =>
      intro l a wr hI hl hd K' hK
      obtain ⟨u27, u28, u29, u30, u31, u32, u33, u34, u35, u36, u37, u11, u12, u13, b11, b12, b13, ha, s0, s1, s2, s3, s4, s5, s6, s7, s8, s9, s10, B11, B12, B13, D11_12, D11_13, D12_13, hO⟩ := hI
      simp only [Act.put, List.setIfInBounds_toArray, List.set_cons_zero, List.set_cons_succ] at ha
      subst ha
      have hc := HK.out wr hO
      have p0 := hc.2.2.1.1
      have p1 := hc.2.2.1.2.1
      have p2 := hc.2.2.1.2.2.1
      have p3 := hc.2.2.1.2.2.2
      clear hc
      go_simp
      refine hK.out _ _ ⟨_, _, _, _, _, _, _, _, _, _, _, _, _, _, _, _, _, ?_, s0.keep rfl, s1.keep rfl, s2.keep rfl, s3.keep rfl, Slot.new _ _ _, s5.keep rfl, s6.keep rfl, s7.keep rfl, s8.keep rfl, s9.keep rfl, s10.keep rfl, B11.keep (Off.refl _ wr) rfl rfl, B12.keep (Off.refl _ wr) rfl rfl, B13.keep (Off.refl _ wr) rfl rfl, D11_12.keep rfl rfl, D11_13.keep rfl rfl, D12_13.keep rfl rfl, hO⟩
      simp only [Act.put, List.setIfInBounds_toArray, List.set_cons_zero, List.set_cons_succ]
  · as_aux_lemma =>
      intro l a wr hI hl hd K' hK
      obtain ⟨u27, u28, u29, u30, u31, u32, u33, u34, u35, u36, u37, u11, u12, u13, b11, b12, b13, ha, s0, s1, s2, s3, s4, s5, s6, s7, s8, s9, s10, B11, B12, B13, D11_12, D11_13, D12_13, hO⟩ := hI
      simp only [Act.put, List.setIfInBounds_toArray, List.set_cons_zero, List.set_cons_succ] at ha
      have q3 := s3 (hd 3 (by decide))
      have q4 := s4 (hd 4 (by decide))
      subst ha q3 q4
      go_simp
      refine (held_inv (FV1.out wr (HTW.out wr hO)) hO).mono ?_
      rintro e w1 ⟨rfl, hO1, hOW⟩
      go_wp2_with fail
      refine hK.out _ _ ⟨_, _, _, _, _, _, _, _, _, _, _, _, _, _, _, _, _, ?_, s0.keep rfl, s1.keep rfl, s2.keep rfl, s3.keep rfl, s4.keep rfl, Slot.new _ _ _, s6.keep rfl, s7.keep rfl, s8.keep rfl, s9.keep rfl, s10.keep rfl, B11.keep hOW rfl rfl, B12.keep hOW rfl rfl, B13.keep hOW rfl rfl, D11_12.keep rfl rfl, D11_13.keep rfl rfl, D12_13.keep rfl rfl, hO1⟩
      simp only [Act.put, List.setIfInBounds_toArray, List.set_cons_zero, List.set_cons_succ]
  · as_aux_lemma =>
      intro l a wr hI hl hd K' hK
      obtain ⟨u27, u28, u29, u30, u31, u32, u33, u34, u35, u36, u37, u11, u12, u13, b11, b12, b13, ha, s0, s1, s2, s3, s4, s5, s6, s7, s8, s9, s10, B11, B12, B13, D11_12, D11_13, D12_13, hO⟩ := hI
      simp only [Act.put, List.setIfInBounds_toArray, List.set_cons_zero, List.set_cons_succ] at ha
      subst ha
      have hc := HK.out wr hO
      have p0 := hc.1.1
      have p1 := hc.1.2.1
      have p2 := hc.1.2.2.1
      have p3 := hc.1.2.2.2
      clear hc
      go_simp
      refine hK.out _ _ ⟨_, _, _, _, _, _, _, _, _, _, _, _, _, _, _, _, _, ?_, s0.keep rfl, s1.keep rfl, s2.keep rfl, s3.keep rfl, s4.keep rfl, s5.keep rfl, Slot.new _ _ _, s7.keep rfl, s8.keep rfl, s9.keep rfl, s10.keep rfl, B11.keep (Off.refl _ wr) rfl rfl, B12.keep (Off.refl _ wr) rfl rfl, B13.keep (Off.refl _ wr) rfl rfl, D11_12.keep rfl rfl, D11_13.keep rfl rfl, D12_13.keep rfl rfl, hO⟩
      simp only [Act.put, List.setIfInBounds_toArray, List.set_cons_zero, List.set_cons_succ]
  · as_aux_lemma =>
      intro l a wr hI hl hd K' hK
      obtain ⟨u27, u28, u29, u30, u31, u32, u33, u34, u35, u36, u37, u11, u12, u13, b11, b12, b13, ha, s0, s1, s2, s3, s4, s5, s6, s7, s8, s9, s10, B11, B12, B13, D11_12, D11_13, D12_13, hO⟩ := hI
      simp only [Act.put, List.setIfInBounds_toArray, List.set_cons_zero, List.set_cons_succ] at ha
      subst ha
      have hc := HK.out wr hO
      have p0 := hc.1.1
      have p1 := hc.1.2.1
      have p2 := hc.1.2.2.1
      have p3 := hc.1.2.2.2
      clear hc
      go_simp
      refine hK.out _ _ ⟨_, _, _, _, _, _, _, _, _, _, _, _, _, _, _, _, _, ?_, s0.keep rfl, s1.keep rfl, s2.keep rfl, s3.keep rfl, s4.keep rfl, s5.keep rfl, s6.keep rfl, Slot.new _ _ _, s8.keep rfl, s9.keep rfl, s10.keep rfl, B11.keep (Off.refl _ wr) rfl rfl, B12.keep (Off.refl _ wr) rfl rfl, B13.keep (Off.refl _ wr) rfl rfl, D11_12.keep rfl rfl, D11_13.keep rfl rfl, D12_13.keep rfl rfl, hO⟩
      simp only [Act.put, List.setIfInBounds_toArray, List.set_cons_zero, List.set_cons_succ]
  · as_aux_lemma =>
      intro l a wr hI hl hd K' hK
      obtain ⟨u27, u28, u29, u30, u31, u32, u33, u34, u35, u36, u37, u11, u12, u13, b11, b12, b13, ha, s0, s1, s2, s3, s4, s5, s6, s7, s8, s9, s10, B11, B12, B13, D11_12, D11_13, D12_13, hO⟩ := hI
      simp only [Act.put, List.setIfInBounds_toArray, List.set_cons_zero, List.set_cons_succ] at ha
      subst ha
      have hc := HK.out wr hO
      have p0 := hc.2.2.2.1.1
      have p1 := hc.2.2.2.1.2.1
      have p2 := hc.2.2.2.1.2.2.1
      have p3 := hc.2.2.2.1.2.2.2
      clear hc
      go_simp
      refine hK.out _ _ ⟨_, _, _, _, _, _, _, _, _, _, _, _, _, _, _, _, _, ?_, s0.keep rfl, s1.keep rfl, s2.keep rfl, s3.keep rfl, s4.keep rfl, s5.keep rfl, s6.keep rfl, s7.keep rfl, Slot.new _ _ _, s9.keep rfl, s10.keep rfl, B11.keep (Off.refl _ wr) rfl rfl, B12.keep (Off.refl _ wr) rfl rfl, B13.keep (Off.refl _ wr) rfl rfl, D11_12.keep rfl rfl, D11_13.keep rfl rfl, D12_13.keep rfl rfl, hO⟩
      simp only [Act.put, List.setIfInBounds_toArray, List.set_cons_zero, List.set_cons_succ]
  · as_aux_lemma =>
      intro l a wr hI hl hd K' hK
      obtain ⟨u27, u28, u29, u30, u31, u32, u33, u34, u35, u36, u37, u11, u12, u13, b11, b12, b13, ha, s0, s1, s2, s3, s4, s5, s6, s7, s8, s9, s10, B11, B12, B13, D11_12, D11_13, D12_13, hO⟩ := hI
      simp only [Act.put, List.setIfInBounds_toArray, List.set_cons_zero, List.set_cons_succ] at ha
      have q7 := s7 (hd 7 (by decide))
      have q8 := s8 (hd 8 (by decide))
      subst ha q7 q8
      go_simp
      refine (held_inv (FMOD.out wr (HTW.out wr hO)) hO).mono ?_
      rintro e w1 ⟨rfl, hO1, hOW⟩
      go_wp2_with fail
      refine hK.out _ _ ⟨_, _, _, _, _, _, _, _, _, _, _, _, _, _, _, _, _, ?_, s0.keep rfl, s1.keep rfl, s2.keep rfl, s3.keep rfl, s4.keep rfl, s5.keep rfl, s6.keep rfl, s7.keep rfl, s8.keep rfl, Slot.new _ _ _, s10.keep rfl, B11.keep hOW rfl rfl, B12.keep hOW rfl rfl, B13.keep hOW rfl rfl, D11_12.keep rfl rfl, D11_13.keep rfl rfl, D12_13.keep rfl rfl, hO1⟩
      simp only [Act.put, List.setIfInBounds_toArray, List.set_cons_zero, List.set_cons_succ]
  · as_aux_lemma =>
      intro l a wr hI hl hd K' hK
      obtain ⟨u27, u28, u29, u30, u31, u32, u33, u34, u35, u36, u37, u11, u12, u13, b11, b12, b13, ha, s0, s1, s2, s3, s4, s5, s6, s7, s8, s9, s10, B11, B12, B13, D11_12, D11_13, D12_13, hO⟩ := hI
      simp only [Act.put, List.setIfInBounds_toArray, List.set_cons_zero, List.set_cons_succ] at ha
      have q6 := s6 (hd 6 (by decide))
      have q9 := s9 (hd 9 (by decide))
      subst ha q6 q9
      go_simp
      refine (held_inv (FK.out wr (HTW.out wr hO)) hO).mono ?_
      rintro e w1 ⟨rfl, hO1, hOW⟩
      go_wp2_with fail
      refine hK.out _ _ ⟨_, _, _, _, _, _, _, _, _, _, _, _, _, _, _, _, _, ?_, s0.keep rfl, s1.keep rfl, s2.keep rfl, s3.keep rfl, s4.keep rfl, s5.keep rfl, s6.keep rfl, s7.keep rfl, s8.keep rfl, s9.keep rfl, Slot.new _ _ _, B11.keep hOW rfl rfl, B12.keep hOW rfl rfl, B13.keep hOW rfl rfl, D11_12.keep rfl rfl, D11_13.keep rfl rfl, D12_13.keep rfl rfl, hO1⟩
      simp only [Act.put, List.setIfInBounds_toArray, List.set_cons_zero, List.set_cons_succ]
  · as_aux_lemma =>
      intro l a wr hI hl hd K' hK
      obtain ⟨u27, u28, u29, u30, u31, u32, u33, u34, u35, u36, u37, u11, u12, u13, b11, b12, b13, ha, s0, s1, s2, s3, s4, s5, s6, s7, s8, s9, s10, B11, B12, B13, D11_12, D11_13, D12_13, hO⟩ := hI
      simp only [Act.put, List.setIfInBounds_toArray, List.set_cons_zero, List.set_cons_succ] at ha
      subst ha
      go_simp
      refine hK.out _ _ ⟨_, _, _, _, _, _, _, _, _, _, _, _, _, _, _, _, _, ?_, s0.keep rfl, s1.keep rfl, s2.keep rfl, s3.keep rfl, s4.keep rfl, s5.keep rfl, s6.keep rfl, s7.keep rfl, s8.keep rfl, s9.keep rfl, s10.keep rfl, B11.make hl rfl hO, B12.keep ((Off.refl _ wr).alloc _) rfl rfl, B13.keep ((Off.refl _ wr).alloc _) rfl rfl, Dif.left B12 rfl, Dif.left B13 rfl, D12_13.keep rfl rfl, hO.alloc _⟩
      simp only [Act.put, List.setIfInBounds_toArray, List.set_cons_zero, List.set_cons_succ]
  · as_aux_lemma =>
      intro l a wr hI hl hd K' hK
      obtain ⟨u27, u28, u29, u30, u31, u32, u33, u34, u35, u36, u37, u11, u12, u13, b11, b12, b13, ha, s0, s1, s2, s3, s4, s5, s6, s7, s8, s9, s10, B11, B12, B13, D11_12, D11_13, D12_13, hO⟩ := hI
      simp only [Act.put, List.setIfInBounds_toArray, List.set_cons_zero, List.set_cons_succ] at ha
      subst ha
      go_simp
      refine hK.out _ _ ⟨_, _, _, _, _, _, _, _, _, _, _, _, _, _, _, _, _, ?_, s0.keep rfl, s1.keep rfl, s2.keep rfl, s3.keep rfl, s4.keep rfl, s5.keep rfl, s6.keep rfl, s7.keep rfl, s8.keep rfl, s9.keep rfl, s10.keep rfl, B11.keep ((Off.refl _ wr).alloc _) rfl rfl, B12.make hl rfl hO, B13.keep ((Off.refl _ wr).alloc _) rfl rfl, Dif.right B11 rfl, D11_13.keep rfl rfl, Dif.left B13 rfl, hO.alloc _⟩
      simp only [Act.put, List.setIfInBounds_toArray, List.set_cons_zero, List.set_cons_succ]
  · as_aux_lemma =>
      intro l a wr hI hl hd K' hK
      obtain ⟨u27, u28, u29, u30, u31, u32, u33, u34, u35, u36, u37, u11, u12, u13, b11, b12, b13, ha, s0, s1, s2, s3, s4, s5, s6, s7, s8, s9, s10, B11, B12, B13, D11_12, D11_13, D12_13, hO⟩ := hI
      simp only [Act.put, List.setIfInBounds_toArray, List.set_cons_zero, List.set_cons_succ] at ha
      subst ha
      go_simp
      refine hK.out _ _ ⟨_, _, _, _, _, _, _, _, _, _, _, _, _, _, _, _, _, ?_, s0.keep rfl, s1.keep rfl, s2.keep rfl, s3.keep rfl, s4.keep rfl, s5.keep rfl, s6.keep rfl, s7.keep rfl, s8.keep rfl, s9.keep rfl, s10.keep rfl, B11.keep ((Off.refl _ wr).alloc _) rfl rfl, B12.keep ((Off.refl _ wr).alloc _) rfl rfl, B13.make hl rfl hO, D11_12.keep rfl rfl, Dif.right B11 rfl, Dif.right B12 rfl, hO.alloc _⟩
      simp only [Act.put, List.setIfInBounds_toArray, List.set_cons_zero, List.set_cons_succ]
  · as_aux_lemma =>
      intro l a wr hI hl hd K' hK
      obtain ⟨u27, u28, u29, u30, u31, u32, u33, u34, u35, u36, u37, u11, u12, u13, b11, b12, b13, ha, s0, s1, s2, s3, s4, s5, s6, s7, s8, s9, s10, B11, B12, B13, D11_12, D11_13, D12_13, hO⟩ := hI
      simp only [Act.put, List.setIfInBounds_toArray, List.set_cons_zero, List.set_cons_succ] at ha
      have h11 := hd 11 (by decide)
      have q11 := B11.ptr h11
      have q2 := s2 (hd 2 (by decide))
      subst ha q11 q2
      obtain ⟨⟨m0, m1, m2, m3⟩, fz, lt⟩ := zero_cells (B11.was h11 hl)
      go_simp
      refine hK.out _ _ ⟨_, _, _, _, _, _, _, _, _, _, _, _, _, _, _, _, _, ?_, s0.keep rfl, s1.keep rfl, s2.keep rfl, s3.keep rfl, s4.keep rfl, s5.keep rfl, s6.keep rfl, s7.keep rfl, s8.keep rfl, s9.keep rfl, s10.keep rfl, B11.put hl h11 rfl rfl, B12.far (vs := [.int .u64 (wd u 0 : Int), .int .u64 (wd u 1 : Int), .int .u64 (wd u 2 : Int), .int .u64 (wd u 3 : Int)]) rfl rfl (fun g => fun e => D11_12 h11 g e.symm), B13.far (vs := [.int .u64 (wd u 0 : Int), .int .u64 (wd u 1 : Int), .int .u64 (wd u 2 : Int), .int .u64 (wd u 3 : Int)]) rfl rfl (fun g => fun e => D11_13 h11 g e.symm), D11_12.keep rfl rfl, D11_13.keep rfl rfl, D12_13.keep rfl rfl, setCells_in hO (fun c => absurd c (Nat.not_lt.2 (B11.new h11))) [.int .u64 (wd u 0 : Int), .int .u64 (wd u 1 : Int), .int .u64 (wd u 2 : Int), .int .u64 (wd u 3 : Int)]⟩
      simp only [Act.put, List.setIfInBounds_toArray, List.set_cons_zero, List.set_cons_succ]
  · as_aux_lemma =>
      intro l a wr hI hl hd K' hK
      obtain ⟨u27, u28, u29, u30, u31, u32, u33, u34, u35, u36, u37, u11, u12, u13, b11, b12, b13, ha, s0, s1, s2, s3, s4, s5, s6, s7, s8, s9, s10, B11, B12, B13, D11_12, D11_13, D12_13, hO⟩ := hI
      simp only [Act.put, List.setIfInBounds_toArray, List.set_cons_zero, List.set_cons_succ] at ha
      have h12 := hd 12 (by decide)
      have q12 := B12.ptr h12
      have q5 := s5 (hd 5 (by decide))
      subst ha q12 q5
      obtain ⟨⟨m0, m1, m2, m3⟩, fz, lt⟩ := zero_cells (B12.was h12 hl)
      go_simp
      refine hK.out _ _ ⟨_, _, _, _, _, _, _, _, _, _, _, _, _, _, _, _, _, ?_, s0.keep rfl, s1.keep rfl, s2.keep rfl, s3.keep rfl, s4.keep rfl, s5.keep rfl, s6.keep rfl, s7.keep rfl, s8.keep rfl, s9.keep rfl, s10.keep rfl, B11.far (vs := [.int .u64 (wd v 0 : Int), .int .u64 (wd v 1 : Int), .int .u64 (wd v 2 : Int), .int .u64 (wd v 3 : Int)]) rfl rfl (fun g => D11_12 g h12), B12.put hl h12 rfl rfl, B13.far (vs := [.int .u64 (wd v 0 : Int), .int .u64 (wd v 1 : Int), .int .u64 (wd v 2 : Int), .int .u64 (wd v 3 : Int)]) rfl rfl (fun g => fun e => D12_13 h12 g e.symm), D11_12.keep rfl rfl, D11_13.keep rfl rfl, D12_13.keep rfl rfl, setCells_in hO (fun c => absurd c (Nat.not_lt.2 (B12.new h12))) [.int .u64 (wd v 0 : Int), .int .u64 (wd v 1 : Int), .int .u64 (wd v 2 : Int), .int .u64 (wd v 3 : Int)]⟩
      simp only [Act.put, List.setIfInBounds_toArray, List.set_cons_zero, List.set_cons_succ]
  · as_aux_lemma =>
      intro l a wr hI hl hd K' hK
      obtain ⟨u27, u28, u29, u30, u31, u32, u33, u34, u35, u36, u37, u11, u12, u13, b11, b12, b13, ha, s0, s1, s2, s3, s4, s5, s6, s7, s8, s9, s10, B11, B12, B13, D11_12, D11_13, D12_13, hO⟩ := hI
      simp only [Act.put, List.setIfInBounds_toArray, List.set_cons_zero, List.set_cons_succ] at ha
      have h13 := hd 13 (by decide)
      have q13 := B13.ptr h13
      have q10 := s10 (hd 10 (by decide))
      subst ha q13 q10
      obtain ⟨⟨m0, m1, m2, m3⟩, fz, lt⟩ := zero_cells (B13.was h13 hl)
      go_simp
      refine hK.out _ _ ⟨_, _, _, _, _, _, _, _, _, _, _, _, _, _, _, _, _, ?_, s0.keep rfl, s1.keep rfl, s2.keep rfl, s3.keep rfl, s4.keep rfl, s5.keep rfl, s6.keep rfl, s7.keep rfl, s8.keep rfl, s9.keep rfl, s10.keep rfl, B11.far (vs := [.int .u64 (wd k 0 : Int), .int .u64 (wd k 1 : Int), .int .u64 (wd k 2 : Int), .int .u64 (wd k 3 : Int)]) rfl rfl (fun g => D11_13 g h13), B12.far (vs := [.int .u64 (wd k 0 : Int), .int .u64 (wd k 1 : Int), .int .u64 (wd k 2 : Int), .int .u64 (wd k 3 : Int)]) rfl rfl (fun g => D12_13 g h13), B13.put hl h13 rfl rfl, D11_12.keep rfl rfl, D11_13.keep rfl rfl, D12_13.keep rfl rfl, setCells_in hO (fun c => absurd c (Nat.not_lt.2 (B13.new h13))) [.int .u64 (wd k 0 : Int), .int .u64 (wd k 1 : Int), .int .u64 (wd k 2 : Int), .int .u64 (wd k 3 : Int)]⟩
      simp only [Act.put, List.setIfInBounds_toArray, List.set_cons_zero, List.set_cons_succ]
  · intro l a wc hI hd
    obtain ⟨u27, u28, u29, u30, u31, u32, u33, u34, u35, u36, u37, u11, u12, u13, b11, b12, b13, ha, s0, s1, s2, s3, s4, s5, s6, s7, s8, s9, s10, B11, B12, B13, D11_12, D11_13, D12_13, hO⟩ := hI
    simp only [Act.put, List.setIfInBounds_toArray, List.set_cons_zero, List.set_cons_succ] at ha
    have q0 := s0 (hd 0 (by decide))
    have q1 := s1 (hd 1 (by decide))
    have q2 := s2 (hd 2 (by decide))
    have q3 := s3 (hd 3 (by decide))
    have q4 := s4 (hd 4 (by decide))
    have q5 := s5 (hd 5 (by decide))
    have q6 := s6 (hd 6 (by decide))
    have q7 := s7 (hd 7 (by decide))
    have q8 := s8 (hd 8 (by decide))
    have q9 := s9 (hd 9 (by decide))
    have q10 := s10 (hd 10 (by decide))
    have q11 := B11.ptr (hd 11 (by decide))
    have n11 : wc.heap[b11]? = some (.cells #[.int .u64 (wd u 0 : Int), .int .u64 (wd u 1 : Int), .int .u64 (wd u 2 : Int), .int .u64 (wd u 3 : Int)] 24) := B11.now (hd 11 (by decide)) (hd 14 (by decide))
    have q12 := B12.ptr (hd 12 (by decide))
    have n12 : wc.heap[b12]? = some (.cells #[.int .u64 (wd v 0 : Int), .int .u64 (wd v 1 : Int), .int .u64 (wd v 2 : Int), .int .u64 (wd v 3 : Int)] 24) := B12.now (hd 12 (by decide)) (hd 15 (by decide))
    have q13 := B13.ptr (hd 13 (by decide))
    have n13 : wc.heap[b13]? = some (.cells #[.int .u64 (wd k 0 : Int), .int .u64 (wd k 1 : Int), .int .u64 (wd k 2 : Int), .int .u64 (wd k 3 : Int)] 24) := B13.now (hd 13 (by decide)) (hd 16 (by decide))
    subst ha q0 q1 q2 q3 q4 q5 q6 q7 q8 q9 q10 q11 q12 q13
    clear hd s0 s1 s2 s3 s4 s5 s6 s7 s8 s9 s10 B11 B12 B13 D11_12 D11_13 D12_13
    have HO_wc := Lib.hid (HO0.out.trans hO (fun _ _ c => c))
    have HT_wc := Lib.hid (HT0.out.off hO)
    have HF_wc := Lib.hid (show wc.heap[u0.heap.size]? = some (.cells #[.int .i64 id, .int .u64 (wd p 0 : Int), .int .u64 (wd p 1 : Int), .int .u64 (wd p 2 : Int), .int .u64 (wd p 3 : Int), .int .u64 (i : Int), .int .u64 (wd r 0 : Int), .int .u64 (wd r 1 : Int), .int .u64 (wd r 2 : Int), .int .u64 (wd r 3 : Int), .int .u64 (wd s 0 : Int), .int .u64 (wd s 1 : Int), .int .u64 (wd s 2 : Int), .int .u64 (wd s 3 : Int)] 26) from hO.heap HF0.out (fun c => c))
    have HU_wc := Lib.hid (show wc.heap[b11]? = some (.cells #[.int .u64 (wd u 0 : Int), .int .u64 (wd u 1 : Int), .int .u64 (wd u 2 : Int), .int .u64 (wd u 3 : Int)] 24) from n11)
    have HV_wc := Lib.hid (show wc.heap[b12]? = some (.cells #[.int .u64 (wd v 0 : Int), .int .u64 (wd v 1 : Int), .int .u64 (wd v 2 : Int), .int .u64 (wd v 3 : Int)] 24) from n12)
    have HK_wc := Lib.hid (show wc.heap[b13]? = some (.cells #[.int .u64 (wd k 0 : Int), .int .u64 (wd k 1 : Int), .int .u64 (wd k 2 : Int), .int .u64 (wd k 3 : Int)] 24) from n13)
    have HK1 : Hid (∀ W, Off (fun _ => False) wc W → (W.cell? ⟨u0.heap.size, 0, none⟩ = some (.int .i64 id) ∧ W.cell? ⟨u0.heap.size, 1, none⟩ = some (.int .u64 (wd p 0 : Int)) ∧ W.cell? ⟨u0.heap.size, 2, none⟩ = some (.int .u64 (wd p 1 : Int)) ∧ W.cell? ⟨u0.heap.size, 3, none⟩ = some (.int .u64 (wd p 2 : Int)) ∧ W.cell? ⟨u0.heap.size, 4, none⟩ = some (.int .u64 (wd p 3 : Int)) ∧ W.cell? ⟨u0.heap.size, 5, none⟩ = some (.int .u64 (i : Int)) ∧ W.cell? ⟨u0.heap.size, 6, none⟩ = some (.int .u64 (wd r 0 : Int)) ∧ W.cell? ⟨u0.heap.size, 7, none⟩ = some (.int .u64 (wd r 1 : Int)) ∧ W.cell? ⟨u0.heap.size, 8, none⟩ = some (.int .u64 (wd r 2 : Int)) ∧ W.cell? ⟨u0.heap.size, 9, none⟩ = some (.int .u64 (wd r 3 : Int)) ∧ W.cell? ⟨u0.heap.size, 10, none⟩ = some (.int .u64 (wd s 0 : Int)) ∧ W.cell? ⟨u0.heap.size, 11, none⟩ = some (.int .u64 (wd s 1 : Int)) ∧ W.cell? ⟨u0.heap.size, 12, none⟩ = some (.int .u64 (wd s 2 : Int)) ∧ W.cell? ⟨u0.heap.size, 13, none⟩ = some (.int .u64 (wd s 3 : Int))) ∧ (W.cell? ⟨b11, 0, none⟩ = some (.int .u64 (wd u 0 : Int)) ∧ W.cell? ⟨b11, 1, none⟩ = some (.int .u64 (wd u 1 : Int)) ∧ W.cell? ⟨b11, 2, none⟩ = some (.int .u64 (wd u 2 : Int)) ∧ W.cell? ⟨b11, 3, none⟩ = some (.int .u64 (wd u 3 : Int))) ∧ (W.cell? ⟨b12, 0, none⟩ = some (.int .u64 (wd v 0 : Int)) ∧ W.cell? ⟨b12, 1, none⟩ = some (.int .u64 (wd v 1 : Int)) ∧ W.cell? ⟨b12, 2, none⟩ = some (.int .u64 (wd v 2 : Int)) ∧ W.cell? ⟨b12, 3, none⟩ = some (.int .u64 (wd v 3 : Int))) ∧ (W.cell? ⟨b13, 0, none⟩ = some (.int .u64 (wd k 0 : Int)) ∧ W.cell? ⟨b13, 1, none⟩ = some (.int .u64 (wd k 1 : Int)) ∧ W.cell? ⟨b13, 2, none⟩ = some (.int .u64 (wd k 2 : Int)) ∧ W.cell? ⟨b13, 3, none⟩ = some (.int .u64 (wd k 3 : Int))) ∧ Off (fun _ => False) wc W) := Lib.hid (fun W h => ⟨fv_cells (h.heap HF_wc.out (fun c => c)), cells4 (h.heap HU_wc.out (fun c => c)), cells4 (h.heap HV_wc.out (fun c => c)), cells4 (h.heap HK_wc.out (fun c => c)), h⟩)
    have HTW1 := Lib.hid (fun W (h : Off (fun _ => False) wc W) => HT_wc.out.off h)
    clear hO n11 n12 n13 FU FV1 FK FMOD HK HW0 HF0 HP0 HX0 HY0 HC0 HTW HT0
    go_upto_region 3 with fail
    refine wp_region_inv (fun a0 l a' w' => ∃ (u38 : Value) (u39 : Value) (u40 : Value) (u41 : Value) (u42 : Value) (u43 : Value) (u44 : Value) (u14 : Value) (b14 : Nat), a' = (Act.put (Act.put (Act.put (Act.put (Act.put (Act.put (Act.put (Act.put a0 (some 38) u38) (some 39) u39) (some 40) u40) (some 41) u41) (some 42) u42) (some 43) u43) (some 44) u44) (some 14) u14) ∧ Slot l 0 u38 (FV id p i r s) ∧ Slot l 1 u39 (V u) ∧ Slot l 2 u40 (FV id p i r s) ∧ Slot l 3 u41 (V v) ∧ Slot l 4 u42 (V k) ∧ Slot l 5 u43 (V a1) ∧ Slot l 6 u44 (V lf) ∧ Blk l 7 8 u14 b14 wc w' (.cells #[.int .u64 0, .int .u64 0, .int .u64 0, .int .u64 0] 24) (.cells #[.int .u64 (wd lf 0 : Int), .int .u64 (wd lf 1 : Int), .int .u64 (wd lf 2 : Int), .int .u64 (wd lf 3 : Int)] 24) ∧ Off (fun _ => False) wc w') (by kernel_rfl) (by kernel_rfl) ?_ ⟨?_, ?_, ?_, ?_, ?_, ?_, ?_, ?_, ?_, trivial⟩ ?_
    · refine ⟨undef, undef, undef, undef, undef, undef, undef, undef, 0, ?_, Slot.start _ _ _, Slot.start _ _ _, Slot.start _ _ _, Slot.start _ _ _, Slot.start _ _ _, Slot.start _ _ _, Slot.start _ _ _, Blk.start _ _ _ _ _ _ _ _, (Off.refl _ wc).drew⟩
      simp only [Act.put, List.setIfInBounds_toArray, List.set_cons_zero, List.set_cons_succ]
    · as_aux_lemma =>
        intro l a wr hI hl hd K' hK
        obtain ⟨u38, u39, u40, u41, u42, u43, u44, u14, b14, ha, s0, s1, s2, s3, s4, s5, s6, B7, hO⟩ := hI
        simp only [Act.put, List.setIfInBounds_toArray, List.set_cons_zero, List.set_cons_succ] at ha
        subst ha
        have hc := HK1.out wr hO
        have p0 := hc.1.1
        have p1 := hc.1.2.1
        have p2 := hc.1.2.2.1
        have p3 := hc.1.2.2.2.1
        have p4 := hc.1.2.2.2.2.1
        have p5 := hc.1.2.2.2.2.2.1
        have p6 := hc.1.2.2.2.2.2.2.1
        have p7 := hc.1.2.2.2.2.2.2.2.1
        have p8 := hc.1.2.2.2.2.2.2.2.2.1
        have p9 := hc.1.2.2.2.2.2.2.2.2.2.1
        have p10 := hc.1.2.2.2.2.2.2.2.2.2.2.1
        have p11 := hc.1.2.2.2.2.2.2.2.2.2.2.2.1
        have p12 := hc.1.2.2.2.2.2.2.2.2.2.2.2.2.1
        have p13 := hc.1.2.2.2.2.2.2.2.2.2.2.2.2.2
        clear hc
        go_simp
        refine hK.out _ _ ⟨_, _, _, _, _, _, _, _, _, ?_, Slot.new _ _ _, s1.keep rfl, s2.keep rfl, s3.keep rfl, s4.keep rfl, s5.keep rfl, s6.keep rfl, B7.keep (Off.refl _ wr) rfl rfl, hO⟩
        simp only [Act.put, List.setIfInBounds_toArray, List.set_cons_zero, List.set_cons_succ]
    · as_aux_lemma =>
        intro l a wr hI hl hd K' hK
        obtain ⟨u38, u39, u40, u41, u42, u43, u44, u14, b14, ha, s0, s1, s2, s3, s4, s5, s6, B7, hO⟩ := hI
        simp only [Act.put, List.setIfInBounds_toArray, List.set_cons_zero, List.set_cons_succ] at ha
        subst ha
        have hc := HK1.out wr hO
        have p0 := hc.2.1.1
        have p1 := hc.2.1.2.1
        have p2 := hc.2.1.2.2.1
        have p3 := hc.2.1.2.2.2
        clear hc
        go_simp
        refine hK.out _ _ ⟨_, _, _, _, _, _, _, _, _, ?_, s0.keep rfl, Slot.new _ _ _, s2.keep rfl, s3.keep rfl, s4.keep rfl, s5.keep rfl, s6.keep rfl, B7.keep (Off.refl _ wr) rfl rfl, hO⟩
        simp only [Act.put, List.setIfInBounds_toArray, List.set_cons_zero, List.set_cons_succ]
    · as_aux_lemma =>
        intro l a wr hI hl hd K' hK
        obtain ⟨u38, u39, u40, u41, u42, u43, u44, u14, b14, ha, s0, s1, s2, s3, s4, s5, s6, B7, hO⟩ := hI
        simp only [Act.put, List.setIfInBounds_toArray, List.set_cons_zero, List.set_cons_succ] at ha
        subst ha
        have hc := HK1.out wr hO
        have p0 := hc.1.1
        have p1 := hc.1.2.1
        have p2 := hc.1.2.2.1
        have p3 := hc.1.2.2.2.1
        have p4 := hc.1.2.2.2.2.1
        have p5 := hc.1.2.2.2.2.2.1
        have p6 := hc.1.2.2.2.2.2.2.1
        have p7 := hc.1.2.2.2.2.2.2.2.1
        have p8 := hc.1.2.2.2.2.2.2.2.2.1
        have p9 := hc.1.2.2.2.2.2.2.2.2.2.1
        have p10 := hc.1.2.2.2.2.2.2.2.2.2.2.1
        have p11 := hc.1.2.2.2.2.2.2.2.2.2.2.2.1
        have p12 := hc.1.2.2.2.2.2.2.2.2.2.2.2.2.1
        have p13 := hc.1.2.2.2.2.2.2.2.2.2.2.2.2.2
        clear hc
        go_simp
        refine hK.out _ _ ⟨_, _, _, _, _, _, _, _, _, ?_, s0.keep rfl, s1.keep rfl, Slot.new _ _ _, s3.keep rfl, s4.keep rfl, s5.keep rfl, s6.keep rfl, B7.keep (Off.refl _ wr) rfl rfl, hO⟩
        simp only [Act.put, List.setIfInBounds_toArray, List.set_cons_zero, List.set_cons_succ]
    · as_aux_lemma =>
        intro l a wr hI hl hd K' hK
        obtain ⟨u38, u39, u40, u41, u42, u43, u44, u14, b14, ha, s0, s1, s2, s3, s4, s5, s6, B7, hO⟩ := hI
        simp only [Act.put, List.setIfInBounds_toArray, List.set_cons_zero, List.set_cons_succ] at ha
        subst ha
        have hc := HK1.out wr hO
        have p0 := hc.2.2.1.1
        have p1 := hc.2.2.1.2.1
        have p2 := hc.2.2.1.2.2.1
        have p3 := hc.2.2.1.2.2.2
        clear hc
        go_simp
        refine hK.out _ _ ⟨_, _, _, _, _, _, _, _, _, ?_, s0.keep rfl, s1.keep rfl, s2.keep rfl, Slot.new _ _ _, s4.keep rfl, s5.keep rfl, s6.keep rfl, B7.keep (Off.refl _ wr) rfl rfl, hO⟩
        simp only [Act.put, List.setIfInBounds_toArray, List.set_cons_zero, List.set_cons_succ]
    · as_aux_lemma =>
        intro l a wr hI hl hd K' hK
        obtain ⟨u38, u39, u40, u41, u42, u43, u44, u14, b14, ha, s0, s1, s2, s3, s4, s5, s6, B7, hO⟩ := hI
        simp only [Act.put, List.setIfInBounds_toArray, List.set_cons_zero, List.set_cons_succ] at ha
        subst ha
        have hc := HK1.out wr hO
        have p0 := hc.2.2.2.1.1
        have p1 := hc.2.2.2.1.2.1
        have p2 := hc.2.2.2.1.2.2.1
        have p3 := hc.2.2.2.1.2.2.2
        clear hc
        go_simp
        refine hK.out _ _ ⟨_, _, _, _, _, _, _, _, _, ?_, s0.keep rfl, s1.keep rfl, s2.keep rfl, s3.keep rfl, Slot.new _ _ _, s5.keep rfl, s6.keep rfl, B7.keep (Off.refl _ wr) rfl rfl, hO⟩
        simp only [Act.put, List.setIfInBounds_toArray, List.set_cons_zero, List.set_cons_succ]
    · as_aux_lemma =>
        intro l a wr hI hl hd K' hK
        obtain ⟨u38, u39, u40, u41, u42, u43, u44, u14, b14, ha, s0, s1, s2, s3, s4, s5, s6, B7, hO⟩ := hI
        simp only [Act.put, List.setIfInBounds_toArray, List.set_cons_zero, List.set_cons_succ] at ha
        have q2 := s2 (hd 2 (by decide))
        have q3 := s3 (hd 3 (by decide))
        have q4 := s4 (hd 4 (by decide))
        subst ha q2 q3 q4
        go_simp
        refine (held_inv (FA1.out wr (HTW1.out wr hO)) hO).mono ?_
        rintro e w1 ⟨rfl, hO1, hOW⟩
        go_wp2_with fail
        refine hK.out _ _ ⟨_, _, _, _, _, _, _, _, _, ?_, s0.keep rfl, s1.keep rfl, s2.keep rfl, s3.keep rfl, s4.keep rfl, Slot.new _ _ _, s6.keep rfl, B7.keep hOW rfl rfl, hO1⟩
        simp only [Act.put, List.setIfInBounds_toArray, List.set_cons_zero, List.set_cons_succ]
    · as_aux_lemma =>
        intro l a wr hI hl hd K' hK
        obtain ⟨u38, u39, u40, u41, u42, u43, u44, u14, b14, ha, s0, s1, s2, s3, s4, s5, s6, B7, hO⟩ := hI
        simp only [Act.put, List.setIfInBounds_toArray, List.set_cons_zero, List.set_cons_succ] at ha
        have q0 := s0 (hd 0 (by decide))
        have q1 := s1 (hd 1 (by decide))
        have q5 := s5 (hd 5 (by decide))
        subst ha q0 q1 q5
        go_simp
        refine (held_inv (FL.out wr (HTW1.out wr hO)) hO).mono ?_
        rintro e w1 ⟨rfl, hO1, hOW⟩
        go_wp2_with fail
        refine hK.out _ _ ⟨_, _, _, _, _, _, _, _, _, ?_, s0.keep rfl, s1.keep rfl, s2.keep rfl, s3.keep rfl, s4.keep rfl, s5.keep rfl, Slot.new _ _ _, B7.keep hOW rfl rfl, hO1⟩
        simp only [Act.put, List.setIfInBounds_toArray, List.set_cons_zero, List.set_cons_succ]
    · as_aux_lemma =>
        intro l a wr hI hl hd K' hK
        obtain ⟨u38, u39, u40, u41, u42, u43, u44, u14, b14, ha, s0, s1, s2, s3, s4, s5, s6, B7, hO⟩ := hI
        simp only [Act.put, List.setIfInBounds_toArray, List.set_cons_zero, List.set_cons_succ] at ha
        subst ha
        go_simp
        refine hK.out _ _ ⟨_, _, _, _, _, _, _, _, _, ?_, s0.keep rfl, s1.keep rfl, s2.keep rfl, s3.keep rfl, s4.keep rfl, s5.keep rfl, s6.keep rfl, B7.make hl rfl hO, hO.alloc _⟩
        simp only [Act.put, List.setIfInBounds_toArray, List.set_cons_zero, List.set_cons_succ]
    · as_aux_lemma =>
        intro l a wr hI hl hd K' hK
        obtain ⟨u38, u39, u40, u41, u42, u43, u44, u14, b14, ha, s0, s1, s2, s3, s4, s5, s6, B7, hO⟩ := hI
        simp only [Act.put, List.setIfInBounds_toArray, List.set_cons_zero, List.set_cons_succ] at ha
        have h7 := hd 7 (by decide)
        have q7 := B7.ptr h7
        have q6 := s6 (hd 6 (by decide))
        subst ha q7 q6
        obtain ⟨⟨m0, m1, m2, m3⟩, fz, lt⟩ := zero_cells (B7.was h7 hl)
        go_simp
        refine hK.out _ _ ⟨_, _, _, _, _, _, _, _, _, ?_, s0.keep rfl, s1.keep rfl, s2.keep rfl, s3.keep rfl, s4.keep rfl, s5.keep rfl, s6.keep rfl, B7.put hl h7 rfl rfl, setCells_in hO (fun c => absurd c (Nat.not_lt.2 (B7.new h7))) [.int .u64 (wd lf 0 : Int), .int .u64 (wd lf 1 : Int), .int .u64 (wd lf 2 : Int), .int .u64 (wd lf 3 : Int)]⟩
        simp only [Act.put, List.setIfInBounds_toArray, List.set_cons_zero, List.set_cons_succ]
    · intro ll a wd3 hI hd
      obtain ⟨u38, u39, u40, u41, u42, u43, u44, u14, b14, ha, s0, s1, s2, s3, s4, s5, s6, B7, hO⟩ := hI
      simp only [Act.put, List.setIfInBounds_toArray, List.set_cons_zero, List.set_cons_succ] at ha
      have q0 := s0 (hd 0 (by decide))
      have q1 := s1 (hd 1 (by decide))
      have q2 := s2 (hd 2 (by decide))
      have q3 := s3 (hd 3 (by decide))
      have q4 := s4 (hd 4 (by decide))
      have q5 := s5 (hd 5 (by decide))
      have q6 := s6 (hd 6 (by decide))
      have q7 := B7.ptr (hd 7 (by decide))
      have n14 : wd3.heap[b14]? = some (.cells #[.int .u64 (wd lf 0 : Int), .int .u64 (wd lf 1 : Int), .int .u64 (wd lf 2 : Int), .int .u64 (wd lf 3 : Int)] 24) := B7.now (hd 7 (by decide)) (hd 8 (by decide))
      subst ha q0 q1 q2 q3 q4 q5 q6 q7
      clear hd s0 s1 s2 s3 s4 s5 s6 B7
      have HO_wd3 := Lib.hid (HO_wc.out.trans hO (fun _ _ c => c))
      have HT_wd3 := Lib.hid (HT_wc.out.off hO)
      have HF_wd3 := Lib.hid (show wd3.heap[u0.heap.size]? = some (.cells #[.int .i64 id, .int .u64 (wd p 0 : Int), .int .u64 (wd p 1 : Int), .int .u64 (wd p 2 : Int), .int .u64 (wd p 3 : Int), .int .u64 (i : Int), .int .u64 (wd r 0 : Int), .int .u64 (wd r 1 : Int), .int .u64 (wd r 2 : Int), .int .u64 (wd r 3 : Int), .int .u64 (wd s 0 : Int), .int .u64 (wd s 1 : Int), .int .u64 (wd s 2 : Int), .int .u64 (wd s 3 : Int)] 26) from hO.heap HF_wc.out (fun c => c))
      have HU_wd3 := Lib.hid (show wd3.heap[b11]? = some (.cells #[.int .u64 (wd u 0 : Int), .int .u64 (wd u 1 : Int), .int .u64 (wd u 2 : Int), .int .u64 (wd u 3 : Int)] 24) from hO.heap HU_wc.out (fun c => c))
      have HV_wd3 := Lib.hid (show wd3.heap[b12]? = some (.cells #[.int .u64 (wd v 0 : Int), .int .u64 (wd v 1 : Int), .int .u64 (wd v 2 : Int), .int .u64 (wd v 3 : Int)] 24) from hO.heap HV_wc.out (fun c => c))
      have HK_wd3 := Lib.hid (show wd3.heap[b13]? = some (.cells #[.int .u64 (wd k 0 : Int), .int .u64 (wd k 1 : Int), .int .u64 (wd k 2 : Int), .int .u64 (wd k 3 : Int)] 24) from hO.heap HK_wc.out (fun c => c))
      have HL_wd3 := Lib.hid (show wd3.heap[b14]? = some (.cells #[.int .u64 (wd lf 0 : Int), .int .u64 (wd lf 1 : Int), .int .u64 (wd lf 2 : Int), .int .u64 (wd lf 3 : Int)] 24) from n14)
      have HK2 : Hid (∀ W, Off (fun _ => False) wd3 W → (W.cell? ⟨u0.heap.size, 0, none⟩ = some (.int .i64 id) ∧ W.cell? ⟨u0.heap.size, 1, none⟩ = some (.int .u64 (wd p 0 : Int)) ∧ W.cell? ⟨u0.heap.size, 2, none⟩ = some (.int .u64 (wd p 1 : Int)) ∧ W.cell? ⟨u0.heap.size, 3, none⟩ = some (.int .u64 (wd p 2 : Int)) ∧ W.cell? ⟨u0.heap.size, 4, none⟩ = some (.int .u64 (wd p 3 : Int)) ∧ W.cell? ⟨u0.heap.size, 5, none⟩ = some (.int .u64 (i : Int)) ∧ W.cell? ⟨u0.heap.size, 6, none⟩ = some (.int .u64 (wd r 0 : Int)) ∧ W.cell? ⟨u0.heap.size, 7, none⟩ = some (.int .u64 (wd r 1 : Int)) ∧ W.cell? ⟨u0.heap.size, 8, none⟩ = some (.int .u64 (wd r 2 : Int)) ∧ W.cell? ⟨u0.heap.size, 9, none⟩ = some (.int .u64 (wd r 3 : Int)) ∧ W.cell? ⟨u0.heap.size, 10, none⟩ = some (.int .u64 (wd s 0 : Int)) ∧ W.cell? ⟨u0.heap.size, 11, none⟩ = some (.int .u64 (wd s 1 : Int)) ∧ W.cell? ⟨u0.heap.size, 12, none⟩ = some (.int .u64 (wd s 2 : Int)) ∧ W.cell? ⟨u0.heap.size, 13, none⟩ = some (.int .u64 (wd s 3 : Int))) ∧ (W.cell? ⟨b11, 0, none⟩ = some (.int .u64 (wd u 0 : Int)) ∧ W.cell? ⟨b11, 1, none⟩ = some (.int .u64 (wd u 1 : Int)) ∧ W.cell? ⟨b11, 2, none⟩ = some (.int .u64 (wd u 2 : Int)) ∧ W.cell? ⟨b11, 3, none⟩ = some (.int .u64 (wd u 3 : Int))) ∧ (W.cell? ⟨b12, 0, none⟩ = some (.int .u64 (wd v 0 : Int)) ∧ W.cell? ⟨b12, 1, none⟩ = some (.int .u64 (wd v 1 : Int)) ∧ W.cell? ⟨b12, 2, none⟩ = some (.int .u64 (wd v 2 : Int)) ∧ W.cell? ⟨b12, 3, none⟩ = some (.int .u64 (wd v 3 : Int))) ∧ (W.cell? ⟨b13, 0, none⟩ = some (.int .u64 (wd k 0 : Int)) ∧ W.cell? ⟨b13, 1, none⟩ = some (.int .u64 (wd k 1 : Int)) ∧ W.cell? ⟨b13, 2, none⟩ = some (.int .u64 (wd k 2 : Int)) ∧ W.cell? ⟨b13, 3, none⟩ = some (.int .u64 (wd k 3 : Int))) ∧ (W.cell? ⟨b14, 0, none⟩ = some (.int .u64 (wd lf 0 : Int)) ∧ W.cell? ⟨b14, 1, none⟩ = some (.int .u64 (wd lf 1 : Int)) ∧ W.cell? ⟨b14, 2, none⟩ = some (.int .u64 (wd lf 2 : Int)) ∧ W.cell? ⟨b14, 3, none⟩ = some (.int .u64 (wd lf 3 : Int))) ∧ Off (fun _ => False) wd3 W) := Lib.hid (fun W h => ⟨fv_cells (h.heap HF_wd3.out (fun c => c)), cells4 (h.heap HU_wd3.out (fun c => c)), cells4 (h.heap HV_wd3.out (fun c => c)), cells4 (h.heap HK_wd3.out (fun c => c)), cells4 (h.heap HL_wd3.out (fun c => c)), h⟩)
      have HTW2 := Lib.hid (fun W (h : Off (fun _ => False) wd3 W) => HT_wd3.out.off h)
      clear hO n14 FA1 FL HK1 HF_wc HU_wc HV_wc HK_wc HTW1 HT_wc
      go_upto_region 4 with fail
      refine wp_region_inv (fun a0 l a' w' => ∃ (u45 : Value) (u46 : Value) (u47 : Value) (u48 : Value) (u49 : Value) (u50 : Value) (u51 : Value) (u52 : Value) (u53 : Value) (u54 : Value) (u15 : Value) (b15 : Nat), a' = (Act.put (Act.put (Act.put (Act.put (Act.put (Act.put (Act.put (Act.put (Act.put (Act.put (Act.put a0 (some 45) u45) (some 46) u46) (some 47) u47) (some 48) u48) (some 49) u49) (some 50) u50) (some 51) u51) (some 52) u52) (some 53) u53) (some 54) u54) (some 15) u15) ∧ Slot l 0 u45 (FV id p i r s) ∧ Slot l 1 u46 (FV id p i r s) ∧ Slot l 2 u47 (V u) ∧ Slot l 3 u48 (V v) ∧ Slot l 4 u49 (V a2) ∧ Slot l 5 u50 (FV id p i r s) ∧ Slot l 6 u51 (V u) ∧ Slot l 7 u52 (V k) ∧ Slot l 8 u53 (V a3) ∧ Slot l 9 u54 (V lf) ∧ Blk l 10 11 u15 b15 wd3 w' (.cells #[.int .u64 0, .int .u64 0, .int .u64 0, .int .u64 0] 24) (.cells #[.int .u64 (wd lf 0 : Int), .int .u64 (wd lf 1 : Int), .int .u64 (wd lf 2 : Int), .int .u64 (wd lf 3 : Int)] 24) ∧ Off (fun _ => False) wd3 w') (by kernel_rfl) (by kernel_rfl) ?_ ⟨?_, ?_, ?_, ?_, ?_, ?_, ?_, ?_, ?_, ?_, ?_, ?_, trivial⟩ ?_
      · refine ⟨undef, undef, undef, undef, undef, undef, undef, undef, undef, undef, undef, 0, ?_, Slot.start _ _ _, Slot.start _ _ _, Slot.start _ _ _, Slot.start _ _ _, Slot.start _ _ _, Slot.start _ _ _, Slot.start _ _ _, Slot.start _ _ _, Slot.start _ _ _, Slot.start _ _ _, Blk.start _ _ _ _ _ _ _ _, (Off.refl _ wd3).drew⟩
        simp only [Act.put, List.setIfInBounds_toArray, List.set_cons_zero, List.set_cons_succ]
      · as_aux_lemma =>
          intro l a wr hI hl hd K' hK
          obtain ⟨u45, u46, u47, u48, u49, u50, u51, u52, u53, u54, u15, b15, ha, s0, s1, s2, s3, s4, s5, s6, s7, s8, s9, B10, hO⟩ := hI
          simp only [Act.put, List.setIfInBounds_toArray, List.set_cons_zero, List.set_cons_succ] at ha
          subst ha
          have hc := HK2.out wr hO
          have p0 := hc.1.1
          have p1 := hc.1.2.1
          have p2 := hc.1.2.2.1
          have p3 := hc.1.2.2.2.1
          have p4 := hc.1.2.2.2.2.1
          have p5 := hc.1.2.2.2.2.2.1
          have p6 := hc.1.2.2.2.2.2.2.1
          have p7 := hc.1.2.2.2.2.2.2.2.1
          have p8 := hc.1.2.2.2.2.2.2.2.2.1
          have p9 := hc.1.2.2.2.2.2.2.2.2.2.1
          have p10 := hc.1.2.2.2.2.2.2.2.2.2.2.1
          have p11 := hc.1.2.2.2.2.2.2.2.2.2.2.2.1
          have p12 := hc.1.2.2.2.2.2.2.2.2.2.2.2.2.1
          have p13 := hc.1.2.2.2.2.2.2.2.2.2.2.2.2.2
          clear hc
          go_simp
          refine hK.out _ _ ⟨_, _, _, _, _, _, _, _, _, _, _, _, ?_, Slot.new _ _ _, s1.keep rfl, s2.keep rfl, s3.keep rfl, s4.keep rfl, s5.keep rfl, s6.keep rfl, s7.keep rfl, s8.keep rfl, s9.keep rfl, B10.keep (Off.refl _ wr) rfl rfl, hO⟩
          simp only [Act.put, List.setIfInBounds_toArray, List.set_cons_zero, List.set_cons_succ]
      · as_aux_lemma =>
          intro l a wr hI hl hd K' hK
          obtain ⟨u45, u46, u47, u48, u49, u50, u51, u52, u53, u54, u15, b15, ha, s0, s1, s2, s3, s4, s5, s6, s7, s8, s9, B10, hO⟩ := hI
          simp only [Act.put, List.setIfInBounds_toArray, List.set_cons_zero, List.set_cons_succ] at ha
          subst ha
          have hc := HK2.out wr hO
          have p0 := hc.1.1
          have p1 := hc.1.2.1
          have p2 := hc.1.2.2.1
          have p3 := hc.1.2.2.2.1
          have p4 := hc.1.2.2.2.2.1
          have p5 := hc.1.2.2.2.2.2.1
          have p6 := hc.1.2.2.2.2.2.2.1
          have p7 := hc.1.2.2.2.2.2.2.2.1
          have p8 := hc.1.2.2.2.2.2.2.2.2.1
          have p9 := hc.1.2.2.2.2.2.2.2.2.2.1
          have p10 := hc.1.2.2.2.2.2.2.2.2.2.2.1
          have p11 := hc.1.2.2.2.2.2.2.2.2.2.2.2.1
          have p12 := hc.1.2.2.2.2.2.2.2.2.2.2.2.2.1
          have p13 := hc.1.2.2.2.2.2.2.2.2.2.2.2.2.2
          clear hc
          go_simp
          refine hK.out _ _ ⟨_, _, _, _, _, _, _, _, _, _, _, _, ?_, s0.keep rfl, Slot.new _ _ _, s2.keep rfl, s3.keep rfl, s4.keep rfl, s5.keep rfl, s6.keep rfl, s7.keep rfl, s8.keep rfl, s9.keep rfl, B10.keep (Off.refl _ wr) rfl rfl, hO⟩
          simp only [Act.put, List.setIfInBounds_toArray, List.set_cons_zero, List.set_cons_succ]
      · as_aux_lemma =>
          intro l a wr hI hl hd K' hK
          obtain ⟨u45, u46, u47, u48, u49, u50, u51, u52, u53, u54, u15, b15, ha, s0, s1, s2, s3, s4, s5, s6, s7, s8, s9, B10, hO⟩ := hI
          simp only [Act.put, List.setIfInBounds_toArray, List.set_cons_zero, List.set_cons_succ] at ha
          subst ha
          have hc := HK2.out wr hO
          have p0 := hc.2.1.1
          have p1 := hc.2.1.2.1
          have p2 := hc.2.1.2.2.1
          have p3 := hc.2.1.2.2.2
          clear hc
          go_simp
          refine hK.out _ _ ⟨_, _, _, _, _, _, _, _, _, _, _, _, ?_, s0.keep rfl, s1.keep rfl, Slot.new _ _ _, s3.keep rfl, s4.keep rfl, s5.keep rfl, s6.keep rfl, s7.keep rfl, s8.keep rfl, s9.keep rfl, B10.keep (Off.refl _ wr) rfl rfl, hO⟩
          simp only [Act.put, List.setIfInBounds_toArray, List.set_cons_zero, List.set_cons_succ]
      · as_aux_lemma =>
          intro l a wr hI hl hd K' hK
          obtain ⟨u45, u46, u47, u48, u49, u50, u51, u52, u53, u54, u15, b15, ha, s0, s1, s2, s3, s4, s5, s6, s7, s8, s9, B10, hO⟩ := hI
          simp only [Act.put, List.setIfInBounds_toArray, List.set_cons_zero, List.set_cons_succ] at ha
          subst ha
          have hc := HK2.out wr hO
          have p0 := hc.2.2.1.1
          have p1 := hc.2.2.1.2.1
          have p2 := hc.2.2.1.2.2.1
          have p3 := hc.2.2.1.2.2.2
          clear hc
          go_simp
          refine hK.out _ _ ⟨_, _, _, _, _, _, _, _, _, _, _, _, ?_, s0.keep rfl, s1.keep rfl, s2.keep rfl, Slot.new _ _ _, s4.keep rfl, s5.keep rfl, s6.keep rfl, s7.keep rfl, s8.keep rfl, s9.keep rfl, B10.keep (Off.refl _ wr) rfl rfl, hO⟩
          simp only [Act.put, List.setIfInBounds_toArray, List.set_cons_zero, List.set_cons_succ]
      · as_aux_lemma =>
          intro l a wr hI hl hd K' hK
          obtain ⟨u45, u46, u47, u48, u49, u50, u51, u52, u53, u54, u15, b15, ha, s0, s1, s2, s3, s4, s5, s6, s7, s8, s9, B10, hO⟩ := hI
          simp only [Act.put, List.setIfInBounds_toArray, List.set_cons_zero, List.set_cons_succ] at ha
          have q1 := s1 (hd 1 (by decide))
          have q2 := s2 (hd 2 (by decide))
          have q3 := s3 (hd 3 (by decide))
          subst ha q1 q2 q3
          go_simp
          refine (held_inv (FUV.out u v (.inl ⟨rfl, rfl⟩) wr (HTW2.out wr hO)) hO).mono ?_
          rintro e w1 ⟨rfl, hO1, hOW⟩
          go_wp2_with fail
          refine hK.out _ _ ⟨_, _, _, _, _, _, _, _, _, _, _, _, ?_, s0.keep rfl, s1.keep rfl, s2.keep rfl, s3.keep rfl, Slot.new _ _ _, s5.keep rfl, s6.keep rfl, s7.keep rfl, s8.keep rfl, s9.keep rfl, B10.keep hOW rfl rfl, hO1⟩
          simp only [Act.put, List.setIfInBounds_toArray, List.set_cons_zero, List.set_cons_succ]
      · as_aux_lemma =>
          intro l a wr hI hl hd K' hK
          obtain ⟨u45, u46, u47, u48, u49, u50, u51, u52, u53, u54, u15, b15, ha, s0, s1, s2, s3, s4, s5, s6, s7, s8, s9, B10, hO⟩ := hI
          simp only [Act.put, List.setIfInBounds_toArray, List.set_cons_zero, List.set_cons_succ] at ha
          subst ha
          have hc := HK2.out wr hO
          have p0 := hc.1.1
          have p1 := hc.1.2.1
          have p2 := hc.1.2.2.1
          have p3 := hc.1.2.2.2.1
          have p4 := hc.1.2.2.2.2.1
          have p5 := hc.1.2.2.2.2.2.1
          have p6 := hc.1.2.2.2.2.2.2.1
          have p7 := hc.1.2.2.2.2.2.2.2.1
          have p8 := hc.1.2.2.2.2.2.2.2.2.1
          have p9 := hc.1.2.2.2.2.2.2.2.2.2.1
          have p10 := hc.1.2.2.2.2.2.2.2.2.2.2.1
          have p11 := hc.1.2.2.2.2.2.2.2.2.2.2.2.1
          have p12 := hc.1.2.2.2.2.2.2.2.2.2.2.2.2.1
          have p13 := hc.1.2.2.2.2.2.2.2.2.2.2.2.2.2
          clear hc
          go_simp
          refine hK.out _ _ ⟨_, _, _, _, _, _, _, _, _, _, _, _, ?_, s0.keep rfl, s1.keep rfl, s2.keep rfl, s3.keep rfl, s4.keep rfl, Slot.new _ _ _, s6.keep rfl, s7.keep rfl, s8.keep rfl, s9.keep rfl, B10.keep (Off.refl _ wr) rfl rfl, hO⟩
          simp only [Act.put, List.setIfInBounds_toArray, List.set_cons_zero, List.set_cons_succ]
      · as_aux_lemma =>
          intro l a wr hI hl hd K' hK
          obtain ⟨u45, u46, u47, u48, u49, u50, u51, u52, u53, u54, u15, b15, ha, s0, s1, s2, s3, s4, s5, s6, s7, s8, s9, B10, hO⟩ := hI
          simp only [Act.put, List.setIfInBounds_toArray, List.set_cons_zero, List.set_cons_succ] at ha
          subst ha
          have hc := HK2.out wr hO
          have p0 := hc.2.1.1
          have p1 := hc.2.1.2.1
          have p2 := hc.2.1.2.2.1
          have p3 := hc.2.1.2.2.2
          clear hc
          go_simp
          refine hK.out _ _ ⟨_, _, _, _, _, _, _, _, _, _, _, _, ?_, s0.keep rfl, s1.keep rfl, s2.keep rfl, s3.keep rfl, s4.keep rfl, s5.keep rfl, Slot.new _ _ _, s7.keep rfl, s8.keep rfl, s9.keep rfl, B10.keep (Off.refl _ wr) rfl rfl, hO⟩
          simp only [Act.put, List.setIfInBounds_toArray, List.set_cons_zero, List.set_cons_succ]
      · as_aux_lemma =>
          intro l a wr hI hl hd K' hK
          obtain ⟨u45, u46, u47, u48, u49, u50, u51, u52, u53, u54, u15, b15, ha, s0, s1, s2, s3, s4, s5, s6, s7, s8, s9, B10, hO⟩ := hI
          simp only [Act.put, List.setIfInBounds_toArray, List.set_cons_zero, List.set_cons_succ] at ha
          subst ha
          have hc := HK2.out wr hO
          have p0 := hc.2.2.2.1.1
          have p1 := hc.2.2.2.1.2.1
          have p2 := hc.2.2.2.1.2.2.1
          have p3 := hc.2.2.2.1.2.2.2
          clear hc
          go_simp
          refine hK.out _ _ ⟨_, _, _, _, _, _, _, _, _, _, _, _, ?_, s0.keep rfl, s1.keep rfl, s2.keep rfl, s3.keep rfl, s4.keep rfl, s5.keep rfl, s6.keep rfl, Slot.new _ _ _, s8.keep rfl, s9.keep rfl, B10.keep (Off.refl _ wr) rfl rfl, hO⟩
          simp only [Act.put, List.setIfInBounds_toArray, List.set_cons_zero, List.set_cons_succ]
      · as_aux_lemma =>
          intro l a wr hI hl hd K' hK
          obtain ⟨u45, u46, u47, u48, u49, u50, u51, u52, u53, u54, u15, b15, ha, s0, s1, s2, s3, s4, s5, s6, s7, s8, s9, B10, hO⟩ := hI
          simp only [Act.put, List.setIfInBounds_toArray, List.set_cons_zero, List.set_cons_succ] at ha
          have q5 := s5 (hd 5 (by decide))
          have q6 := s6 (hd 6 (by decide))
          have q7 := s7 (hd 7 (by decide))
          subst ha q5 q6 q7
          go_simp
          refine (held_inv (FA3.out wr (HTW2.out wr hO)) hO).mono ?_
          rintro e w1 ⟨rfl, hO1, hOW⟩
          go_wp2_with fail
          refine hK.out _ _ ⟨_, _, _, _, _, _, _, _, _, _, _, _, ?_, s0.keep rfl, s1.keep rfl, s2.keep rfl, s3.keep rfl, s4.keep rfl, s5.keep rfl, s6.keep rfl, s7.keep rfl, Slot.new _ _ _, s9.keep rfl, B10.keep hOW rfl rfl, hO1⟩
          simp only [Act.put, List.setIfInBounds_toArray, List.set_cons_zero, List.set_cons_succ]
      · as_aux_lemma =>
          intro l a wr hI hl hd K' hK
          obtain ⟨u45, u46, u47, u48, u49, u50, u51, u52, u53, u54, u15, b15, ha, s0, s1, s2, s3, s4, s5, s6, s7, s8, s9, B10, hO⟩ := hI
          simp only [Act.put, List.setIfInBounds_toArray, List.set_cons_zero, List.set_cons_succ] at ha
          have q0 := s0 (hd 0 (by decide))
          have q4 := s4 (hd 4 (by decide))
          have q8 := s8 (hd 8 (by decide))
          subst ha q0 q4 q8
          go_simp
          refine (held_inv (FR.out wr (HTW2.out wr hO)) hO).mono ?_
          rintro e w1 ⟨rfl, hO1, hOW⟩
          go_wp2_with fail
          refine hK.out _ _ ⟨_, _, _, _, _, _, _, _, _, _, _, _, ?_, s0.keep rfl, s1.keep rfl, s2.keep rfl, s3.keep rfl, s4.keep rfl, s5.keep rfl, s6.keep rfl, s7.keep rfl, s8.keep rfl, Slot.new _ _ _, B10.keep hOW rfl rfl, hO1⟩
          simp only [Act.put, List.setIfInBounds_toArray, List.set_cons_zero, List.set_cons_succ]
      · as_aux_lemma =>
          intro l a wr hI hl hd K' hK
          obtain ⟨u45, u46, u47, u48, u49, u50, u51, u52, u53, u54, u15, b15, ha, s0, s1, s2, s3, s4, s5, s6, s7, s8, s9, B10, hO⟩ := hI
          simp only [Act.put, List.setIfInBounds_toArray, List.set_cons_zero, List.set_cons_succ] at ha
          subst ha
          go_simp
          refine hK.out _ _ ⟨_, _, _, _, _, _, _, _, _, _, _, _, ?_, s0.keep rfl, s1.keep rfl, s2.keep rfl, s3.keep rfl, s4.keep rfl, s5.keep rfl, s6.keep rfl, s7.keep rfl, s8.keep rfl, s9.keep rfl, B10.make hl rfl hO, hO.alloc _⟩
          simp only [Act.put, List.setIfInBounds_toArray, List.set_cons_zero, List.set_cons_succ]
      · as_aux_lemma =>
          intro l a wr hI hl hd K' hK
          obtain ⟨u45, u46, u47, u48, u49, u50, u51, u52, u53, u54, u15, b15, ha, s0, s1, s2, s3, s4, s5, s6, s7, s8, s9, B10, hO⟩ := hI
          simp only [Act.put, List.setIfInBounds_toArray, List.set_cons_zero, List.set_cons_succ] at ha
          have h10 := hd 10 (by decide)
          have q10 := B10.ptr h10
          have q9 := s9 (hd 9 (by decide))
          subst ha q10 q9
          obtain ⟨⟨m0, m1, m2, m3⟩, fz, lt⟩ := zero_cells (B10.was h10 hl)
          go_simp
          refine hK.out _ _ ⟨_, _, _, _, _, _, _, _, _, _, _, _, ?_, s0.keep rfl, s1.keep rfl, s2.keep rfl, s3.keep rfl, s4.keep rfl, s5.keep rfl, s6.keep rfl, s7.keep rfl, s8.keep rfl, s9.keep rfl, B10.put hl h10 rfl rfl, setCells_in hO (fun c => absurd c (Nat.not_lt.2 (B10.new h10))) [.int .u64 (wd lf 0 : Int), .int .u64 (wd lf 1 : Int), .int .u64 (wd lf 2 : Int), .int .u64 (wd lf 3 : Int)]⟩
          simp only [Act.put, List.setIfInBounds_toArray, List.set_cons_zero, List.set_cons_succ]
      · intro ll a wd4 hI hd
        obtain ⟨u45, u46, u47, u48, u49, u50, u51, u52, u53, u54, u15, b15, ha, s0, s1, s2, s3, s4, s5, s6, s7, s8, s9, B10, hO⟩ := hI
        simp only [Act.put, List.setIfInBounds_toArray, List.set_cons_zero, List.set_cons_succ] at ha
        have q0 := s0 (hd 0 (by decide))
        have q1 := s1 (hd 1 (by decide))
        have q2 := s2 (hd 2 (by decide))
        have q3 := s3 (hd 3 (by decide))
        have q4 := s4 (hd 4 (by decide))
        have q5 := s5 (hd 5 (by decide))
        have q6 := s6 (hd 6 (by decide))
        have q7 := s7 (hd 7 (by decide))
        have q8 := s8 (hd 8 (by decide))
        have q9 := s9 (hd 9 (by decide))
        have q10 := B10.ptr (hd 10 (by decide))
        have n15 : wd4.heap[b15]? = some (.cells #[.int .u64 (wd lf 0 : Int), .int .u64 (wd lf 1 : Int), .int .u64 (wd lf 2 : Int), .int .u64 (wd lf 3 : Int)] 24) := B10.now (hd 10 (by decide)) (hd 11 (by decide))
        subst ha q0 q1 q2 q3 q4 q5 q6 q7 q8 q9 q10
        clear hd s0 s1 s2 s3 s4 s5 s6 s7 s8 s9 B10
        have HO_wd4 := Lib.hid (HO_wd3.out.trans hO (fun _ _ c => c))
        have HT_wd4 := Lib.hid (HT_wd3.out.off hO)
        have HF_wd4 := Lib.hid (show wd4.heap[u0.heap.size]? = some (.cells #[.int .i64 id, .int .u64 (wd p 0 : Int), .int .u64 (wd p 1 : Int), .int .u64 (wd p 2 : Int), .int .u64 (wd p 3 : Int), .int .u64 (i : Int), .int .u64 (wd r 0 : Int), .int .u64 (wd r 1 : Int), .int .u64 (wd r 2 : Int), .int .u64 (wd r 3 : Int), .int .u64 (wd s 0 : Int), .int .u64 (wd s 1 : Int), .int .u64 (wd s 2 : Int), .int .u64 (wd s 3 : Int)] 26) from hO.heap HF_wd3.out (fun c => c))
        have HU_wd4 := Lib.hid (show wd4.heap[b11]? = some (.cells #[.int .u64 (wd u 0 : Int), .int .u64 (wd u 1 : Int), .int .u64 (wd u 2 : Int), .int .u64 (wd u 3 : Int)] 24) from hO.heap HU_wd3.out (fun c => c))
        have HV_wd4 := Lib.hid (show wd4.heap[b12]? = some (.cells #[.int .u64 (wd v 0 : Int), .int .u64 (wd v 1 : Int), .int .u64 (wd v 2 : Int), .int .u64 (wd v 3 : Int)] 24) from hO.heap HV_wd3.out (fun c => c))
        have HK_wd4 := Lib.hid (show wd4.heap[b13]? = some (.cells #[.int .u64 (wd k 0 : Int), .int .u64 (wd k 1 : Int), .int .u64 (wd k 2 : Int), .int .u64 (wd k 3 : Int)] 24) from hO.heap HK_wd3.out (fun c => c))
        have HL_wd4 := Lib.hid (show wd4.heap[b14]? = some (.cells #[.int .u64 (wd lf 0 : Int), .int .u64 (wd lf 1 : Int), .int .u64 (wd lf 2 : Int), .int .u64 (wd lf 3 : Int)] 24) from hO.heap HL_wd3.out (fun c => c))
        have HR_wd4 := Lib.hid (show wd4.heap[b15]? = some (.cells #[.int .u64 (wd lf 0 : Int), .int .u64 (wd lf 1 : Int), .int .u64 (wd lf 2 : Int), .int .u64 (wd lf 3 : Int)] 24) from n15)
        have HK9 : Hid (∀ W, Off (fun _ => False) wd4 W → (W.cell? ⟨u0.heap.size, 0, none⟩ = some (.int .i64 id) ∧ W.cell? ⟨u0.heap.size, 1, none⟩ = some (.int .u64 (wd p 0 : Int)) ∧ W.cell? ⟨u0.heap.size, 2, none⟩ = some (.int .u64 (wd p 1 : Int)) ∧ W.cell? ⟨u0.heap.size, 3, none⟩ = some (.int .u64 (wd p 2 : Int)) ∧ W.cell? ⟨u0.heap.size, 4, none⟩ = some (.int .u64 (wd p 3 : Int)) ∧ W.cell? ⟨u0.heap.size, 5, none⟩ = some (.int .u64 (i : Int)) ∧ W.cell? ⟨u0.heap.size, 6, none⟩ = some (.int .u64 (wd r 0 : Int)) ∧ W.cell? ⟨u0.heap.size, 7, none⟩ = some (.int .u64 (wd r 1 : Int)) ∧ W.cell? ⟨u0.heap.size, 8, none⟩ = some (.int .u64 (wd r 2 : Int)) ∧ W.cell? ⟨u0.heap.size, 9, none⟩ = some (.int .u64 (wd r 3 : Int)) ∧ W.cell? ⟨u0.heap.size, 10, none⟩ = some (.int .u64 (wd s 0 : Int)) ∧ W.cell? ⟨u0.heap.size, 11, none⟩ = some (.int .u64 (wd s 1 : Int)) ∧ W.cell? ⟨u0.heap.size, 12, none⟩ = some (.int .u64 (wd s 2 : Int)) ∧ W.cell? ⟨u0.heap.size, 13, none⟩ = some (.int .u64 (wd s 3 : Int))) ∧ (W.cell? ⟨b11, 0, none⟩ = some (.int .u64 (wd u 0 : Int)) ∧ W.cell? ⟨b11, 1, none⟩ = some (.int .u64 (wd u 1 : Int)) ∧ W.cell? ⟨b11, 2, none⟩ = some (.int .u64 (wd u 2 : Int)) ∧ W.cell? ⟨b11, 3, none⟩ = some (.int .u64 (wd u 3 : Int))) ∧ (W.cell? ⟨b12, 0, none⟩ = some (.int .u64 (wd v 0 : Int)) ∧ W.cell? ⟨b12, 1, none⟩ = some (.int .u64 (wd v 1 : Int)) ∧ W.cell? ⟨b12, 2, none⟩ = some (.int .u64 (wd v 2 : Int)) ∧ W.cell? ⟨b12, 3, none⟩ = some (.int .u64 (wd v 3 : Int))) ∧ (W.cell? ⟨b13, 0, none⟩ = some (.int .u64 (wd k 0 : Int)) ∧ W.cell? ⟨b13, 1, none⟩ = some (.int .u64 (wd k 1 : Int)) ∧ W.cell? ⟨b13, 2, none⟩ = some (.int .u64 (wd k 2 : Int)) ∧ W.cell? ⟨b13, 3, none⟩ = some (.int .u64 (wd k 3 : Int))) ∧ (W.cell? ⟨b14, 0, none⟩ = some (.int .u64 (wd lf 0 : Int)) ∧ W.cell? ⟨b14, 1, none⟩ = some (.int .u64 (wd lf 1 : Int)) ∧ W.cell? ⟨b14, 2, none⟩ = some (.int .u64 (wd lf 2 : Int)) ∧ W.cell? ⟨b14, 3, none⟩ = some (.int .u64 (wd lf 3 : Int))) ∧ (W.cell? ⟨b15, 0, none⟩ = some (.int .u64 (wd lf 0 : Int)) ∧ W.cell? ⟨b15, 1, none⟩ = some (.int .u64 (wd lf 1 : Int)) ∧ W.cell? ⟨b15, 2, none⟩ = some (.int .u64 (wd lf 2 : Int)) ∧ W.cell? ⟨b15, 3, none⟩ = some (.int .u64 (wd lf 3 : Int))) ∧ Off (fun _ => False) wd4 W) := Lib.hid (fun W h => ⟨fv_cells (h.heap HF_wd4.out (fun c => c)), cells4 (h.heap HU_wd4.out (fun c => c)), cells4 (h.heap HV_wd4.out (fun c => c)), cells4 (h.heap HK_wd4.out (fun c => c)), cells4 (h.heap HL_wd4.out (fun c => c)), cells4 (h.heap HR_wd4.out (fun c => c)), h⟩)
        have HT9 := HT_wd4
        clear hO n15 FA3 FR HK2 HF_wd3 HU_wd3 HV_wd3 HK_wd3 HL_wd3 HTW2 HT_wd3
        go_upto_region 5 with fail
        simp only [List.append_eq, List.cons_append, List.nil_append]
        have HTW9 := Lib.hid (fun W (h : Off (fun _ => False) wd4 W) => HT9.out.off h)
        obtain ⟨x55, hx⟩ : ∃ x : Value, x = .bool true := ⟨_, rfl⟩
        have X55 := Lib.hid hx
        clear hx
        obtain ⟨x56, hx⟩ : ∃ x : Value, x = .bool true := ⟨_, rfl⟩
        have X56 := Lib.hid hx
        clear hx
        obtain ⟨x57, hx⟩ : ∃ x : Value, x = V lf := ⟨_, rfl⟩
        have X57 := Lib.hid hx
        clear hx
        obtain ⟨x58, hx⟩ : ∃ x : Value, x = V lf := ⟨_, rfl⟩
        have X58 := Lib.hid hx
        clear hx
        obtain ⟨x59, hx⟩ : ∃ x : Value, x = .bool true := ⟨_, rfl⟩
        have X59 := Lib.hid hx
        clear hx
        obtain ⟨x60, hx⟩ : ∃ x : Value, x = .bool true := ⟨_, rfl⟩
        have X60 := Lib.hid hx
        clear hx
        obtain ⟨x61, hx⟩ : ∃ x : Value, x = .bool true := ⟨_, rfl⟩
        have X61 := Lib.hid hx
        clear hx
        obtain ⟨x62, hx⟩ : ∃ x : Value, x = FV id p i r s := ⟨_, rfl⟩
        have X62 := Lib.hid hx
        clear hx
        obtain ⟨x63, hx⟩ : ∃ x : Value, x = FV id p i r s := ⟨_, rfl⟩
        have X63 := Lib.hid hx
        clear hx
        obtain ⟨x64, hx⟩ : ∃ x : Value, x = V u := ⟨_, rfl⟩
        have X64 := Lib.hid hx
        clear hx
        obtain ⟨x65, hx⟩ : ∃ x : Value, x = V v := ⟨_, rfl⟩
        have X65 := Lib.hid hx
        clear hx
        obtain ⟨x66, hx⟩ : ∃ x : Value, x = V a2 := ⟨_, rfl⟩
        have X66 := Lib.hid hx
        clear hx
        obtain ⟨x67, hx⟩ : ∃ x : Value, x = V k := ⟨_, rfl⟩
        have X67 := Lib.hid hx
        clear hx
        obtain ⟨x68, hx⟩ : ∃ x : Value, x = V a4 := ⟨_, rfl⟩
        have X68 := Lib.hid hx
        clear hx
        obtain ⟨x69, hx⟩ : ∃ x : Value, x = FV id p i r s := ⟨_, rfl⟩
        have X69 := Lib.hid hx
        clear hx
        obtain ⟨x70, hx⟩ : ∃ x : Value, x = V u := ⟨_, rfl⟩
        have X70 := Lib.hid hx
        clear hx
        obtain ⟨x71, hx⟩ : ∃ x : Value, x = FV id p i r s := ⟨_, rfl⟩
        have X71 := Lib.hid hx
        clear hx
        obtain ⟨x72, hx⟩ : ∃ x : Value, x = V v := ⟨_, rfl⟩
        have X72 := Lib.hid hx
        clear hx
        obtain ⟨x73, hx⟩ : ∃ x : Value, x = V k := ⟨_, rfl⟩
        have X73 := Lib.hid hx
        clear hx
        obtain ⟨x74, hx⟩ : ∃ x : Value, x = V a5 := ⟨_, rfl⟩
        have X74 := Lib.hid hx
        clear hx
        obtain ⟨x75, hx⟩ : ∃ x : Value, x = V a4 := ⟨_, rfl⟩
        have X75 := Lib.hid hx
        clear hx
        obtain ⟨x76, hx⟩ : ∃ x : Value, x = .bool true := ⟨_, rfl⟩
        have X76 := Lib.hid hx
        clear hx
        obtain ⟨x77, hx⟩ : ∃ x : Value, x = .bool true := ⟨_, rfl⟩
        have X77 := Lib.hid hx
        clear hx
        obtain ⟨x78, hx⟩ : ∃ x : Value, x = .bool true := ⟨_, rfl⟩
        have X78 := Lib.hid hx
        clear hx
        obtain ⟨x79, hx⟩ : ∃ x : Value, x = FV id p i r s := ⟨_, rfl⟩
        have X79 := Lib.hid hx
        clear hx
        obtain ⟨x80, hx⟩ : ∃ x : Value, x = V u := ⟨_, rfl⟩
        have X80 := Lib.hid hx
        clear hx
        obtain ⟨x81, hx⟩ : ∃ x : Value, x = V v := ⟨_, rfl⟩
        have X81 := Lib.hid hx
        clear hx
        obtain ⟨x82, hx⟩ : ∃ x : Value, x = V a2 := ⟨_, rfl⟩
        have X82 := Lib.hid hx
        clear hx
        obtain ⟨x83, hx⟩ : ∃ x : Value, x = FV id p i r s := ⟨_, rfl⟩
        have X83 := Lib.hid hx
        clear hx
        obtain ⟨x84, hx⟩ : ∃ x : Value, x = V v := ⟨_, rfl⟩
        have X84 := Lib.hid hx
        clear hx
        obtain ⟨x85, hx⟩ : ∃ x : Value, x = V u := ⟨_, rfl⟩
        have X85 := Lib.hid hx
        clear hx
        obtain ⟨x86, hx⟩ : ∃ x : Value, x = V a2 := ⟨_, rfl⟩
        have X86 := Lib.hid hx
        clear hx
        obtain ⟨x87, hx⟩ : ∃ x : Value, x = .bool true := ⟨_, rfl⟩
        have X87 := Lib.hid hx
        clear hx
        obtain ⟨x88, hx⟩ : ∃ x : Value, x = .bool true := ⟨_, rfl⟩
        have X88 := Lib.hid hx
        clear hx
        obtain ⟨x89, hx⟩ : ∃ x : Value, x = .bool true := ⟨_, rfl⟩
        have X89 := Lib.hid hx
        clear hx
        obtain ⟨x90, hx⟩ : ∃ x : Value, x = FV id p i r s := ⟨_, rfl⟩
        have X90 := Lib.hid hx
        clear hx
        obtain ⟨x91, hx⟩ : ∃ x : Value, x = V u := ⟨_, rfl⟩
        have X91 := Lib.hid hx
        clear hx
        obtain ⟨x92, hx⟩ : ∃ x : Value, x = .pointer (some ⟨u0.heap.size, 6, none⟩) := ⟨_, rfl⟩
        have X92 := Lib.hid hx
        clear hx
        obtain ⟨x93, hx⟩ : ∃ x : Value, x = V r := ⟨_, rfl⟩
        have X93 := Lib.hid hx
        clear hx
        obtain ⟨x94, hx⟩ : ∃ x : Value, x = V u := ⟨_, rfl⟩
        have X94 := Lib.hid hx
        clear hx
        obtain ⟨x95, hx⟩ : ∃ x : Value, x = V u := ⟨_, rfl⟩
        have X95 := Lib.hid hx
        clear hx
        obtain ⟨x96, hx⟩ : ∃ x : Value, x = .bool true := ⟨_, rfl⟩
        have X96 := Lib.hid hx
        clear hx
        obtain ⟨x97, hx⟩ : ∃ x : Value, x = .bool true := ⟨_, rfl⟩
        have X97 := Lib.hid hx
        clear hx
        obtain ⟨x98, hx⟩ : ∃ x : Value, x = .bool true := ⟨_, rfl⟩
        have X98 := Lib.hid hx
        clear hx
        obtain ⟨x99, hx⟩ : ∃ x : Value, x = FV id p i r s := ⟨_, rfl⟩
        have X99 := Lib.hid hx
        clear hx
        obtain ⟨x100, hx⟩ : ∃ x : Value, x = FV id p i r s := ⟨_, rfl⟩
        have X100 := Lib.hid hx
        clear hx
        obtain ⟨x101, hx⟩ : ∃ x : Value, x = V u := ⟨_, rfl⟩
        have X101 := Lib.hid hx
        clear hx
        obtain ⟨x102, hx⟩ : ∃ x : Value, x = V v := ⟨_, rfl⟩
        have X102 := Lib.hid hx
        clear hx
        obtain ⟨x103, hx⟩ : ∃ x : Value, x = V d := ⟨_, rfl⟩
        have X103 := Lib.hid hx
        clear hx
        obtain ⟨x104, hx⟩ : ∃ x : Value, x = V v := ⟨_, rfl⟩
        have X104 := Lib.hid hx
        clear hx
        obtain ⟨x105, hx⟩ : ∃ x : Value, x = V u := ⟨_, rfl⟩
        have X105 := Lib.hid hx
        clear hx
        obtain ⟨x106, hx⟩ : ∃ x : Value, x = V u := ⟨_, rfl⟩
        have X106 := Lib.hid hx
        clear hx
        obtain ⟨x107, hx⟩ : ∃ x : Value, x = .bool true := ⟨_, rfl⟩
        have X107 := Lib.hid hx
        clear hx
        obtain ⟨x108, hx⟩ : ∃ x : Value, x = .bool true := ⟨_, rfl⟩
        have X108 := Lib.hid hx
        clear hx
        obtain ⟨x109, hx⟩ : ∃ x : Value, x = .bool true := ⟨_, rfl⟩
        have X109 := Lib.hid hx
        clear hx
        obtain ⟨x110, hx⟩ : ∃ x : Value, x = FV id p i r s := ⟨_, rfl⟩
        have X110 := Lib.hid hx
        clear hx
        obtain ⟨x111, hx⟩ : ∃ x : Value, x = V u := ⟨_, rfl⟩
        have X111 := Lib.hid hx
        clear hx
        obtain ⟨x112, hx⟩ : ∃ x : Value, x = FV id p i r s := ⟨_, rfl⟩
        have X112 := Lib.hid hx
        clear hx
        obtain ⟨x113, hx⟩ : ∃ x : Value, x = V u := ⟨_, rfl⟩
        have X113 := Lib.hid hx
        clear hx
        obtain ⟨x114, hx⟩ : ∃ x : Value, x = V g := ⟨_, rfl⟩
        have X114 := Lib.hid hx
        clear hx
        obtain ⟨x115, hx⟩ : ∃ x : Value, x = .agg #[.int .u64 0, .int .u64 0, .int .u64 0, .int .u64 0] := ⟨_, rfl⟩
        have X115 := Lib.hid hx
        clear hx
        obtain ⟨x116, hx⟩ : ∃ x : Value, x = .agg #[.int .u64 0, .int .u64 0, .int .u64 0, .int .u64 0] := ⟨_, rfl⟩
        have X116 := Lib.hid hx
        clear hx
        obtain ⟨x117, hx⟩ : ∃ x : Value, x = .bool true := ⟨_, rfl⟩
        have X117 := Lib.hid hx
        clear hx
        obtain ⟨x118, hx⟩ : ∃ x : Value, x = .bool true := ⟨_, rfl⟩
        have X118 := Lib.hid hx
        clear hx
        obtain ⟨x6, hx⟩ : ∃ x : Value, x = .bool true := ⟨_, rfl⟩
        have X6 := Lib.hid hx
        clear hx
        refine wp_region_inv (fun a0 l a' w' => a' = (Act.put (fill a0 55 [sel (l 0) x55 undef, sel (l 1) x56 undef, sel (l 2) x57 undef, sel (l 3) x58 undef, sel (l 4) x59 undef, sel (l 5) x60 undef, sel (l 6) x61 undef, sel (l 7) x62 undef, sel (l 8) x63 undef, sel (l 9) x64 undef, sel (l 10) x65 undef, sel (l 11) x66 undef, sel (l 12) x67 undef, sel (l 13) x68 undef, sel (l 14) x69 undef, sel (l 15) x70 undef, sel (l 16) x71 undef, sel (l 17) x72 undef, sel (l 18) x73 undef, sel (l 19) x74 undef, sel (l 20) x75 undef, sel (l 21) x76 undef, sel (l 22) x77 undef, sel (l 23) x78 undef, sel (l 24) x79 undef, sel (l 25) x80 undef, sel (l 26) x81 undef, sel (l 27) x82 undef, sel (l 28) x83 undef, sel (l 29) x84 undef, sel (l 30) x85 undef, sel (l 31) x86 undef, sel (l 32) x87 undef, sel (l 33) x88 undef, sel (l 34) x89 undef, sel (l 35) x90 undef, sel (l 36) x91 undef, sel (l 37) x92 undef, sel (l 38) x93 undef, sel (l 39) x94 undef, sel (l 40) x95 undef, sel (l 41) x96 undef, sel (l 42) x97 undef, sel (l 43) x98 undef, sel (l 44) x99 undef, sel (l 45) x100 undef, sel (l 46) x101 undef, sel (l 47) x102 undef, sel (l 48) x103 undef, sel (l 49) x104 undef, sel (l 50) x105 undef, sel (l 51) x106 undef, sel (l 52) x107 undef, sel (l 53) x108 undef, sel (l 54) x109 undef, sel (l 55) x110 undef, sel (l 56) x111 undef, sel (l 57) x112 undef, sel (l 58) x113 undef, sel (l 59) x114 undef, sel (l 60) x115 undef, sel (l 61) x116 undef, sel (l 62) x117 undef, sel (l 63) x118 undef]) (some 6) (sel (l 64) x6 (.bool false))) ∧ Off (fun _ => False) wd4 w') (by kernel_rfl) (by kernel_rfl) ?_ ⟨?_, ?_, ?_, ?_, ?_, ?_, ?_, ?_, ?_, ?_, ?_, ?_, ?_, ?_, ?_, ?_, ?_, ?_, ?_, ?_, ?_, ?_, ?_, ?_, ?_, ?_, ?_, ?_, ?_, ?_, ?_, ?_, ?_, ?_, ?_, ?_, ?_, ?_, ?_, ?_, ?_, ?_, ?_, ?_, ?_, ?_, ?_, ?_, ?_, ?_, ?_, ?_, ?_, ?_, ?_, ?_, ?_, ?_, ?_, ?_, ?_, ?_, ?_, ?_, ?_, trivial⟩ ?_
        · refine ⟨?_, (Off.refl _ wd4).drew⟩
          simp only [fill_eq, List.take_succ_cons, List.take_zero, List.cons_append, List.nil_append, Act.put, List.setIfInBounds_toArray, List.set_cons_zero, List.set_cons_succ, sel_start]
        · as_aux_lemma =>
            rintro l a wr ⟨ha, hO⟩ hl hd K' hK
            have hx := X55.out; subst hx
            simp only [fill_eq, List.take_succ_cons, List.take_zero, List.cons_append, List.nil_append, Act.put, List.setIfInBounds_toArray, List.set_cons_zero, List.set_cons_succ] at ha
            subst ha
            rw [if_pos (by rfl)]
            go_simp
            refine (held_inv (FAL.out wr (HTW9.out wr hO)) hO).mono ?_
            rintro e w1 ⟨rfl, hO1, hOW⟩
            go_wp2_with fail
            refine hK.out _ _ ⟨?_, hO1⟩
            simp only [fill_eq, List.take_succ_cons, List.take_zero, List.cons_append, List.nil_append, Act.put, List.setIfInBounds_toArray, List.set_cons_zero, List.set_cons_succ, sel_new]
            rfl
        · as_aux_lemma =>
            rintro l a wr ⟨ha, hO⟩ hl hd K' hK
            have d0 := hd 0 (by decide)
            have hx := X55.out; subst hx
            have hx := X56.out; subst hx
            simp only [fill_eq, List.take_succ_cons, List.take_zero, List.cons_append, List.nil_append, Act.put, List.setIfInBounds_toArray, List.set_cons_zero, List.set_cons_succ, sel_of d0] at ha
            subst ha
            rw [if_pos (by rfl)]
            go_simp
            refine hK.out _ _ ⟨?_, hO⟩
            simp only [fill_eq, List.take_succ_cons, List.take_zero, List.cons_append, List.nil_append, Act.put, List.setIfInBounds_toArray, List.set_cons_zero, List.set_cons_succ, sel_new, sel_dep d0]
            rfl
        · as_aux_lemma =>
            rintro l a wr ⟨ha, hO⟩ hl hd K' hK
            have d1 := hd 1 (by decide)
            have hx := X56.out; subst hx
            have hx := X57.out; subst hx
            simp only [fill_eq, List.take_succ_cons, List.take_zero, List.cons_append, List.nil_append, Act.put, List.setIfInBounds_toArray, List.set_cons_zero, List.set_cons_succ, sel_of d1] at ha
            subst ha
            have hc := HK9.out wr hO
            have p0 := hc.2.2.2.2.1.1
            have p1 := hc.2.2.2.2.1.2.1
            have p2 := hc.2.2.2.2.1.2.2.1
            have p3 := hc.2.2.2.2.1.2.2.2
            clear hc
            rw [if_pos (by rfl)]
            go_simp
            refine hK.out _ _ ⟨?_, hO⟩
            simp only [fill_eq, List.take_succ_cons, List.take_zero, List.cons_append, List.nil_append, Act.put, List.setIfInBounds_toArray, List.set_cons_zero, List.set_cons_succ, sel_new, sel_dep d1]
            rfl
        · as_aux_lemma =>
            rintro l a wr ⟨ha, hO⟩ hl hd K' hK
            have d1 := hd 1 (by decide)
            have hx := X56.out; subst hx
            have hx := X58.out; subst hx
            simp only [fill_eq, List.take_succ_cons, List.take_zero, List.cons_append, List.nil_append, Act.put, List.setIfInBounds_toArray, List.set_cons_zero, List.set_cons_succ, sel_of d1] at ha
            subst ha
            have hc := HK9.out wr hO
            have p0 := hc.2.2.2.2.2.1.1
            have p1 := hc.2.2.2.2.2.1.2.1
            have p2 := hc.2.2.2.2.2.1.2.2.1
            have p3 := hc.2.2.2.2.2.1.2.2.2
            clear hc
            rw [if_pos (by rfl)]
            go_simp
            refine hK.out _ _ ⟨?_, hO⟩
            simp only [fill_eq, List.take_succ_cons, List.take_zero, List.cons_append, List.nil_append, Act.put, List.setIfInBounds_toArray, List.set_cons_zero, List.set_cons_succ, sel_new, sel_dep d1]
            rfl
        · as_aux_lemma =>
            rintro l a wr ⟨ha, hO⟩ hl hd K' hK
            have d1 := hd 1 (by decide)
            have d2 := hd 2 (by decide)
            have d3 := hd 3 (by decide)
            have hx := X56.out; subst hx
            have hx := X57.out; subst hx
            have hx := X58.out; subst hx
            have hx := X59.out; subst hx
            simp only [fill_eq, List.take_succ_cons, List.take_zero, List.cons_append, List.nil_append, Act.put, List.setIfInBounds_toArray, List.set_cons_zero, List.set_cons_succ, sel_of d1, sel_of d2, sel_of d3] at ha
            subst ha
            rw [if_pos (by rfl)]
            go_simp
            refine hK.out _ _ ⟨?_, hO⟩
            simp only [fill_eq, List.take_succ_cons, List.take_zero, List.cons_append, List.nil_append, Act.put, List.setIfInBounds_toArray, List.set_cons_zero, List.set_cons_succ, sel_new, sel_dep d1, sel_dep d2, sel_dep d3]
            rfl
        · as_aux_lemma =>
            rintro l a wr ⟨ha, hO⟩ hl hd K' hK
            have d1 := hd 1 (by decide)
            have d4 := hd 4 (by decide)
            have hx := X56.out; subst hx
            have hx := X59.out; subst hx
            have hx := X60.out; subst hx
            simp only [fill_eq, List.take_succ_cons, List.take_zero, List.cons_append, List.nil_append, Act.put, List.setIfInBounds_toArray, List.set_cons_zero, List.set_cons_succ, sel_of d1, sel_of d4] at ha
            subst ha
            rw [if_pos (by rfl)]
            go_simp
            refine hK.out _ _ ⟨?_, hO⟩
            simp only [fill_eq, List.take_succ_cons, List.take_zero, List.cons_append, List.nil_append, Act.put, List.setIfInBounds_toArray, List.set_cons_zero, List.set_cons_succ, sel_new, sel_dep d1, sel_dep d4]
            rfl
        · as_aux_lemma =>
            rintro l a wr ⟨ha, hO⟩ hl hd K' hK
            have d5 := hd 5 (by decide)
            have hx := X60.out; subst hx
            have hx := X61.out; subst hx
            simp only [fill_eq, List.take_succ_cons, List.take_zero, List.cons_append, List.nil_append, Act.put, List.setIfInBounds_toArray, List.set_cons_zero, List.set_cons_succ, sel_of d5] at ha
            subst ha
            rw [if_pos (by rfl)]
            go_simp
            refine hK.out _ _ ⟨?_, hO⟩
            simp only [fill_eq, List.take_succ_cons, List.take_zero, List.cons_append, List.nil_append, Act.put, List.setIfInBounds_toArray, List.set_cons_zero, List.set_cons_succ, sel_new, sel_dep d5]
            rfl
        · as_aux_lemma =>
            rintro l a wr ⟨ha, hO⟩ hl hd K' hK
            have d6 := hd 6 (by decide)
            have hx := X61.out; subst hx
            have hx := X62.out; subst hx
            simp only [fill_eq, List.take_succ_cons, List.take_zero, List.cons_append, List.nil_append, Act.put, List.setIfInBounds_toArray, List.set_cons_zero, List.set_cons_succ, sel_of d6] at ha
            subst ha
            have hc := HK9.out wr hO
            have p0 := hc.1.1
            have p1 := hc.1.2.1
            have p2 := hc.1.2.2.1
            have p3 := hc.1.2.2.2.1
            have p4 := hc.1.2.2.2.2.1
            have p5 := hc.1.2.2.2.2.2.1
            have p6 := hc.1.2.2.2.2.2.2.1
            have p7 := hc.1.2.2.2.2.2.2.2.1
            have p8 := hc.1.2.2.2.2.2.2.2.2.1
            have p9 := hc.1.2.2.2.2.2.2.2.2.2.1
            have p10 := hc.1.2.2.2.2.2.2.2.2.2.2.1
            have p11 := hc.1.2.2.2.2.2.2.2.2.2.2.2.1
            have p12 := hc.1.2.2.2.2.2.2.2.2.2.2.2.2.1
            have p13 := hc.1.2.2.2.2.2.2.2.2.2.2.2.2.2
            clear hc
            rw [if_pos (by rfl)]
            go_simp
            refine hK.out _ _ ⟨?_, hO⟩
            simp only [fill_eq, List.take_succ_cons, List.take_zero, List.cons_append, List.nil_append, Act.put, List.setIfInBounds_toArray, List.set_cons_zero, List.set_cons_succ, sel_new, sel_dep d6]
            rfl
        · as_aux_lemma =>
            rintro l a wr ⟨ha, hO⟩ hl hd K' hK
            have d6 := hd 6 (by decide)
            have hx := X61.out; subst hx
            have hx := X63.out; subst hx
            simp only [fill_eq, List.take_succ_cons, List.take_zero, List.cons_append, List.nil_append, Act.put, List.setIfInBounds_toArray, List.set_cons_zero, List.set_cons_succ, sel_of d6] at ha
            subst ha
            have hc := HK9.out wr hO
            have p0 := hc.1.1
            have p1 := hc.1.2.1
            have p2 := hc.1.2.2.1
            have p3 := hc.1.2.2.2.1
            have p4 := hc.1.2.2.2.2.1
            have p5 := hc.1.2.2.2.2.2.1
            have p6 := hc.1.2.2.2.2.2.2.1
            have p7 := hc.1.2.2.2.2.2.2.2.1
            have p8 := hc.1.2.2.2.2.2.2.2.2.1
            have p9 := hc.1.2.2.2.2.2.2.2.2.2.1
            have p10 := hc.1.2.2.2.2.2.2.2.2.2.2.1
            have p11 := hc.1.2.2.2.2.2.2.2.2.2.2.2.1
            have p12 := hc.1.2.2.2.2.2.2.2.2.2.2.2.2.1
            have p13 := hc.1.2.2.2.2.2.2.2.2.2.2.2.2.2
            clear hc
            rw [if_pos (by rfl)]
            go_simp
            refine hK.out _ _ ⟨?_, hO⟩
            simp only [fill_eq, List.take_succ_cons, List.take_zero, List.cons_append, List.nil_append, Act.put, List.setIfInBounds_toArray, List.set_cons_zero, List.set_cons_succ, sel_new, sel_dep d6]
            rfl
        · as_aux_lemma =>
            rintro l a wr ⟨ha, hO⟩ hl hd K' hK
            have d6 := hd 6 (by decide)
            have hx := X61.out; subst hx
            have hx := X64.out; subst hx
            simp only [fill_eq, List.take_succ_cons, List.take_zero, List.cons_append, List.nil_append, Act.put, List.setIfInBounds_toArray, List.set_cons_zero, List.set_cons_succ, sel_of d6] at ha
            subst ha
            have hc := HK9.out wr hO
            have p0 := hc.2.1.1
            have p1 := hc.2.1.2.1
            have p2 := hc.2.1.2.2.1
            have p3 := hc.2.1.2.2.2
            clear hc
            rw [if_pos (by rfl)]
            go_simp
            refine hK.out _ _ ⟨?_, hO⟩
            simp only [fill_eq, List.take_succ_cons, List.take_zero, List.cons_append, List.nil_append, Act.put, List.setIfInBounds_toArray, List.set_cons_zero, List.set_cons_succ, sel_new, sel_dep d6]
            rfl
        · as_aux_lemma =>
            rintro l a wr ⟨ha, hO⟩ hl hd K' hK
            have d6 := hd 6 (by decide)
            have hx := X61.out; subst hx
            have hx := X65.out; subst hx
            simp only [fill_eq, List.take_succ_cons, List.take_zero, List.cons_append, List.nil_append, Act.put, List.setIfInBounds_toArray, List.set_cons_zero, List.set_cons_succ, sel_of d6] at ha
            subst ha
            have hc := HK9.out wr hO
            have p0 := hc.2.2.1.1
            have p1 := hc.2.2.1.2.1
            have p2 := hc.2.2.1.2.2.1
            have p3 := hc.2.2.1.2.2.2
            clear hc
            rw [if_pos (by rfl)]
            go_simp
            refine hK.out _ _ ⟨?_, hO⟩
            simp only [fill_eq, List.take_succ_cons, List.take_zero, List.cons_append, List.nil_append, Act.put, List.setIfInBounds_toArray, List.set_cons_zero, List.set_cons_succ, sel_new, sel_dep d6]
            rfl
        · as_aux_lemma =>
            rintro l a wr ⟨ha, hO⟩ hl hd K' hK
            have d6 := hd 6 (by decide)
            have d8 := hd 8 (by decide)
            have d9 := hd 9 (by decide)
            have d10 := hd 10 (by decide)
            have hx := X61.out; subst hx
            have hx := X63.out; subst hx
            have hx := X64.out; subst hx
            have hx := X65.out; subst hx
            have hx := X66.out; subst hx
            simp only [fill_eq, List.take_succ_cons, List.take_zero, List.cons_append, List.nil_append, Act.put, List.setIfInBounds_toArray, List.set_cons_zero, List.set_cons_succ, sel_of d6, sel_of d8, sel_of d9, sel_of d10] at ha
            subst ha
            rw [if_pos (by rfl)]
            go_simp
            refine (held_inv (FUV.out u v (.inl ⟨rfl, rfl⟩) wr (HTW9.out wr hO)) hO).mono ?_
            rintro e w1 ⟨rfl, hO1, hOW⟩
            go_wp2_with fail
            refine hK.out _ _ ⟨?_, hO1⟩
            simp only [fill_eq, List.take_succ_cons, List.take_zero, List.cons_append, List.nil_append, Act.put, List.setIfInBounds_toArray, List.set_cons_zero, List.set_cons_succ, sel_new, sel_dep d6, sel_dep d8, sel_dep d9, sel_dep d10]
            rfl
        · as_aux_lemma =>
            rintro l a wr ⟨ha, hO⟩ hl hd K' hK
            have d6 := hd 6 (by decide)
            have hx := X61.out; subst hx
            have hx := X67.out; subst hx
            simp only [fill_eq, List.take_succ_cons, List.take_zero, List.cons_append, List.nil_append, Act.put, List.setIfInBounds_toArray, List.set_cons_zero, List.set_cons_succ, sel_of d6] at ha
            subst ha
            have hc := HK9.out wr hO
            have p0 := hc.2.2.2.1.1
            have p1 := hc.2.2.2.1.2.1
            have p2 := hc.2.2.2.1.2.2.1
            have p3 := hc.2.2.2.1.2.2.2
            clear hc
            rw [if_pos (by rfl)]
            go_simp
            refine hK.out _ _ ⟨?_, hO⟩
            simp only [fill_eq, List.take_succ_cons, List.take_zero, List.cons_append, List.nil_append, Act.put, List.setIfInBounds_toArray, List.set_cons_zero, List.set_cons_succ, sel_new, sel_dep d6]
            rfl
        · as_aux_lemma =>
            rintro l a wr ⟨ha, hO⟩ hl hd K' hK
            have d6 := hd 6 (by decide)
            have d7 := hd 7 (by decide)
            have d11 := hd 11 (by decide)
            have d12 := hd 12 (by decide)
            have hx := X61.out; subst hx
            have hx := X62.out; subst hx
            have hx := X66.out; subst hx
            have hx := X67.out; subst hx
            have hx := X68.out; subst hx
            simp only [fill_eq, List.take_succ_cons, List.take_zero, List.cons_append, List.nil_append, Act.put, List.setIfInBounds_toArray, List.set_cons_zero, List.set_cons_succ, sel_of d6, sel_of d7, sel_of d11, sel_of d12] at ha
            subst ha
            rw [if_pos (by rfl)]
            go_simp
            refine (held_inv (FM4.out wr (HTW9.out wr hO)) hO).mono ?_
            rintro e w1 ⟨rfl, hO1, hOW⟩
            go_wp2_with fail
            refine hK.out _ _ ⟨?_, hO1⟩
            simp only [fill_eq, List.take_succ_cons, List.take_zero, List.cons_append, List.nil_append, Act.put, List.setIfInBounds_toArray, List.set_cons_zero, List.set_cons_succ, sel_new, sel_dep d6, sel_dep d7, sel_dep d11, sel_dep d12]
            rfl
        · as_aux_lemma =>
            rintro l a wr ⟨ha, hO⟩ hl hd K' hK
            have d6 := hd 6 (by decide)
            have hx := X61.out; subst hx
            have hx := X69.out; subst hx
            simp only [fill_eq, List.take_succ_cons, List.take_zero, List.cons_append, List.nil_append, Act.put, List.setIfInBounds_toArray, List.set_cons_zero, List.set_cons_succ, sel_of d6] at ha
            subst ha
            have hc := HK9.out wr hO
            have p0 := hc.1.1
            have p1 := hc.1.2.1
            have p2 := hc.1.2.2.1
            have p3 := hc.1.2.2.2.1
            have p4 := hc.1.2.2.2.2.1
            have p5 := hc.1.2.2.2.2.2.1
            have p6 := hc.1.2.2.2.2.2.2.1
            have p7 := hc.1.2.2.2.2.2.2.2.1
            have p8 := hc.1.2.2.2.2.2.2.2.2.1
            have p9 := hc.1.2.2.2.2.2.2.2.2.2.1
            have p10 := hc.1.2.2.2.2.2.2.2.2.2.2.1
            have p11 := hc.1.2.2.2.2.2.2.2.2.2.2.2.1
            have p12 := hc.1.2.2.2.2.2.2.2.2.2.2.2.2.1
            have p13 := hc.1.2.2.2.2.2.2.2.2.2.2.2.2.2
            clear hc
            rw [if_pos (by rfl)]
            go_simp
            refine hK.out _ _ ⟨?_, hO⟩
            simp only [fill_eq, List.take_succ_cons, List.take_zero, List.cons_append, List.nil_append, Act.put, List.setIfInBounds_toArray, List.set_cons_zero, List.set_cons_succ, sel_new, sel_dep d6]
            rfl
        · as_aux_lemma =>
            rintro l a wr ⟨ha, hO⟩ hl hd K' hK
            have d6 := hd 6 (by decide)
            have hx := X61.out; subst hx
            have hx := X70.out; subst hx
            simp only [fill_eq, List.take_succ_cons, List.take_zero, List.cons_append, List.nil_append, Act.put, List.setIfInBounds_toArray, List.set_cons_zero, List.set_cons_succ, sel_of d6] at ha
            subst ha
            have hc := HK9.out wr hO
            have p0 := hc.2.1.1
            have p1 := hc.2.1.2.1
            have p2 := hc.2.1.2.2.1
            have p3 := hc.2.1.2.2.2
            clear hc
            rw [if_pos (by rfl)]
            go_simp
            refine hK.out _ _ ⟨?_, hO⟩
            simp only [fill_eq, List.take_succ_cons, List.take_zero, List.cons_append, List.nil_append, Act.put, List.setIfInBounds_toArray, List.set_cons_zero, List.set_cons_succ, sel_new, sel_dep d6]
            rfl
        · as_aux_lemma =>
            rintro l a wr ⟨ha, hO⟩ hl hd K' hK
            have d6 := hd 6 (by decide)
            have hx := X61.out; subst hx
            have hx := X71.out; subst hx
            simp only [fill_eq, List.take_succ_cons, List.take_zero, List.cons_append, List.nil_append, Act.put, List.setIfInBounds_toArray, List.set_cons_zero, List.set_cons_succ, sel_of d6] at ha
            subst ha
            have hc := HK9.out wr hO
            have p0 := hc.1.1
            have p1 := hc.1.2.1
            have p2 := hc.1.2.2.1
            have p3 := hc.1.2.2.2.1
            have p4 := hc.1.2.2.2.2.1
            have p5 := hc.1.2.2.2.2.2.1
            have p6 := hc.1.2.2.2.2.2.2.1
            have p7 := hc.1.2.2.2.2.2.2.2.1
            have p8 := hc.1.2.2.2.2.2.2.2.2.1
            have p9 := hc.1.2.2.2.2.2.2.2.2.2.1
            have p10 := hc.1.2.2.2.2.2.2.2.2.2.2.1
            have p11 := hc.1.2.2.2.2.2.2.2.2.2.2.2.1
            have p12 := hc.1.2.2.2.2.2.2.2.2.2.2.2.2.1
            have p13 := hc.1.2.2.2.2.2.2.2.2.2.2.2.2.2
            clear hc
            rw [if_pos (by rfl)]
            go_simp
            refine hK.out _ _ ⟨?_, hO⟩
            simp only [fill_eq, List.take_succ_cons, List.take_zero, List.cons_append, List.nil_append, Act.put, List.setIfInBounds_toArray, List.set_cons_zero, List.set_cons_succ, sel_new, sel_dep d6]
            rfl
        · as_aux_lemma =>
            rintro l a wr ⟨ha, hO⟩ hl hd K' hK
            have d6 := hd 6 (by decide)
            have hx := X61.out; subst hx
            have hx := X72.out; subst hx
            simp only [fill_eq, List.take_succ_cons, List.take_zero, List.cons_append, List.nil_append, Act.put, List.setIfInBounds_toArray, List.set_cons_zero, List.set_cons_succ, sel_of d6] at ha
            subst ha
            have hc := HK9.out wr hO
            have p0 := hc.2.2.1.1
            have p1 := hc.2.2.1.2.1
            have p2 := hc.2.2.1.2.2.1
            have p3 := hc.2.2.1.2.2.2
            clear hc
            rw [if_pos (by rfl)]
            go_simp
            refine hK.out _ _ ⟨?_, hO⟩
            simp only [fill_eq, List.take_succ_cons, List.take_zero, List.cons_append, List.nil_append, Act.put, List.setIfInBounds_toArray, List.set_cons_zero, List.set_cons_succ, sel_new, sel_dep d6]
            rfl
        · as_aux_lemma =>
            rintro l a wr ⟨ha, hO⟩ hl hd K' hK
            have d6 := hd 6 (by decide)
            have hx := X61.out; subst hx
            have hx := X73.out; subst hx
            simp only [fill_eq, List.take_succ_cons, List.take_zero, List.cons_append, List.nil_append, Act.put, List.setIfInBounds_toArray, List.set_cons_zero, List.set_cons_succ, sel_of d6] at ha
            subst ha
            have hc := HK9.out wr hO
            have p0 := hc.2.2.2.1.1
            have p1 := hc.2.2.2.1.2.1
            have p2 := hc.2.2.2.1.2.2.1
            have p3 := hc.2.2.2.1.2.2.2
            clear hc
            rw [if_pos (by rfl)]
            go_simp
            refine hK.out _ _ ⟨?_, hO⟩
            simp only [fill_eq, List.take_succ_cons, List.take_zero, List.cons_append, List.nil_append, Act.put, List.setIfInBounds_toArray, List.set_cons_zero, List.set_cons_succ, sel_new, sel_dep d6]
            rfl
        · as_aux_lemma =>
            rintro l a wr ⟨ha, hO⟩ hl hd K' hK
            have d6 := hd 6 (by decide)
            have d16 := hd 16 (by decide)
            have d17 := hd 17 (by decide)
            have d18 := hd 18 (by decide)
            have hx := X61.out; subst hx
            have hx := X71.out; subst hx
            have hx := X72.out; subst hx
            have hx := X73.out; subst hx
            have hx := X74.out; subst hx
            simp only [fill_eq, List.take_succ_cons, List.take_zero, List.cons_append, List.nil_append, Act.put, List.setIfInBounds_toArray, List.set_cons_zero, List.set_cons_succ, sel_of d6, sel_of d16, sel_of d17, sel_of d18] at ha
            subst ha
            rw [if_pos (by rfl)]
            go_simp
            refine (held_inv (FA5.out wr (HTW9.out wr hO)) hO).mono ?_
            rintro e w1 ⟨rfl, hO1, hOW⟩
            go_wp2_with fail
            refine hK.out _ _ ⟨?_, hO1⟩
            simp only [fill_eq, List.take_succ_cons, List.take_zero, List.cons_append, List.nil_append, Act.put, List.setIfInBounds_toArray, List.set_cons_zero, List.set_cons_succ, sel_new, sel_dep d6, sel_dep d16, sel_dep d17, sel_dep d18]
            rfl
        · as_aux_lemma =>
            rintro l a wr ⟨ha, hO⟩ hl hd K' hK
            have d6 := hd 6 (by decide)
            have d14 := hd 14 (by decide)
            have d15 := hd 15 (by decide)
            have d19 := hd 19 (by decide)
            have hx := X61.out; subst hx
            have hx := X69.out; subst hx
            have hx := X70.out; subst hx
            have hx := X74.out; subst hx
            have hx := X75.out; subst hx
            simp only [fill_eq, List.take_succ_cons, List.take_zero, List.cons_append, List.nil_append, Act.put, List.setIfInBounds_toArray, List.set_cons_zero, List.set_cons_succ, sel_of d6, sel_of d14, sel_of d15, sel_of d19] at ha
            subst ha
            rw [if_pos (by rfl)]
            go_simp
            refine (held_inv (FM5.out wr (HTW9.out wr hO)) hO).mono ?_
            rintro e w1 ⟨rfl, hO1, hOW⟩
            go_wp2_with fail
            refine hK.out _ _ ⟨?_, hO1⟩
            simp only [fill_eq, List.take_succ_cons, List.take_zero, List.cons_append, List.nil_append, Act.put, List.setIfInBounds_toArray, List.set_cons_zero, List.set_cons_succ, sel_new, sel_dep d6, sel_dep d14, sel_dep d15, sel_dep d19]
            rfl
        · as_aux_lemma =>
            rintro l a wr ⟨ha, hO⟩ hl hd K' hK
            have d6 := hd 6 (by decide)
            have d13 := hd 13 (by decide)
            have d20 := hd 20 (by decide)
            have hx := X61.out; subst hx
            have hx := X68.out; subst hx
            have hx := X75.out; subst hx
            have hx := X76.out; subst hx
            simp only [fill_eq, List.take_succ_cons, List.take_zero, List.cons_append, List.nil_append, Act.put, List.setIfInBounds_toArray, List.set_cons_zero, List.set_cons_succ, sel_of d6, sel_of d13, sel_of d20] at ha
            subst ha
            rw [if_pos (by rfl)]
            go_simp
            refine hK.out _ _ ⟨?_, hO⟩
            simp only [fill_eq, List.take_succ_cons, List.take_zero, List.cons_append, List.nil_append, Act.put, List.setIfInBounds_toArray, List.set_cons_zero, List.set_cons_succ, sel_new, sel_dep d6, sel_dep d13, sel_dep d20]
            rfl
        · as_aux_lemma =>
            rintro l a wr ⟨ha, hO⟩ hl hd K' hK
            have d6 := hd 6 (by decide)
            have d21 := hd 21 (by decide)
            have hx := X61.out; subst hx
            have hx := X76.out; subst hx
            have hx := X77.out; subst hx
            simp only [fill_eq, List.take_succ_cons, List.take_zero, List.cons_append, List.nil_append, Act.put, List.setIfInBounds_toArray, List.set_cons_zero, List.set_cons_succ, sel_of d6, sel_of d21] at ha
            subst ha
            rw [if_pos (by rfl)]
            go_simp
            refine hK.out _ _ ⟨?_, hO⟩
            simp only [fill_eq, List.take_succ_cons, List.take_zero, List.cons_append, List.nil_append, Act.put, List.setIfInBounds_toArray, List.set_cons_zero, List.set_cons_succ, sel_new, sel_dep d6, sel_dep d21]
            rfl
        · as_aux_lemma =>
            rintro l a wr ⟨ha, hO⟩ hl hd K' hK
            have d22 := hd 22 (by decide)
            have hx := X77.out; subst hx
            have hx := X78.out; subst hx
            simp only [fill_eq, List.take_succ_cons, List.take_zero, List.cons_append, List.nil_append, Act.put, List.setIfInBounds_toArray, List.set_cons_zero, List.set_cons_succ, sel_of d22] at ha
            subst ha
            rw [if_pos (by rfl)]
            go_simp
            refine hK.out _ _ ⟨?_, hO⟩
            simp only [fill_eq, List.take_succ_cons, List.take_zero, List.cons_append, List.nil_append, Act.put, List.setIfInBounds_toArray, List.set_cons_zero, List.set_cons_succ, sel_new, sel_dep d22]
            rfl
        · as_aux_lemma =>
            rintro l a wr ⟨ha, hO⟩ hl hd K' hK
            have d23 := hd 23 (by decide)
            have hx := X78.out; subst hx
            have hx := X79.out; subst hx
            simp only [fill_eq, List.take_succ_cons, List.take_zero, List.cons_append, List.nil_append, Act.put, List.setIfInBounds_toArray, List.set_cons_zero, List.set_cons_succ, sel_of d23] at ha
            subst ha
            have hc := HK9.out wr hO
            have p0 := hc.1.1
            have p1 := hc.1.2.1
            have p2 := hc.1.2.2.1
            have p3 := hc.1.2.2.2.1
            have p4 := hc.1.2.2.2.2.1
            have p5 := hc.1.2.2.2.2.2.1
            have p6 := hc.1.2.2.2.2.2.2.1
            have p7 := hc.1.2.2.2.2.2.2.2.1
            have p8 := hc.1.2.2.2.2.2.2.2.2.1
            have p9 := hc.1.2.2.2.2.2.2.2.2.2.1
            have p10 := hc.1.2.2.2.2.2.2.2.2.2.2.1
            have p11 := hc.1.2.2.2.2.2.2.2.2.2.2.2.1
            have p12 := hc.1.2.2.2.2.2.2.2.2.2.2.2.2.1
            have p13 := hc.1.2.2.2.2.2.2.2.2.2.2.2.2.2
            clear hc
            rw [if_pos (by rfl)]
            go_simp
            refine hK.out _ _ ⟨?_, hO⟩
            simp only [fill_eq, List.take_succ_cons, List.take_zero, List.cons_append, List.nil_append, Act.put, List.setIfInBounds_toArray, List.set_cons_zero, List.set_cons_succ, sel_new, sel_dep d23]
            rfl
        · as_aux_lemma =>
            rintro l a wr ⟨ha, hO⟩ hl hd K' hK
            have d23 := hd 23 (by decide)
            have hx := X78.out; subst hx
            have hx := X80.out; subst hx
            simp only [fill_eq, List.take_succ_cons, List.take_zero, List.cons_append, List.nil_append, Act.put, List.setIfInBounds_toArray, List.set_cons_zero, List.set_cons_succ, sel_of d23] at ha
            subst ha
            have hc := HK9.out wr hO
            have p0 := hc.2.1.1
            have p1 := hc.2.1.2.1
            have p2 := hc.2.1.2.2.1
            have p3 := hc.2.1.2.2.2
            clear hc
            rw [if_pos (by rfl)]
            go_simp
            refine hK.out _ _ ⟨?_, hO⟩
            simp only [fill_eq, List.take_succ_cons, List.take_zero, List.cons_append, List.nil_append, Act.put, List.setIfInBounds_toArray, List.set_cons_zero, List.set_cons_succ, sel_new, sel_dep d23]
            rfl
        · as_aux_lemma =>
            rintro l a wr ⟨ha, hO⟩ hl hd K' hK
            have d23 := hd 23 (by decide)
            have hx := X78.out; subst hx
            have hx := X81.out; subst hx
            simp only [fill_eq, List.take_succ_cons, List.take_zero, List.cons_append, List.nil_append, Act.put, List.setIfInBounds_toArray, List.set_cons_zero, List.set_cons_succ, sel_of d23] at ha
            subst ha
            have hc := HK9.out wr hO
            have p0 := hc.2.2.1.1
            have p1 := hc.2.2.1.2.1
            have p2 := hc.2.2.1.2.2.1
            have p3 := hc.2.2.1.2.2.2
            clear hc
            rw [if_pos (by rfl)]
            go_simp
            refine hK.out _ _ ⟨?_, hO⟩
            simp only [fill_eq, List.take_succ_cons, List.take_zero, List.cons_append, List.nil_append, Act.put, List.setIfInBounds_toArray, List.set_cons_zero, List.set_cons_succ, sel_new, sel_dep d23]
            rfl
        · as_aux_lemma =>
            rintro l a wr ⟨ha, hO⟩ hl hd K' hK
            have d23 := hd 23 (by decide)
            have d24 := hd 24 (by decide)
            have d25 := hd 25 (by decide)
            have d26 := hd 26 (by decide)
            have hx := X78.out; subst hx
            have hx := X79.out; subst hx
            have hx := X80.out; subst hx
            have hx := X81.out; subst hx
            have hx := X82.out; subst hx
            simp only [fill_eq, List.take_succ_cons, List.take_zero, List.cons_append, List.nil_append, Act.put, List.setIfInBounds_toArray, List.set_cons_zero, List.set_cons_succ, sel_of d23, sel_of d24, sel_of d25, sel_of d26] at ha
            subst ha
            rw [if_pos (by rfl)]
            go_simp
            refine (held_inv (FUV.out u v (.inl ⟨rfl, rfl⟩) wr (HTW9.out wr hO)) hO).mono ?_
            rintro e w1 ⟨rfl, hO1, hOW⟩
            go_wp2_with fail
            refine hK.out _ _ ⟨?_, hO1⟩
            simp only [fill_eq, List.take_succ_cons, List.take_zero, List.cons_append, List.nil_append, Act.put, List.setIfInBounds_toArray, List.set_cons_zero, List.set_cons_succ, sel_new, sel_dep d23, sel_dep d24, sel_dep d25, sel_dep d26]
            rfl
        · as_aux_lemma =>
            rintro l a wr ⟨ha, hO⟩ hl hd K' hK
            have d23 := hd 23 (by decide)
            have hx := X78.out; subst hx
            have hx := X83.out; subst hx
            simp only [fill_eq, List.take_succ_cons, List.take_zero, List.cons_append, List.nil_append, Act.put, List.setIfInBounds_toArray, List.set_cons_zero, List.set_cons_succ, sel_of d23] at ha
            subst ha
            have hc := HK9.out wr hO
            have p0 := hc.1.1
            have p1 := hc.1.2.1
            have p2 := hc.1.2.2.1
            have p3 := hc.1.2.2.2.1
            have p4 := hc.1.2.2.2.2.1
            have p5 := hc.1.2.2.2.2.2.1
            have p6 := hc.1.2.2.2.2.2.2.1
            have p7 := hc.1.2.2.2.2.2.2.2.1
            have p8 := hc.1.2.2.2.2.2.2.2.2.1
            have p9 := hc.1.2.2.2.2.2.2.2.2.2.1
            have p10 := hc.1.2.2.2.2.2.2.2.2.2.2.1
            have p11 := hc.1.2.2.2.2.2.2.2.2.2.2.2.1
            have p12 := hc.1.2.2.2.2.2.2.2.2.2.2.2.2.1
            have p13 := hc.1.2.2.2.2.2.2.2.2.2.2.2.2.2
            clear hc
            rw [if_pos (by rfl)]
            go_simp
            refine hK.out _ _ ⟨?_, hO⟩
            simp only [fill_eq, List.take_succ_cons, List.take_zero, List.cons_append, List.nil_append, Act.put, List.setIfInBounds_toArray, List.set_cons_zero, List.set_cons_succ, sel_new, sel_dep d23]
            rfl
        · as_aux_lemma =>
            rintro l a wr ⟨ha, hO⟩ hl hd K' hK
            have d23 := hd 23 (by decide)
            have hx := X78.out; subst hx
            have hx := X84.out; subst hx
            simp only [fill_eq, List.take_succ_cons, List.take_zero, List.cons_append, List.nil_append, Act.put, List.setIfInBounds_toArray, List.set_cons_zero, List.set_cons_succ, sel_of d23] at ha
            subst ha
            have hc := HK9.out wr hO
            have p0 := hc.2.2.1.1
            have p1 := hc.2.2.1.2.1
            have p2 := hc.2.2.1.2.2.1
            have p3 := hc.2.2.1.2.2.2
            clear hc
            rw [if_pos (by rfl)]
            go_simp
            refine hK.out _ _ ⟨?_, hO⟩
            simp only [fill_eq, List.take_succ_cons, List.take_zero, List.cons_append, List.nil_append, Act.put, List.setIfInBounds_toArray, List.set_cons_zero, List.set_cons_succ, sel_new, sel_dep d23]
            rfl
        · as_aux_lemma =>
            rintro l a wr ⟨ha, hO⟩ hl hd K' hK
            have d23 := hd 23 (by decide)
            have hx := X78.out; subst hx
            have hx := X85.out; subst hx
            simp only [fill_eq, List.take_succ_cons, List.take_zero, List.cons_append, List.nil_append, Act.put, List.setIfInBounds_toArray, List.set_cons_zero, List.set_cons_succ, sel_of d23] at ha
            subst ha
            have hc := HK9.out wr hO
            have p0 := hc.2.1.1
            have p1 := hc.2.1.2.1
            have p2 := hc.2.1.2.2.1
            have p3 := hc.2.1.2.2.2
            clear hc
            rw [if_pos (by rfl)]
            go_simp
            refine hK.out _ _ ⟨?_, hO⟩
            simp only [fill_eq, List.take_succ_cons, List.take_zero, List.cons_append, List.nil_append, Act.put, List.setIfInBounds_toArray, List.set_cons_zero, List.set_cons_succ, sel_new, sel_dep d23]
            rfl
        · as_aux_lemma =>
            rintro l a wr ⟨ha, hO⟩ hl hd K' hK
            have d23 := hd 23 (by decide)
            have d28 := hd 28 (by decide)
            have d29 := hd 29 (by decide)
            have d30 := hd 30 (by decide)
            have hx := X78.out; subst hx
            have hx := X83.out; subst hx
            have hx := X84.out; subst hx
            have hx := X85.out; subst hx
            have hx := X86.out; subst hx
            simp only [fill_eq, List.take_succ_cons, List.take_zero, List.cons_append, List.nil_append, Act.put, List.setIfInBounds_toArray, List.set_cons_zero, List.set_cons_succ, sel_of d23, sel_of d28, sel_of d29, sel_of d30] at ha
            subst ha
            rw [if_pos (by rfl)]
            go_simp
            refine (held_inv (FUV.out v u (.inr ⟨rfl, rfl⟩) wr (HTW9.out wr hO)) hO).mono ?_
            rintro e w1 ⟨rfl, hO1, hOW⟩
            go_wp2_with fail
            refine hK.out _ _ ⟨?_, hO1⟩
            simp only [fill_eq, List.take_succ_cons, List.take_zero, List.cons_append, List.nil_append, Act.put, List.setIfInBounds_toArray, List.set_cons_zero, List.set_cons_succ, sel_new, sel_dep d23, sel_dep d28, sel_dep d29, sel_dep d30]
            rfl
        · as_aux_lemma =>
            rintro l a wr ⟨ha, hO⟩ hl hd K' hK
            have d23 := hd 23 (by decide)
            have d27 := hd 27 (by decide)
            have d31 := hd 31 (by decide)
            have hx := X78.out; subst hx
            have hx := X82.out; subst hx
            have hx := X86.out; subst hx
            have hx := X87.out; subst hx
            simp only [fill_eq, List.take_succ_cons, List.take_zero, List.cons_append, List.nil_append, Act.put, List.setIfInBounds_toArray, List.set_cons_zero, List.set_cons_succ, sel_of d23, sel_of d27, sel_of d31] at ha
            subst ha
            rw [if_pos (by rfl)]
            go_simp
            refine hK.out _ _ ⟨?_, hO⟩
            simp only [fill_eq, List.take_succ_cons, List.take_zero, List.cons_append, List.nil_append, Act.put, List.setIfInBounds_toArray, List.set_cons_zero, List.set_cons_succ, sel_new, sel_dep d23, sel_dep d27, sel_dep d31]
            rfl
        · as_aux_lemma =>
            rintro l a wr ⟨ha, hO⟩ hl hd K' hK
            have d23 := hd 23 (by decide)
            have d32 := hd 32 (by decide)
            have hx := X78.out; subst hx
            have hx := X87.out; subst hx
            have hx := X88.out; subst hx
            simp only [fill_eq, List.take_succ_cons, List.take_zero, List.cons_append, List.nil_append, Act.put, List.setIfInBounds_toArray, List.set_cons_zero, List.set_cons_succ, sel_of d23, sel_of d32] at ha
            subst ha
            rw [if_pos (by rfl)]
            go_simp
            refine hK.out _ _ ⟨?_, hO⟩
            simp only [fill_eq, List.take_succ_cons, List.take_zero, List.cons_append, List.nil_append, Act.put, List.setIfInBounds_toArray, List.set_cons_zero, List.set_cons_succ, sel_new, sel_dep d23, sel_dep d32]
            rfl
        · as_aux_lemma =>
            rintro l a wr ⟨ha, hO⟩ hl hd K' hK
            have d33 := hd 33 (by decide)
            have hx := X88.out; subst hx
            have hx := X89.out; subst hx
            simp only [fill_eq, List.take_succ_cons, List.take_zero, List.cons_append, List.nil_append, Act.put, List.setIfInBounds_toArray, List.set_cons_zero, List.set_cons_succ, sel_of d33] at ha
            subst ha
            rw [if_pos (by rfl)]
            go_simp
            refine hK.out _ _ ⟨?_, hO⟩
            simp only [fill_eq, List.take_succ_cons, List.take_zero, List.cons_append, List.nil_append, Act.put, List.setIfInBounds_toArray, List.set_cons_zero, List.set_cons_succ, sel_new, sel_dep d33]
            rfl
        · as_aux_lemma =>
            rintro l a wr ⟨ha, hO⟩ hl hd K' hK
            have d34 := hd 34 (by decide)
            have hx := X89.out; subst hx
            have hx := X90.out; subst hx
            simp only [fill_eq, List.take_succ_cons, List.take_zero, List.cons_append, List.nil_append, Act.put, List.setIfInBounds_toArray, List.set_cons_zero, List.set_cons_succ, sel_of d34] at ha
            subst ha
            have hc := HK9.out wr hO
            have p0 := hc.1.1
            have p1 := hc.1.2.1
            have p2 := hc.1.2.2.1
            have p3 := hc.1.2.2.2.1
            have p4 := hc.1.2.2.2.2.1
            have p5 := hc.1.2.2.2.2.2.1
            have p6 := hc.1.2.2.2.2.2.2.1
            have p7 := hc.1.2.2.2.2.2.2.2.1
            have p8 := hc.1.2.2.2.2.2.2.2.2.1
            have p9 := hc.1.2.2.2.2.2.2.2.2.2.1
            have p10 := hc.1.2.2.2.2.2.2.2.2.2.2.1
            have p11 := hc.1.2.2.2.2.2.2.2.2.2.2.2.1
            have p12 := hc.1.2.2.2.2.2.2.2.2.2.2.2.2.1
            have p13 := hc.1.2.2.2.2.2.2.2.2.2.2.2.2.2
            clear hc
            rw [if_pos (by rfl)]
            go_simp
            refine hK.out _ _ ⟨?_, hO⟩
            simp only [fill_eq, List.take_succ_cons, List.take_zero, List.cons_append, List.nil_append, Act.put, List.setIfInBounds_toArray, List.set_cons_zero, List.set_cons_succ, sel_new, sel_dep d34]
            rfl
        · as_aux_lemma =>
            rintro l a wr ⟨ha, hO⟩ hl hd K' hK
            have d34 := hd 34 (by decide)
            have hx := X89.out; subst hx
            have hx := X91.out; subst hx
            simp only [fill_eq, List.take_succ_cons, List.take_zero, List.cons_append, List.nil_append, Act.put, List.setIfInBounds_toArray, List.set_cons_zero, List.set_cons_succ, sel_of d34] at ha
            subst ha
            have hc := HK9.out wr hO
            have p0 := hc.2.1.1
            have p1 := hc.2.1.2.1
            have p2 := hc.2.1.2.2.1
            have p3 := hc.2.1.2.2.2
            clear hc
            rw [if_pos (by rfl)]
            go_simp
            refine hK.out _ _ ⟨?_, hO⟩
            simp only [fill_eq, List.take_succ_cons, List.take_zero, List.cons_append, List.nil_append, Act.put, List.setIfInBounds_toArray, List.set_cons_zero, List.set_cons_succ, sel_new, sel_dep d34]
            rfl
        · as_aux_lemma =>
            rintro l a wr ⟨ha, hO⟩ hl hd K' hK
            have d34 := hd 34 (by decide)
            have hx := X89.out; subst hx
            have hx := X92.out; subst hx
            simp only [fill_eq, List.take_succ_cons, List.take_zero, List.cons_append, List.nil_append, Act.put, List.setIfInBounds_toArray, List.set_cons_zero, List.set_cons_succ, sel_of d34] at ha
            subst ha
            rw [if_pos (by rfl)]
            go_simp
            refine hK.out _ _ ⟨?_, hO⟩
            simp only [fill_eq, List.take_succ_cons, List.take_zero, List.cons_append, List.nil_append, Act.put, List.setIfInBounds_toArray, List.set_cons_zero, List.set_cons_succ, sel_new, sel_dep d34]
            rfl
        · as_aux_lemma =>
            rintro l a wr ⟨ha, hO⟩ hl hd K' hK
            have d34 := hd 34 (by decide)
            have d37 := hd 37 (by decide)
            have hx := X89.out; subst hx
            have hx := X92.out; subst hx
            have hx := X93.out; subst hx
            simp only [fill_eq, List.take_succ_cons, List.take_zero, List.cons_append, List.nil_append, Act.put, List.setIfInBounds_toArray, List.set_cons_zero, List.set_cons_succ, sel_of d34, sel_of d37] at ha
            subst ha
            have hc := HK9.out wr hO
            have p0 := hc.1.1
            have p1 := hc.1.2.1
            have p2 := hc.1.2.2.1
            have p3 := hc.1.2.2.2.1
            have p4 := hc.1.2.2.2.2.1
            have p5 := hc.1.2.2.2.2.2.1
            have p6 := hc.1.2.2.2.2.2.2.1
            have p7 := hc.1.2.2.2.2.2.2.2.1
            have p8 := hc.1.2.2.2.2.2.2.2.2.1
            have p9 := hc.1.2.2.2.2.2.2.2.2.2.1
            have p10 := hc.1.2.2.2.2.2.2.2.2.2.2.1
            have p11 := hc.1.2.2.2.2.2.2.2.2.2.2.2.1
            have p12 := hc.1.2.2.2.2.2.2.2.2.2.2.2.2.1
            have p13 := hc.1.2.2.2.2.2.2.2.2.2.2.2.2.2
            clear hc
            rw [if_pos (by rfl)]
            go_simp
            refine hK.out _ _ ⟨?_, hO⟩
            simp only [fill_eq, List.take_succ_cons, List.take_zero, List.cons_append, List.nil_append, Act.put, List.setIfInBounds_toArray, List.set_cons_zero, List.set_cons_succ, sel_new, sel_dep d34, sel_dep d37]
            rfl
        · as_aux_lemma =>
            rintro l a wr ⟨ha, hO⟩ hl hd K' hK
            have d34 := hd 34 (by decide)
            have d35 := hd 35 (by decide)
            have d36 := hd 36 (by decide)
            have d38 := hd 38 (by decide)
            have hx := X89.out; subst hx
            have hx := X90.out; subst hx
            have hx := X91.out; subst hx
            have hx := X93.out; subst hx
            have hx := X94.out; subst hx
            simp only [fill_eq, List.take_succ_cons, List.take_zero, List.cons_append, List.nil_append, Act.put, List.setIfInBounds_toArray, List.set_cons_zero, List.set_cons_succ, sel_of d34, sel_of d35, sel_of d36, sel_of d38] at ha
            subst ha
            rw [if_pos (by rfl)]
            go_simp
            refine (held_inv (FONE.out wr (HTW9.out wr hO)) hO).mono ?_
            rintro e w1 ⟨rfl, hO1, hOW⟩
            go_wp2_with fail
            refine hK.out _ _ ⟨?_, hO1⟩
            simp only [fill_eq, List.take_succ_cons, List.take_zero, List.cons_append, List.nil_append, Act.put, List.setIfInBounds_toArray, List.set_cons_zero, List.set_cons_succ, sel_new, sel_dep d34, sel_dep d35, sel_dep d36, sel_dep d38]
            rfl
        · as_aux_lemma =>
            rintro l a wr ⟨ha, hO⟩ hl hd K' hK
            have d34 := hd 34 (by decide)
            have hx := X89.out; subst hx
            have hx := X95.out; subst hx
            simp only [fill_eq, List.take_succ_cons, List.take_zero, List.cons_append, List.nil_append, Act.put, List.setIfInBounds_toArray, List.set_cons_zero, List.set_cons_succ, sel_of d34] at ha
            subst ha
            have hc := HK9.out wr hO
            have p0 := hc.2.1.1
            have p1 := hc.2.1.2.1
            have p2 := hc.2.1.2.2.1
            have p3 := hc.2.1.2.2.2
            clear hc
            rw [if_pos (by rfl)]
            go_simp
            refine hK.out _ _ ⟨?_, hO⟩
            simp only [fill_eq, List.take_succ_cons, List.take_zero, List.cons_append, List.nil_append, Act.put, List.setIfInBounds_toArray, List.set_cons_zero, List.set_cons_succ, sel_new, sel_dep d34]
            rfl
        · as_aux_lemma =>
            rintro l a wr ⟨ha, hO⟩ hl hd K' hK
            have d34 := hd 34 (by decide)
            have d39 := hd 39 (by decide)
            have d40 := hd 40 (by decide)
            have hx := X89.out; subst hx
            have hx := X94.out; subst hx
            have hx := X95.out; subst hx
            have hx := X96.out; subst hx
            simp only [fill_eq, List.take_succ_cons, List.take_zero, List.cons_append, List.nil_append, Act.put, List.setIfInBounds_toArray, List.set_cons_zero, List.set_cons_succ, sel_of d34, sel_of d39, sel_of d40] at ha
            subst ha
            rw [if_pos (by rfl)]
            go_simp
            refine hK.out _ _ ⟨?_, hO⟩
            simp only [fill_eq, List.take_succ_cons, List.take_zero, List.cons_append, List.nil_append, Act.put, List.setIfInBounds_toArray, List.set_cons_zero, List.set_cons_succ, sel_new, sel_dep d34, sel_dep d39, sel_dep d40]
            rfl
        · as_aux_lemma =>
            rintro l a wr ⟨ha, hO⟩ hl hd K' hK
            have d34 := hd 34 (by decide)
            have d41 := hd 41 (by decide)
            have hx := X89.out; subst hx
            have hx := X96.out; subst hx
            have hx := X97.out; subst hx
            simp only [fill_eq, List.take_succ_cons, List.take_zero, List.cons_append, List.nil_append, Act.put, List.setIfInBounds_toArray, List.set_cons_zero, List.set_cons_succ, sel_of d34, sel_of d41] at ha
            subst ha
            rw [if_pos (by rfl)]
            go_simp
            refine hK.out _ _ ⟨?_, hO⟩
            simp only [fill_eq, List.take_succ_cons, List.take_zero, List.cons_append, List.nil_append, Act.put, List.setIfInBounds_toArray, List.set_cons_zero, List.set_cons_succ, sel_new, sel_dep d34, sel_dep d41]
            rfl
        · as_aux_lemma =>
            rintro l a wr ⟨ha, hO⟩ hl hd K' hK
            have d42 := hd 42 (by decide)
            have hx := X97.out; subst hx
            have hx := X98.out; subst hx
            simp only [fill_eq, List.take_succ_cons, List.take_zero, List.cons_append, List.nil_append, Act.put, List.setIfInBounds_toArray, List.set_cons_zero, List.set_cons_succ, sel_of d42] at ha
            subst ha
            rw [if_pos (by rfl)]
            go_simp
            refine hK.out _ _ ⟨?_, hO⟩
            simp only [fill_eq, List.take_succ_cons, List.take_zero, List.cons_append, List.nil_append, Act.put, List.setIfInBounds_toArray, List.set_cons_zero, List.set_cons_succ, sel_new, sel_dep d42]
            rfl
        · as_aux_lemma =>
            rintro l a wr ⟨ha, hO⟩ hl hd K' hK
            have d43 := hd 43 (by decide)
            have hx := X98.out; subst hx
            have hx := X99.out; subst hx
            simp only [fill_eq, List.take_succ_cons, List.take_zero, List.cons_append, List.nil_append, Act.put, List.setIfInBounds_toArray, List.set_cons_zero, List.set_cons_succ, sel_of d43] at ha
            subst ha
            have hc := HK9.out wr hO
            have p0 := hc.1.1
            have p1 := hc.1.2.1
            have p2 := hc.1.2.2.1
            have p3 := hc.1.2.2.2.1
            have p4 := hc.1.2.2.2.2.1
            have p5 := hc.1.2.2.2.2.2.1
            have p6 := hc.1.2.2.2.2.2.2.1
            have p7 := hc.1.2.2.2.2.2.2.2.1
            have p8 := hc.1.2.2.2.2.2.2.2.2.1
            have p9 := hc.1.2.2.2.2.2.2.2.2.2.1
            have p10 := hc.1.2.2.2.2.2.2.2.2.2.2.1
            have p11 := hc.1.2.2.2.2.2.2.2.2.2.2.2.1
            have p12 := hc.1.2.2.2.2.2.2.2.2.2.2.2.2.1
            have p13 := hc.1.2.2.2.2.2.2.2.2.2.2.2.2.2
            clear hc
            rw [if_pos (by rfl)]
            go_simp
            refine hK.out _ _ ⟨?_, hO⟩
            simp only [fill_eq, List.take_succ_cons, List.take_zero, List.cons_append, List.nil_append, Act.put, List.setIfInBounds_toArray, List.set_cons_zero, List.set_cons_succ, sel_new, sel_dep d43]
            rfl
        · as_aux_lemma =>
            rintro l a wr ⟨ha, hO⟩ hl hd K' hK
            have d43 := hd 43 (by decide)
            have hx := X98.out; subst hx
            have hx := X100.out; subst hx
            simp only [fill_eq, List.take_succ_cons, List.take_zero, List.cons_append, List.nil_append, Act.put, List.setIfInBounds_toArray, List.set_cons_zero, List.set_cons_succ, sel_of d43] at ha
            subst ha
            have hc := HK9.out wr hO
            have p0 := hc.1.1
            have p1 := hc.1.2.1
            have p2 := hc.1.2.2.1
            have p3 := hc.1.2.2.2.1
            have p4 := hc.1.2.2.2.2.1
            have p5 := hc.1.2.2.2.2.2.1
            have p6 := hc.1.2.2.2.2.2.2.1
            have p7 := hc.1.2.2.2.2.2.2.2.1
            have p8 := hc.1.2.2.2.2.2.2.2.2.1
            have p9 := hc.1.2.2.2.2.2.2.2.2.2.1
            have p10 := hc.1.2.2.2.2.2.2.2.2.2.2.1
            have p11 := hc.1.2.2.2.2.2.2.2.2.2.2.2.1
            have p12 := hc.1.2.2.2.2.2.2.2.2.2.2.2.2.1
            have p13 := hc.1.2.2.2.2.2.2.2.2.2.2.2.2.2
            clear hc
            rw [if_pos (by rfl)]
            go_simp
            refine hK.out _ _ ⟨?_, hO⟩
            simp only [fill_eq, List.take_succ_cons, List.take_zero, List.cons_append, List.nil_append, Act.put, List.setIfInBounds_toArray, List.set_cons_zero, List.set_cons_succ, sel_new, sel_dep d43]
            rfl
        · as_aux_lemma =>
            rintro l a wr ⟨ha, hO⟩ hl hd K' hK
            have d43 := hd 43 (by decide)
            have hx := X98.out; subst hx
            have hx := X101.out; subst hx
            simp only [fill_eq, List.take_succ_cons, List.take_zero, List.cons_append, List.nil_append, Act.put, List.setIfInBounds_toArray, List.set_cons_zero, List.set_cons_succ, sel_of d43] at ha
            subst ha
            have hc := HK9.out wr hO
            have p0 := hc.2.1.1
            have p1 := hc.2.1.2.1
            have p2 := hc.2.1.2.2.1
            have p3 := hc.2.1.2.2.2
            clear hc
            rw [if_pos (by rfl)]
            go_simp
            refine hK.out _ _ ⟨?_, hO⟩
            simp only [fill_eq, List.take_succ_cons, List.take_zero, List.cons_append, List.nil_append, Act.put, List.setIfInBounds_toArray, List.set_cons_zero, List.set_cons_succ, sel_new, sel_dep d43]
            rfl
        · as_aux_lemma =>
            rintro l a wr ⟨ha, hO⟩ hl hd K' hK
            have d43 := hd 43 (by decide)
            have hx := X98.out; subst hx
            have hx := X102.out; subst hx
            simp only [fill_eq, List.take_succ_cons, List.take_zero, List.cons_append, List.nil_append, Act.put, List.setIfInBounds_toArray, List.set_cons_zero, List.set_cons_succ, sel_of d43] at ha
            subst ha
            have hc := HK9.out wr hO
            have p0 := hc.2.2.1.1
            have p1 := hc.2.2.1.2.1
            have p2 := hc.2.2.1.2.2.1
            have p3 := hc.2.2.1.2.2.2
            clear hc
            rw [if_pos (by rfl)]
            go_simp
            refine hK.out _ _ ⟨?_, hO⟩
            simp only [fill_eq, List.take_succ_cons, List.take_zero, List.cons_append, List.nil_append, Act.put, List.setIfInBounds_toArray, List.set_cons_zero, List.set_cons_succ, sel_new, sel_dep d43]
            rfl
        · as_aux_lemma =>
            rintro l a wr ⟨ha, hO⟩ hl hd K' hK
            have d43 := hd 43 (by decide)
            have d45 := hd 45 (by decide)
            have d46 := hd 46 (by decide)
            have d47 := hd 47 (by decide)
            have hx := X98.out; subst hx
            have hx := X100.out; subst hx
            have hx := X101.out; subst hx
            have hx := X102.out; subst hx
            have hx := X103.out; subst hx
            simp only [fill_eq, List.take_succ_cons, List.take_zero, List.cons_append, List.nil_append, Act.put, List.setIfInBounds_toArray, List.set_cons_zero, List.set_cons_succ, sel_of d43, sel_of d45, sel_of d46, sel_of d47] at ha
            subst ha
            rw [if_pos (by rfl)]
            go_simp
            refine (held_inv (FD.out wr (HTW9.out wr hO)) hO).mono ?_
            rintro e w1 ⟨rfl, hO1, hOW⟩
            go_wp2_with fail
            refine hK.out _ _ ⟨?_, hO1⟩
            simp only [fill_eq, List.take_succ_cons, List.take_zero, List.cons_append, List.nil_append, Act.put, List.setIfInBounds_toArray, List.set_cons_zero, List.set_cons_succ, sel_new, sel_dep d43, sel_dep d45, sel_dep d46, sel_dep d47]
            rfl
        · as_aux_lemma =>
            rintro l a wr ⟨ha, hO⟩ hl hd K' hK
            have d43 := hd 43 (by decide)
            have hx := X98.out; subst hx
            have hx := X104.out; subst hx
            simp only [fill_eq, List.take_succ_cons, List.take_zero, List.cons_append, List.nil_append, Act.put, List.setIfInBounds_toArray, List.set_cons_zero, List.set_cons_succ, sel_of d43] at ha
            subst ha
            have hc := HK9.out wr hO
            have p0 := hc.2.2.1.1
            have p1 := hc.2.2.1.2.1
            have p2 := hc.2.2.1.2.2.1
            have p3 := hc.2.2.1.2.2.2
            clear hc
            rw [if_pos (by rfl)]
            go_simp
            refine hK.out _ _ ⟨?_, hO⟩
            simp only [fill_eq, List.take_succ_cons, List.take_zero, List.cons_append, List.nil_append, Act.put, List.setIfInBounds_toArray, List.set_cons_zero, List.set_cons_succ, sel_new, sel_dep d43]
            rfl
        · as_aux_lemma =>
            rintro l a wr ⟨ha, hO⟩ hl hd K' hK
            have d43 := hd 43 (by decide)
            have d44 := hd 44 (by decide)
            have d48 := hd 48 (by decide)
            have d49 := hd 49 (by decide)
            have hx := X98.out; subst hx
            have hx := X99.out; subst hx
            have hx := X103.out; subst hx
            have hx := X104.out; subst hx
            have hx := X105.out; subst hx
            simp only [fill_eq, List.take_succ_cons, List.take_zero, List.cons_append, List.nil_append, Act.put, List.setIfInBounds_toArray, List.set_cons_zero, List.set_cons_succ, sel_of d43, sel_of d44, sel_of d48, sel_of d49] at ha
            subst ha
            rw [if_pos (by rfl)]
            go_simp
            refine (held_inv (FDV.out wr (HTW9.out wr hO)) hO).mono ?_
            rintro e w1 ⟨rfl, hO1, hOW⟩
            go_wp2_with fail
            refine hK.out _ _ ⟨?_, hO1⟩
            simp only [fill_eq, List.take_succ_cons, List.take_zero, List.cons_append, List.nil_append, Act.put, List.setIfInBounds_toArray, List.set_cons_zero, List.set_cons_succ, sel_new, sel_dep d43, sel_dep d44, sel_dep d48, sel_dep d49]
            rfl
        · as_aux_lemma =>
            rintro l a wr ⟨ha, hO⟩ hl hd K' hK
            have d43 := hd 43 (by decide)
            have hx := X98.out; subst hx
            have hx := X106.out; subst hx
            simp only [fill_eq, List.take_succ_cons, List.take_zero, List.cons_append, List.nil_append, Act.put, List.setIfInBounds_toArray, List.set_cons_zero, List.set_cons_succ, sel_of d43] at ha
            subst ha
            have hc := HK9.out wr hO
            have p0 := hc.2.1.1
            have p1 := hc.2.1.2.1
            have p2 := hc.2.1.2.2.1
            have p3 := hc.2.1.2.2.2
            clear hc
            rw [if_pos (by rfl)]
            go_simp
            refine hK.out _ _ ⟨?_, hO⟩
            simp only [fill_eq, List.take_succ_cons, List.take_zero, List.cons_append, List.nil_append, Act.put, List.setIfInBounds_toArray, List.set_cons_zero, List.set_cons_succ, sel_new, sel_dep d43]
            rfl
        · as_aux_lemma =>
            rintro l a wr ⟨ha, hO⟩ hl hd K' hK
            have d43 := hd 43 (by decide)
            have d50 := hd 50 (by decide)
            have d51 := hd 51 (by decide)
            have hx := X98.out; subst hx
            have hx := X105.out; subst hx
            have hx := X106.out; subst hx
            have hx := X107.out; subst hx
            simp only [fill_eq, List.take_succ_cons, List.take_zero, List.cons_append, List.nil_append, Act.put, List.setIfInBounds_toArray, List.set_cons_zero, List.set_cons_succ, sel_of d43, sel_of d50, sel_of d51] at ha
            subst ha
            rw [if_pos (by rfl)]
            go_simp
            refine hK.out _ _ ⟨?_, hO⟩
            simp only [fill_eq, List.take_succ_cons, List.take_zero, List.cons_append, List.nil_append, Act.put, List.setIfInBounds_toArray, List.set_cons_zero, List.set_cons_succ, sel_new, sel_dep d43, sel_dep d50, sel_dep d51]
            rfl
        · as_aux_lemma =>
            rintro l a wr ⟨ha, hO⟩ hl hd K' hK
            have d43 := hd 43 (by decide)
            have d52 := hd 52 (by decide)
            have hx := X98.out; subst hx
            have hx := X107.out; subst hx
            have hx := X108.out; subst hx
            simp only [fill_eq, List.take_succ_cons, List.take_zero, List.cons_append, List.nil_append, Act.put, List.setIfInBounds_toArray, List.set_cons_zero, List.set_cons_succ, sel_of d43, sel_of d52] at ha
            subst ha
            rw [if_pos (by rfl)]
            go_simp
            refine hK.out _ _ ⟨?_, hO⟩
            simp only [fill_eq, List.take_succ_cons, List.take_zero, List.cons_append, List.nil_append, Act.put, List.setIfInBounds_toArray, List.set_cons_zero, List.set_cons_succ, sel_new, sel_dep d43, sel_dep d52]
            rfl
        · as_aux_lemma =>
            rintro l a wr ⟨ha, hO⟩ hl hd K' hK
            have d53 := hd 53 (by decide)
            have hx := X108.out; subst hx
            have hx := X109.out; subst hx
            simp only [fill_eq, List.take_succ_cons, List.take_zero, List.cons_append, List.nil_append, Act.put, List.setIfInBounds_toArray, List.set_cons_zero, List.set_cons_succ, sel_of d53] at ha
            subst ha
            rw [if_pos (by rfl)]
            go_simp
            refine hK.out _ _ ⟨?_, hO⟩
            simp only [fill_eq, List.take_succ_cons, List.take_zero, List.cons_append, List.nil_append, Act.put, List.setIfInBounds_toArray, List.set_cons_zero, List.set_cons_succ, sel_new, sel_dep d53]
            rfl
        · as_aux_lemma =>
            rintro l a wr ⟨ha, hO⟩ hl hd K' hK
            have d54 := hd 54 (by decide)
            have hx := X109.out; subst hx
            have hx := X110.out; subst hx
            simp only [fill_eq, List.take_succ_cons, List.take_zero, List.cons_append, List.nil_append, Act.put, List.setIfInBounds_toArray, List.set_cons_zero, List.set_cons_succ, sel_of d54] at ha
            subst ha
            have hc := HK9.out wr hO
            have p0 := hc.1.1
            have p1 := hc.1.2.1
            have p2 := hc.1.2.2.1
            have p3 := hc.1.2.2.2.1
            have p4 := hc.1.2.2.2.2.1
            have p5 := hc.1.2.2.2.2.2.1
            have p6 := hc.1.2.2.2.2.2.2.1
            have p7 := hc.1.2.2.2.2.2.2.2.1
            have p8 := hc.1.2.2.2.2.2.2.2.2.1
            have p9 := hc.1.2.2.2.2.2.2.2.2.2.1
            have p10 := hc.1.2.2.2.2.2.2.2.2.2.2.1
            have p11 := hc.1.2.2.2.2.2.2.2.2.2.2.2.1
            have p12 := hc.1.2.2.2.2.2.2.2.2.2.2.2.2.1
            have p13 := hc.1.2.2.2.2.2.2.2.2.2.2.2.2.2
            clear hc
            rw [if_pos (by rfl)]
            go_simp
            refine hK.out _ _ ⟨?_, hO⟩
            simp only [fill_eq, List.take_succ_cons, List.take_zero, List.cons_append, List.nil_append, Act.put, List.setIfInBounds_toArray, List.set_cons_zero, List.set_cons_succ, sel_new, sel_dep d54]
            rfl
        · as_aux_lemma =>
            rintro l a wr ⟨ha, hO⟩ hl hd K' hK
            have d54 := hd 54 (by decide)
            have hx := X109.out; subst hx
            have hx := X111.out; subst hx
            simp only [fill_eq, List.take_succ_cons, List.take_zero, List.cons_append, List.nil_append, Act.put, List.setIfInBounds_toArray, List.set_cons_zero, List.set_cons_succ, sel_of d54] at ha
            subst ha
            have hc := HK9.out wr hO
            have p0 := hc.2.1.1
            have p1 := hc.2.1.2.1
            have p2 := hc.2.1.2.2.1
            have p3 := hc.2.1.2.2.2
            clear hc
            rw [if_pos (by rfl)]
            go_simp
            refine hK.out _ _ ⟨?_, hO⟩
            simp only [fill_eq, List.take_succ_cons, List.take_zero, List.cons_append, List.nil_append, Act.put, List.setIfInBounds_toArray, List.set_cons_zero, List.set_cons_succ, sel_new, sel_dep d54]
            rfl
        · as_aux_lemma =>
            rintro l a wr ⟨ha, hO⟩ hl hd K' hK
            have d54 := hd 54 (by decide)
            have hx := X109.out; subst hx
            have hx := X112.out; subst hx
            simp only [fill_eq, List.take_succ_cons, List.take_zero, List.cons_append, List.nil_append, Act.put, List.setIfInBounds_toArray, List.set_cons_zero, List.set_cons_succ, sel_of d54] at ha
            subst ha
            have hc := HK9.out wr hO
            have p0 := hc.1.1
            have p1 := hc.1.2.1
            have p2 := hc.1.2.2.1
            have p3 := hc.1.2.2.2.1
            have p4 := hc.1.2.2.2.2.1
            have p5 := hc.1.2.2.2.2.2.1
            have p6 := hc.1.2.2.2.2.2.2.1
            have p7 := hc.1.2.2.2.2.2.2.2.1
            have p8 := hc.1.2.2.2.2.2.2.2.2.1
            have p9 := hc.1.2.2.2.2.2.2.2.2.2.1
            have p10 := hc.1.2.2.2.2.2.2.2.2.2.2.1
            have p11 := hc.1.2.2.2.2.2.2.2.2.2.2.2.1
            have p12 := hc.1.2.2.2.2.2.2.2.2.2.2.2.2.1
            have p13 := hc.1.2.2.2.2.2.2.2.2.2.2.2.2.2
            clear hc
            rw [if_pos (by rfl)]
            go_simp
            refine hK.out _ _ ⟨?_, hO⟩
            simp only [fill_eq, List.take_succ_cons, List.take_zero, List.cons_append, List.nil_append, Act.put, List.setIfInBounds_toArray, List.set_cons_zero, List.set_cons_succ, sel_new, sel_dep d54]
            rfl
        · as_aux_lemma =>
            rintro l a wr ⟨ha, hO⟩ hl hd K' hK
            have d54 := hd 54 (by decide)
            have hx := X109.out; subst hx
            have hx := X113.out; subst hx
            simp only [fill_eq, List.take_succ_cons, List.take_zero, List.cons_append, List.nil_append, Act.put, List.setIfInBounds_toArray, List.set_cons_zero, List.set_cons_succ, sel_of d54] at ha
            subst ha
            have hc := HK9.out wr hO
            have p0 := hc.2.1.1
            have p1 := hc.2.1.2.1
            have p2 := hc.2.1.2.2.1
            have p3 := hc.2.1.2.2.2
            clear hc
            rw [if_pos (by rfl)]
            go_simp
            refine hK.out _ _ ⟨?_, hO⟩
            simp only [fill_eq, List.take_succ_cons, List.take_zero, List.cons_append, List.nil_append, Act.put, List.setIfInBounds_toArray, List.set_cons_zero, List.set_cons_succ, sel_new, sel_dep d54]
            rfl
        · as_aux_lemma =>
            rintro l a wr ⟨ha, hO⟩ hl hd K' hK
            have d54 := hd 54 (by decide)
            have d57 := hd 57 (by decide)
            have d58 := hd 58 (by decide)
            have hx := X109.out; subst hx
            have hx := X112.out; subst hx
            have hx := X113.out; subst hx
            have hx := X114.out; subst hx
            simp only [fill_eq, List.take_succ_cons, List.take_zero, List.cons_append, List.nil_append, Act.put, List.setIfInBounds_toArray, List.set_cons_zero, List.set_cons_succ, sel_of d54, sel_of d57, sel_of d58] at ha
            subst ha
            rw [if_pos (by rfl)]
            go_simp
            refine (held_inv (FG.out wr (HTW9.out wr hO)) hO).mono ?_
            rintro e w1 ⟨rfl, hO1, hOW⟩
            go_wp2_with fail
            refine hK.out _ _ ⟨?_, hO1⟩
            simp only [fill_eq, List.take_succ_cons, List.take_zero, List.cons_append, List.nil_append, Act.put, List.setIfInBounds_toArray, List.set_cons_zero, List.set_cons_succ, sel_new, sel_dep d54, sel_dep d57, sel_dep d58]
            rfl
        · as_aux_lemma =>
            rintro l a wr ⟨ha, hO⟩ hl hd K' hK
            have d54 := hd 54 (by decide)
            have d55 := hd 55 (by decide)
            have d56 := hd 56 (by decide)
            have d59 := hd 59 (by decide)
            have hx := X109.out; subst hx
            have hx := X110.out; subst hx
            have hx := X111.out; subst hx
            have hx := X114.out; subst hx
            have hx := X115.out; subst hx
            simp only [fill_eq, List.take_succ_cons, List.take_zero, List.cons_append, List.nil_append, Act.put, List.setIfInBounds_toArray, List.set_cons_zero, List.set_cons_succ, sel_of d54, sel_of d55, sel_of d56, sel_of d59] at ha
            subst ha
            rw [if_pos (by rfl)]
            go_simp
            refine (held_inv (FUG.out wr (HTW9.out wr hO)) hO).mono ?_
            rintro e w1 ⟨rfl, hO1, hOW⟩
            go_wp2_with fail
            refine hK.out _ _ ⟨?_, hO1⟩
            simp only [fill_eq, List.take_succ_cons, List.take_zero, List.cons_append, List.nil_append, Act.put, List.setIfInBounds_toArray, List.set_cons_zero, List.set_cons_succ, sel_new, sel_dep d54, sel_dep d55, sel_dep d56, sel_dep d59]
            rfl
        · as_aux_lemma =>
            rintro l a wr ⟨ha, hO⟩ hl hd K' hK
            have d54 := hd 54 (by decide)
            have hx := X109.out; subst hx
            have hx := X116.out; subst hx
            simp only [fill_eq, List.take_succ_cons, List.take_zero, List.cons_append, List.nil_append, Act.put, List.setIfInBounds_toArray, List.set_cons_zero, List.set_cons_succ, sel_of d54] at ha
            subst ha
            rw [if_pos (by rfl)]
            go_simp
            refine hK.out _ _ ⟨?_, hO⟩
            simp only [fill_eq, List.take_succ_cons, List.take_zero, List.cons_append, List.nil_append, Act.put, List.setIfInBounds_toArray, List.set_cons_zero, List.set_cons_succ, sel_new, sel_dep d54]
            rfl
        · as_aux_lemma =>
            rintro l a wr ⟨ha, hO⟩ hl hd K' hK
            have d54 := hd 54 (by decide)
            have d60 := hd 60 (by decide)
            have d61 := hd 61 (by decide)
            have hx := X109.out; subst hx
            have hx := X115.out; subst hx
            have hx := X116.out; subst hx
            have hx := X117.out; subst hx
            simp only [fill_eq, List.take_succ_cons, List.take_zero, List.cons_append, List.nil_append, Act.put, List.setIfInBounds_toArray, List.set_cons_zero, List.set_cons_succ, sel_of d54, sel_of d60, sel_of d61] at ha
            subst ha
            rw [if_pos (by rfl)]
            go_simp
            refine hK.out _ _ ⟨?_, hO⟩
            simp only [fill_eq, List.take_succ_cons, List.take_zero, List.cons_append, List.nil_append, Act.put, List.setIfInBounds_toArray, List.set_cons_zero, List.set_cons_succ, sel_new, sel_dep d54, sel_dep d60, sel_dep d61]
            rfl
        · as_aux_lemma =>
            rintro l a wr ⟨ha, hO⟩ hl hd K' hK
            have d54 := hd 54 (by decide)
            have d62 := hd 62 (by decide)
            have hx := X109.out; subst hx
            have hx := X117.out; subst hx
            have hx := X118.out; subst hx
            simp only [fill_eq, List.take_succ_cons, List.take_zero, List.cons_append, List.nil_append, Act.put, List.setIfInBounds_toArray, List.set_cons_zero, List.set_cons_succ, sel_of d54, sel_of d62] at ha
            subst ha
            rw [if_pos (by rfl)]
            go_simp
            refine hK.out _ _ ⟨?_, hO⟩
            simp only [fill_eq, List.take_succ_cons, List.take_zero, List.cons_append, List.nil_append, Act.put, List.setIfInBounds_toArray, List.set_cons_zero, List.set_cons_succ, sel_new, sel_dep d54, sel_dep d62]
            rfl
        · as_aux_lemma =>
            rintro l a wr ⟨ha, hO⟩ hl hd K' hK
            have d63 := hd 63 (by decide)
            have hx := X118.out; subst hx
            have hx := X6.out; subst hx
            simp only [fill_eq, List.take_succ_cons, List.take_zero, List.cons_append, List.nil_append, Act.put, List.setIfInBounds_toArray, List.set_cons_zero, List.set_cons_succ, sel_of d63] at ha
            subst ha
            rw [if_pos (by rfl)]
            go_simp
            refine hK.out _ _ ⟨?_, hO⟩
            simp only [fill_eq, List.take_succ_cons, List.take_zero, List.cons_append, List.nil_append, Act.put, List.setIfInBounds_toArray, List.set_cons_zero, List.set_cons_succ, sel_new, sel_dep d63]
            rfl
        · rintro l a wd5 ⟨ha, hO⟩ hd
          simp only [fill_eq, List.take_succ_cons, List.take_zero, List.cons_append, List.nil_append, Act.put, List.setIfInBounds_toArray, List.set_cons_zero, List.set_cons_succ, sel_of (hd 0 (by decide)), sel_of (hd 1 (by decide)), sel_of (hd 2 (by decide)), sel_of (hd 3 (by decide)), sel_of (hd 4 (by decide)), sel_of (hd 5 (by decide)), sel_of (hd 6 (by decide)), sel_of (hd 7 (by decide)), sel_of (hd 8 (by decide)), sel_of (hd 9 (by decide)), sel_of (hd 10 (by decide)), sel_of (hd 11 (by decide)), sel_of (hd 12 (by decide)), sel_of (hd 13 (by decide)), sel_of (hd 14 (by decide)), sel_of (hd 15 (by decide)), sel_of (hd 16 (by decide)), sel_of (hd 17 (by decide)), sel_of (hd 18 (by decide)), sel_of (hd 19 (by decide)), sel_of (hd 20 (by decide)), sel_of (hd 21 (by decide)), sel_of (hd 22 (by decide)), sel_of (hd 23 (by decide)), sel_of (hd 24 (by decide)), sel_of (hd 25 (by decide)), sel_of (hd 26 (by decide)), sel_of (hd 27 (by decide)), sel_of (hd 28 (by decide)), sel_of (hd 29 (by decide)), sel_of (hd 30 (by decide)), sel_of (hd 31 (by decide)), sel_of (hd 32 (by decide)), sel_of (hd 33 (by decide)), sel_of (hd 34 (by decide)), sel_of (hd 35 (by decide)), sel_of (hd 36 (by decide)), sel_of (hd 37 (by decide)), sel_of (hd 38 (by decide)), sel_of (hd 39 (by decide)), sel_of (hd 40 (by decide)), sel_of (hd 41 (by decide)), sel_of (hd 42 (by decide)), sel_of (hd 43 (by decide)), sel_of (hd 44 (by decide)), sel_of (hd 45 (by decide)), sel_of (hd 46 (by decide)), sel_of (hd 47 (by decide)), sel_of (hd 48 (by decide)), sel_of (hd 49 (by decide)), sel_of (hd 50 (by decide)), sel_of (hd 51 (by decide)), sel_of (hd 52 (by decide)), sel_of (hd 53 (by decide)), sel_of (hd 54 (by decide)), sel_of (hd 55 (by decide)), sel_of (hd 56 (by decide)), sel_of (hd 57 (by decide)), sel_of (hd 58 (by decide)), sel_of (hd 59 (by decide)), sel_of (hd 60 (by decide)), sel_of (hd 61 (by decide)), sel_of (hd 62 (by decide)), sel_of (hd 63 (by decide)), sel_of (hd 64 (by decide))] at ha
          subst ha
          have hx := X6.out; subst hx
          go_wp2
          go_ret
          exact ⟨rfl, HO_wd4.out.trans hO (fun _ _ c => c)⟩

theorem door_met (os : Os) (args : Array Value) : laidMetH Tryd.prog [("sharecore/field.fields", Rows.laid_sharecore_field_fields)] ((World.doorLaid Tryd.prog 400 os).forCall (fun _ _ => 0) ⟨#[], args, []⟩).memory :=
  laidMetH_of_parts3 (fuel := 8) (laidMet_of_run' 8 (by kernel_rfl) (by kernel_rfl)) (by kernel_rfl) (by kernel_rfl)

set_option maxRecDepth 100000 in
theorem lifted (os : Os) (started : os.Started) (H : Type) (enc : TypeId × Value → H) :
    ReturnsInHanded {} Tryd.checked os 7 .any (fun w args => (Rows.montIsRingSpec.pre enc Tryd.prog Tryd.f7 [] false w args ∧ laidMetH Tryd.prog [("sharecore/field.fields", Rows.laid_sharecore_field_fields)] w) ∧ sizedMet enc Tryd.prog Tryd.f7 (OpenSpec.ofChange Rows.montIsRingSpec) false w args)
      (Rows.montIsRingSpec.post enc Tryd.prog Tryd.f7 false true false false) := by
  refine returnsInHanded_of_change_and (C := Tryd.checked) (X := fun w _ => laidMetH Tryd.prog [("sharecore/field.fields", Rows.laid_sharecore_field_fields)] w) (fun _ _ _ hh h => h.of_heap hh) own started (by kernel_rfl) Tryd.func7
    (ChangeSpec.witness_shaped (enc := enc) (C := Tryd.checked) (os := os) (X := fun w _ => laidMetH Tryd.prog [("sharecore/field.fields", Rows.laid_sharecore_field_fields)] w) false (World.doorLaid Tryd.prog 400 os) #[.bool false, .agg #[.int .u64 0, .int .u64 0, .int .u64 0, .int .u64 0, .int .u64 0, .int .u64 0, .int .u64 0, .int .u64 0], .agg #[.int .u64 0, .int .u64 0, .int .u64 0, .int .u64 0]] 8 rfl (World.shaped_of_RefB (by kernel_rfl) (by kernel_rfl)) (by kernel_rfl) (by kernel_rfl) (by kernel_rfl) (door_met os _)) ?_
  intro W base args ds gs before hval0 hW _ _ hL _
  have hval : ∀ (j : Nat) t v, Tryd.f7.params[j]? = some t → args[j]? = some v → Value.okWide Tryd.prog W .any base t v := hval0
  have hW' := hW
  obtain ⟨p, q, hA0, hV, rfl, hfz, hnd⟩ := hW
  have hA : DataW.TrodAll enc Tryd.prog W 0 (fun _ => true) true Tryd.f7.params.toList args.toList ds p := hA0
  rw [Tryd.params7] at hA hval
  obtain ⟨v0, vs0, d0, ds0, p0, q0, hargs, rfl, rfl, h0, r0⟩ := trodAll_cons hA
  obtain ⟨v1, vs1, d1, ds1, p1, q1, rfl, rfl, rfl, h1, r1⟩ := trodAll_cons r0
  obtain ⟨v2, vs2, d2, ds2, p2, q2, rfl, rfl, rfl, h2, r2⟩ := trodAll_cons r1
  obtain ⟨rfl, rfl, rfl⟩ := trodAll_nil r2
  obtain rfl : args = #[v0, v1, v2] := by cases args; simp_all
  obtain ⟨rfl, rfl⟩ := trodVars_none hV
  obtain ⟨i0, rfl, rfl, rfl⟩ := open_bool Tryd.underlying4 (hval 0 4 v0 rfl rfl) h0
  have w0 := trivial
  have k1 := h1
  have lt1 : ∀ x ∈ p1, x.block < W.heap.size := by obtain ⟨m, hm⟩ := k1; exact DataW.trod_lt m _ _ _ hm
  obtain ⟨n1, o1, w1, rfl⟩ := open_vec2 (hval 1 42 v1 rfl rfl) h1
  have k2 := h2
  have lt2 : ∀ x ∈ p2, x.block < W.heap.size := by obtain ⟨m, hm⟩ := k2; exact DataW.trod_lt m _ _ _ hm
  obtain ⟨n2, w2, rfl⟩ := open_vec (hval 2 23 v2 rfl rfl) h2
  have hT := tab_of_laid hL
  clear hA0 hval0
  refine (walk i0 n1 o1 n2 W w0 w1 w2 hT).mono fun e W' ⟨he, hoff⟩ => ?_
  have bel : Below W.heap.size W W' := hoff.below (Nat.le_refl _) (fun _ _ c => c)
  subst he
  exact ⟨_, rfl, _, _, _, [], _, [], hW', trodAll_mk1 (shut_bool Tryd.underlying4 _), (trodAll_cons_mk (shut_bool Tryd.underlying4 _) (trodAll_cons_mk (Below.trod laidOut (by kernel_rfl) (of_decide_eq_true (by kernel_rfl)) k1 bel lt1) (trodAll_cons_mk (Below.trod laidOut (by kernel_rfl) (of_decide_eq_true (by kernel_rfl)) k2 bel lt2) trodAll_mk0))), rfl, bel.frame _, fun h => by cases h⟩

theorem over : Rows.montIsRingRow.holds Tryd.pinned (OpenSpec.ofChange Rows.montIsRingSpec) :=
  OpenClaim.holds_of_wide 7 Tryd.f7 rfl rfl rfl rfl rfl rfl rfl ⟨rfl, rfl, rfl, rfl, rfl⟩ rfl rfl rfl rfl rfl (by kernel_rfl) Tryd.func7 (by kernel_rfl)
    (of_decide_eq_true (by kernel_rfl)) (by unfold Func.isWrapper; first | (rw [if_pos (by decide +kernel)]; kernel_rfl) | (rw [if_neg (by decide +kernel)]; exact ⟨rfl, rfl⟩))
    (fun os started H enc _ => lifted os started H enc)

theorem proved : Rows.MontIsRingCardSaid :=
  Claim7.holds_tied_plain_at .later [] [.data] true (true, "4c6eef73345a3410bd4bab3dc88cb1ebf74aad4678ff4b3ba42a5157f493b774") false
    over (fun _ h => by cases h) (by kernel_rfl) (fun _ h => by cases h) montIsRing_row_tie rfl ⟨rfl, rfl⟩ (by kernel_rfl) rfl
    (fun f fn hf hfn => by
      obtain rfl : f = 7 := Option.some.inj ((show Tryd.prog.funcNamed "sharecore/sharecorelaw05.MontIsRing" = some 7 by kernel_rfl).symm.trans hf) |>.symm
      obtain rfl : fn = Tryd.f7 := (Option.some.inj (Tryd.func7.symm.trans hfn)).symm
      exact ⟨by kernel_rfl, fun j t ht => by
        rw [Tryd.params7] at ht
        have hm : t ∈ [4, 42, 23] := by simpa using Array.mem_of_getElem? ht
        have hall : ([4, 42, 23].all fun u => !Tryd.prog.wantsStandIn u) = true := by kernel_rfl
        exact (show Tryd.prog.wantsStandIn t = false by simpa using List.all_eq_true.1 hall t hm)⟩)
    (by kernel_rfl)
#print axioms proved
end Go.Proofs.YtpekmoegmdfmpaaDoor.montIsRing
