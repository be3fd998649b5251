/-
  For every field and number, the examples of the chapter hold, and a number that is not a multiple of the modulus has an inverse, its power with the exponent p - 2: the statement of P4.1. No condition.
-/
import Derived.Test.YtiappkokbdhgeaaDoorRows
import Derived.Test.YtiappkokbdhgeaaDoorTie
import Derived.Test.YtiappkokbdhgeaaDoorCards
import Derived.LaidMore
import Derived.LaidHandle
import Derived.SevenTiedAt
import Derived.Stop.Joined
import Derived.JoinedOf
import Derived.Test.YtiappkokbdhgeaaDoorLimbOpen
import Derived.Test.YtiappkokbdhgeaaDoorFieldTab
import Derived.Test.YtiappkokbdhgeaaDoorFieldHeld
import Derived.Test.YtiappkokbdhgeaaDoorFieldOps
import Derived.Test.YtiappkokbdhgeaaDoorFieldAll
import Derived.Test.YtiappkokbdhgeaaDoorPrimes
import Derived.Test.YtiappkokbdhgeaaDoorRegs
import Derived.WalkKit
import Derived.ProofKit
import Derived.OpenShut
import Derived.ShutString
import Derived.ChangeOld
import Derived.Below
namespace Go.Proofs.YtiappkokbdhgeaaDoor.fieldFermat
open Go.ChangeShapes Go.WideShapes Go.ChangeAt Go.RowKit
set_option linter.unusedVariables false

theorem own : ownKnob Tryd.prog.godebug = none := by kernel_rfl
theorem laidOut : laidOutB Tryd.prog = true := by kernel_rfl

theorem fermat_at (n : Int) (hn : n = 1 ∨ n = 2) : ∃ p, p < R256 ∧ 1 < p ∧ modN n = p ∧ ∀ x, x % p ≠ 0 → x ^ (p - 1) % p = 1 := by
  rcases hn with rfl | rfl
  · exact ⟨P1, p1_lt, p1_one, rfl, fermat_p1⟩
  · exact ⟨P2, p2_lt, p2_one, rfl, fermat_p2⟩
/-- What the last line of the law finds. -/
theorem fermat_cases {p x : Nat} (hp : p < R256) (h1 : 1 < p) (hf : ∀ x, x % p ≠ 0 → x ^ (p - 1) % p = 1) (hx : x < p) :
    ∃ z : Bool, (∀ W, (Op.equalIn 10000 23 (V x) (.agg #[.int .u64 0, .int .u64 0, .int .u64 0, .int .u64 0])).run Tryd.prog W = .ok z W) ∧
      (z = true → x * (x ^ (p - 2) % p) % p = x) ∧ (z = false → ∀ W, (Op.equalIn 10000 23 (V (x * (x ^ (p - 2) % p) % p)) (.agg #[.int .u64 1, .int .u64 0, .int .u64 0, .int .u64 0])).run Tryd.prog W = .ok true W) := by
  have e : ∀ W, (Op.equalIn 10000 23 (V x) (.agg #[.int .u64 0, .int .u64 0, .int .u64 0, .int .u64 0])).run Tryd.prog W = .ok (eqN x 0) W := fun W => by
    have h := equalIn_num (show x < R256 by omega) (show 0 < R256 by decide) W
    rw [lit_small 0 (by decide)] at h
    exact h
  refine ⟨eqN x 0, e, fun h => ?_, fun h => ?_⟩
  · have : x = 0 := by simpa [eqN] using h
    subst this
    simp
  · have : x ≠ 0 := by simpa [eqN] using h
    rw [inverse_of h1 hf x (by rw [Nat.mod_eq_of_lt hx]; exact this)]
    intro W
    have h := equalIn_same 1 W
    rw [lit_small 1 (by decide)] at h
    exact h
set_option maxHeartbeats 4000000 in
theorem walk (i0 : Bool) (n1 : Nat) (w : World) (w0 : True) (w1 : n1 < R256) (hT : TabAt w) :
    Calls Tryd.prog 8 #[.bool i0, V n1] w fun e w' => e = .returned (.bool true) ∧ Off (fun _ => False) w w' := by
  cases i0
  · obtain ⟨p, hp, h1, hm, hf⟩ := fermat_at 1 (by omega)
    have F1 := Lib.hid (fun W hT => fget_in 1 p hp h1 hm W hT)
    have FM := Lib.hid (fun W (_ : TabAt W) => by have h := mod_modulus 1 W; rw [hm] at h; exact h)
    have qFD := fun W => mod_mod p n1 hp h1 w1 W
    obtain ⟨x, hx⟩ : ∃ x, x = n1 % p := ⟨_, rfl⟩
    have hxp : x < p := by rw [hx]; exact Nat.mod_lt _ (by omega)
    rw [← hx] at qFD
    have qFI := fun W (_ : TabAt W) => mod_inverse p x hp h1 hxp W
    have qFU := fun W (_ : TabAt W) => mod_mul p x (x ^ (p - 2) % p) hp h1 hxp (Nat.lt_trans (Nat.mod_lt _ (by omega)) hp) W
    have hy := fermat_cases hp h1 hf hxp
    obtain ⟨q, hq⟩ : ∃ q, q = x ^ (p - 2) % p := ⟨_, rfl⟩
    rw [← hq] at qFI qFU hy
    obtain ⟨y, hy2⟩ : ∃ y, y = x * q % p := ⟨_, rfl⟩
    rw [← hy2] at qFU hy
    have FD := Lib.hid qFD
    have FI := Lib.hid qFI
    have FU := Lib.hid qFU
    have HY := Lib.hid hy
    obtain ⟨i, hi⟩ : ∃ i, i = negInv (wd p 0) := ⟨_, rfl⟩
    obtain ⟨s, hs⟩ : ∃ s, s = radV p 256 * radV p 256 % p := ⟨_, rfl⟩
    obtain ⟨r, hr⟩ : ∃ r, r = radV p 256 := ⟨_, rfl⟩
    rw [← hi, ← hs, ← hr] at F1
    have e1 := equalIn_same
    clear qFD qFI qFU hp h1 hm hf hx hxp hy hq hy2 hi hs hr w0 w1
    go_enter Tryd.func8, Tryd.ntmps8
    go_wp2_with fail
    refine (F1.out _ (hT.off ((Off.refl _ w).alloc _))).mono ?_
    rintro e u1 ⟨rfl, hO1⟩
    obtain ⟨W0, hW0⟩ : ∃ W0, W0 = u1.alloc (.cells #[.int .i64 1, .int .u64 (wd p 0 : Int), .int .u64 (wd p 1 : Int), .int .u64 (wd p 2 : Int), .int .u64 (wd p 3 : Int), .int .u64 (i : Int), .int .u64 (wd r 0 : Int), .int .u64 (wd r 1 : Int), .int .u64 (wd r 2 : Int), .int .u64 (wd r 3 : Int), .int .u64 (wd s 0 : Int), .int .u64 (wd s 1 : Int), .int .u64 (wd s 2 : Int), .int .u64 (wd s 3 : Int)] 26) := ⟨_, rfl⟩
    have hA : NumAt W0.drew w.heap.size n1 := by rw [hW0]; exact heap_old' (hO1.heap (heap_new' rfl _) (fun c => c)) _
    have hF := fv_cells (show W0.drew.heap[u1.heap.size]? = some (.cells _ _ (0, 0)) by rw [hW0]; exact heap_new' rfl _)
    have hO : Off (fun _ => False) w W0.drew := by rw [hW0]; exact ((((Off.refl _ w).alloc _).trans hO1 (fun _ _ c => c)).alloc _).drew
    have hS := Lib.hid (And.intro (And.intro hF.2.1 (And.intro hF.2.2.1 (And.intro hF.2.2.2.1 hF.2.2.2.2.1))) (And.intro hA.four hO))
    rw [hW0] at hS
    have HT := Lib.hid hT
    clear hA hF hO hW0 hO1 hT
    go_wp2_with fail
    have hS := hS.out
    go_region_held3 (fun w' => (w'.cell? ⟨u1.heap.size, 1, none⟩ = some (.int .u64 (wd p 0 : Int)) ∧ w'.cell? ⟨u1.heap.size, 2, none⟩ = some (.int .u64 (wd p 1 : Int)) ∧ w'.cell? ⟨u1.heap.size, 3, none⟩ = some (.int .u64 (wd p 2 : Int)) ∧ w'.cell? ⟨u1.heap.size, 4, none⟩ = some (.int .u64 (wd p 3 : Int))) ∧ (w'.cell? ⟨w.heap.size, 0, none⟩ = some (.int .u64 (wd n1 0 : Int)) ∧ w'.cell? ⟨w.heap.size, 1, none⟩ = some (.int .u64 (wd n1 1 : Int)) ∧ w'.cell? ⟨w.heap.size, 2, none⟩ = some (.int .u64 (wd n1 2 : Int)) ∧ w'.cell? ⟨w.heap.size, 3, none⟩ = some (.int .u64 (wd n1 3 : Int))) ∧ Off (fun _ => False) w w')
      (first | assumption | go_keep)
      ((go_at_call 17; refine (held_fld HT.out FM.out (by assumption)).mono ?_; rintro e w' ⟨rfl, hS⟩))
    obtain ⟨⟨p0, p1, p2, p3⟩, ⟨a0, a1, a2, a3⟩, hO5⟩ := hS
    have HP := Lib.hid (And.intro p0 (And.intro p1 (And.intro p2 p3)))
    have HO5 := Lib.hid hO5
    have hl1 : u1.heap.size < w'.heap.size := World.block_lt_of_cell? _ _ p0
    clear hO5
    go_wp2_with fail
    refine (FD.out _).mono ?_
    rintro e u2 ⟨rfl, hO2⟩
    obtain ⟨W0, hW0⟩ : ∃ W0, W0 = u2.alloc (.cells #[.int .u64 (wd x 0 : Int), .int .u64 (wd x 1 : Int), .int .u64 (wd x 2 : Int), .int .u64 (wd x 3 : Int)] 23) := ⟨_, rfl⟩
    have HX : Hid (NumAt W0 u2.heap.size x) := Lib.hid (by rw [hW0]; exact heap_new' rfl _)
    have hO : Off (fun _ => False) w' W0 := by rw [hW0]; exact hO2.alloc _
    have HO8 := Lib.hid (HO5.out.trans hO (fun _ _ c => c))
    have HK : Hid (∀ W, Off (fun _ => False) W0 W → (W.cell? ⟨u1.heap.size, 1, none⟩ = some (.int .u64 (wd p 0 : Int)) ∧ W.cell? ⟨u1.heap.size, 2, none⟩ = some (.int .u64 (wd p 1 : Int)) ∧ W.cell? ⟨u1.heap.size, 3, none⟩ = some (.int .u64 (wd p 2 : Int)) ∧ W.cell? ⟨u1.heap.size, 4, none⟩ = some (.int .u64 (wd p 3 : Int))) ∧ (W.cell? ⟨u2.heap.size, 0, none⟩ = some (.int .u64 (wd x 0 : Int)) ∧ W.cell? ⟨u2.heap.size, 1, none⟩ = some (.int .u64 (wd x 1 : Int)) ∧ W.cell? ⟨u2.heap.size, 2, none⟩ = some (.int .u64 (wd x 2 : Int)) ∧ W.cell? ⟨u2.heap.size, 3, none⟩ = some (.int .u64 (wd x 3 : Int))) ∧ Off (fun _ => False) W0 W) := Lib.hid (fun W h => ⟨⟨(hO.trans h (fun _ _ c => c)).cell HP.out.1 (fun c => c), (hO.trans h (fun _ _ c => c)).cell HP.out.2.1 (fun c => c), (hO.trans h (fun _ _ c => c)).cell HP.out.2.2.1 (fun c => c), (hO.trans h (fun _ _ c => c)).cell HP.out.2.2.2 (fun c => c)⟩, Four.off HX.out.four h, h⟩)
    have hsz : u2.heap.size < W0.heap.size := heap_lt HX.out
    have HW0 := Lib.hid hW0
    have HT0 := Lib.hid (HT.out.off HO8.out)
    clear hO hW0 hO2 p0 p1 p2 p3 a0 a1 a2 a3 HP HO5
    go_upto_region 8 with fail
    rw [← HW0.out]
    go_cut [9] from 29 to 36 (fun s9 wx => ∃ b, s9 = .pointer (some ⟨b, 0, none⟩) ∧ NumAt wx b y ∧ Off (fun _ => False) W0 wx)
    case first =>
      have hS := HK.out W0.drew (Off.refl _ W0).drew
      have hO9 := hS.2.2
      have hO10 := Off.refl (fun _ => False) W0
      go_region_held3 (fun w' => (w'.cell? ⟨u1.heap.size, 1, none⟩ = some (.int .u64 (wd p 0 : Int)) ∧ w'.cell? ⟨u1.heap.size, 2, none⟩ = some (.int .u64 (wd p 1 : Int)) ∧ w'.cell? ⟨u1.heap.size, 3, none⟩ = some (.int .u64 (wd p 2 : Int)) ∧ w'.cell? ⟨u1.heap.size, 4, none⟩ = some (.int .u64 (wd p 3 : Int))) ∧ (w'.cell? ⟨u2.heap.size, 0, none⟩ = some (.int .u64 (wd x 0 : Int)) ∧ w'.cell? ⟨u2.heap.size, 1, none⟩ = some (.int .u64 (wd x 1 : Int)) ∧ w'.cell? ⟨u2.heap.size, 2, none⟩ = some (.int .u64 (wd x 2 : Int)) ∧ w'.cell? ⟨u2.heap.size, 3, none⟩ = some (.int .u64 (wd x 3 : Int))) ∧ Off (fun _ => False) W0 w')
        ((refine HK.out _ ?_; repeat' (first | with_reducible assumption | with_reducible refine Off.drew ?_ | with_reducible refine Off.alloc ?_ _ | with_reducible refine Off.store ?_ (by omega) _ _)))
        (first
          | (go_at_call 23; refine (held_w HT0.out FI.out (by repeat' (first | with_reducible assumption | with_reducible refine Off.drew ?_ | with_reducible refine Off.alloc ?_ _ | with_reducible refine Off.store ?_ (by omega) _ _))).mono ?_; rintro e u3 ⟨rfl, hO9, hOW⟩; (try (have hN : PartAt u3 W0.heap.size 0 0 := hOW.heap (heap_new' rfl _) (fun c => c))); have hS := HK.out _ hO9; have z1 := hO9.size)
          | (go_at_call 22; refine (held_w HT0.out FU.out (by repeat' (first | with_reducible assumption | with_reducible refine Off.drew ?_ | with_reducible refine Off.alloc ?_ _ | with_reducible refine Off.store ?_ (by omega) _ _))).mono ?_; rintro e u4 ⟨rfl, hO9, hOW⟩; (first | (have HZ : Hid (PartAt u4 W0.heap.size 0 0) := Lib.hid (hOW.heap hN (fun c => c)); have hM := HZ.out.four; obtain ⟨⟨m0, m1, m2, m3⟩, fz⟩ := hM) | (have HZ : Hid (PartAt u4 u3.heap.size 0 0) := Lib.hid (hOW.heap (heap_new' rfl _) (fun c => c)); have hM := HZ.out.four; obtain ⟨⟨m0, m1, m2, m3⟩, fz⟩ := hM) | skip); have hS := HK.out _ hO9; have z1 := hO9.size))
      all_goals (go_wp2_with fail; go_meet)
      all_goals first
        | exact ⟨_, rfl, store4 HZ.out, off4 hO9 (by omega) _ _ _ _⟩
        | exact ⟨_, rfl, heap_new' rfl _, hO9.alloc _⟩
    case rest =>
      obtain ⟨b, rfl, hY, hOc⟩ := hcut
      have HXc := Lib.hid (show NumAt wc u2.heap.size x from hOc.heap HX.out (fun c => c))
      have HYc := Lib.hid hY
      have HOc := Lib.hid (HO8.out.trans hOc (fun _ _ c => c))
      have HA := Lib.hid (alive_any wc (HT0.out.off hOc))
      clear hY hOc hsz HK HX FI FU FM FD F1 HW0 e1 hl1
      go_wp2_with fail
      refine HA.out.mono ?_
      rintro e u5 ⟨rfl, hO5⟩
      have hX5 : NumAt u5 u2.heap.size x := hO5.heap HXc.out (fun c => c)
      have hY5 : NumAt u5 b y := hO5.heap HYc.out (fun c => c)
      have HO6 := Lib.hid (HOc.out.trans hO5 (fun _ _ c => c))
      have lx := hX5.lt
      have ly := hY5.lt
      obtain ⟨x0, x1, x2, x3⟩ := hX5.four
      obtain ⟨y0, y1, y2, y3⟩ := hY5.four
      obtain ⟨z, hz, hz1, hz2⟩ := HY.out
      clear hX5 hY5 hO5 HA HXc HYc HOc HY
      cases z with
      | true =>
        obtain rfl := hz1 rfl
        have e1 := equalIn_same y
        clear hz1 hz2
        go_wp2
        go_ret
        exact ⟨rfl, HO6.out⟩
      | false =>
        have e2 := hz2 rfl
        clear hz1 hz2
        go_wp2
        go_ret
        exact ⟨rfl, HO6.out⟩
  · obtain ⟨p, hp, h1, hm, hf⟩ := fermat_at 2 (by omega)
    have F1 := Lib.hid (fun W hT => fget_in 2 p hp h1 hm W hT)
    have FM := Lib.hid (fun W (_ : TabAt W) => by have h := mod_modulus 2 W; rw [hm] at h; exact h)
    have qFD := fun W => mod_mod p n1 hp h1 w1 W
    obtain ⟨x, hx⟩ : ∃ x, x = n1 % p := ⟨_, rfl⟩
    have hxp : x < p := by rw [hx]; exact Nat.mod_lt _ (by omega)
    rw [← hx] at qFD
    have qFI := fun W (_ : TabAt W) => mod_inverse p x hp h1 hxp W
    have qFU := fun W (_ : TabAt W) => mod_mul p x (x ^ (p - 2) % p) hp h1 hxp (Nat.lt_trans (Nat.mod_lt _ (by omega)) hp) W
    have hy := fermat_cases hp h1 hf hxp
    obtain ⟨q, hq⟩ : ∃ q, q = x ^ (p - 2) % p := ⟨_, rfl⟩
    rw [← hq] at qFI qFU hy
    obtain ⟨y, hy2⟩ : ∃ y, y = x * q % p := ⟨_, rfl⟩
    rw [← hy2] at qFU hy
    have FD := Lib.hid qFD
    have FI := Lib.hid qFI
    have FU := Lib.hid qFU
    have HY := Lib.hid hy
    obtain ⟨i, hi⟩ : ∃ i, i = negInv (wd p 0) := ⟨_, rfl⟩
    obtain ⟨s, hs⟩ : ∃ s, s = radV p 256 * radV p 256 % p := ⟨_, rfl⟩
    obtain ⟨r, hr⟩ : ∃ r, r = radV p 256 := ⟨_, rfl⟩
    rw [← hi, ← hs, ← hr] at F1
    have e1 := equalIn_same
    clear qFD qFI qFU hp h1 hm hf hx hxp hy hq hy2 hi hs hr w0 w1
    go_enter Tryd.func8, Tryd.ntmps8
    go_wp2_with fail
    refine (F1.out _ (hT.off ((Off.refl _ w).alloc _))).mono ?_
    rintro e u1 ⟨rfl, hO1⟩
    obtain ⟨W0, hW0⟩ : ∃ W0, W0 = u1.alloc (.cells #[.int .i64 2, .int .u64 (wd p 0 : Int), .int .u64 (wd p 1 : Int), .int .u64 (wd p 2 : Int), .int .u64 (wd p 3 : Int), .int .u64 (i : Int), .int .u64 (wd r 0 : Int), .int .u64 (wd r 1 : Int), .int .u64 (wd r 2 : Int), .int .u64 (wd r 3 : Int), .int .u64 (wd s 0 : Int), .int .u64 (wd s 1 : Int), .int .u64 (wd s 2 : Int), .int .u64 (wd s 3 : Int)] 26) := ⟨_, rfl⟩
    have hA : NumAt W0.drew w.heap.size n1 := by rw [hW0]; exact heap_old' (hO1.heap (heap_new' rfl _) (fun c => c)) _
    have hF := fv_cells (show W0.drew.heap[u1.heap.size]? = some (.cells _ _ (0, 0)) by rw [hW0]; exact heap_new' rfl _)
    have hO : Off (fun _ => False) w W0.drew := by rw [hW0]; exact ((((Off.refl _ w).alloc _).trans hO1 (fun _ _ c => c)).alloc _).drew
    have hS := Lib.hid (And.intro (And.intro hF.2.1 (And.intro hF.2.2.1 (And.intro hF.2.2.2.1 hF.2.2.2.2.1))) (And.intro hA.four hO))
    rw [hW0] at hS
    have HT := Lib.hid hT
    clear hA hF hO hW0 hO1 hT
    go_wp2_with fail
    have hS := hS.out
    go_region_held3 (fun w' => (w'.cell? ⟨u1.heap.size, 1, none⟩ = some (.int .u64 (wd p 0 : Int)) ∧ w'.cell? ⟨u1.heap.size, 2, none⟩ = some (.int .u64 (wd p 1 : Int)) ∧ w'.cell? ⟨u1.heap.size, 3, none⟩ = some (.int .u64 (wd p 2 : Int)) ∧ w'.cell? ⟨u1.heap.size, 4, none⟩ = some (.int .u64 (wd p 3 : Int))) ∧ (w'.cell? ⟨w.heap.size, 0, none⟩ = some (.int .u64 (wd n1 0 : Int)) ∧ w'.cell? ⟨w.heap.size, 1, none⟩ = some (.int .u64 (wd n1 1 : Int)) ∧ w'.cell? ⟨w.heap.size, 2, none⟩ = some (.int .u64 (wd n1 2 : Int)) ∧ w'.cell? ⟨w.heap.size, 3, none⟩ = some (.int .u64 (wd n1 3 : Int))) ∧ Off (fun _ => False) w w')
      (first | assumption | go_keep)
      ((go_at_call 17; refine (held_fld HT.out FM.out (by assumption)).mono ?_; rintro e w' ⟨rfl, hS⟩))
    obtain ⟨⟨p0, p1, p2, p3⟩, ⟨a0, a1, a2, a3⟩, hO5⟩ := hS
    have HP := Lib.hid (And.intro p0 (And.intro p1 (And.intro p2 p3)))
    have HO5 := Lib.hid hO5
    have hl1 : u1.heap.size < w'.heap.size := World.block_lt_of_cell? _ _ p0
    clear hO5
    go_wp2_with fail
    refine (FD.out _).mono ?_
    rintro e u2 ⟨rfl, hO2⟩
    obtain ⟨W0, hW0⟩ : ∃ W0, W0 = u2.alloc (.cells #[.int .u64 (wd x 0 : Int), .int .u64 (wd x 1 : Int), .int .u64 (wd x 2 : Int), .int .u64 (wd x 3 : Int)] 23) := ⟨_, rfl⟩
    have HX : Hid (NumAt W0 u2.heap.size x) := Lib.hid (by rw [hW0]; exact heap_new' rfl _)
    have hO : Off (fun _ => False) w' W0 := by rw [hW0]; exact hO2.alloc _
    have HO8 := Lib.hid (HO5.out.trans hO (fun _ _ c => c))
    have HK : Hid (∀ W, Off (fun _ => False) W0 W → (W.cell? ⟨u1.heap.size, 1, none⟩ = some (.int .u64 (wd p 0 : Int)) ∧ W.cell? ⟨u1.heap.size, 2, none⟩ = some (.int .u64 (wd p 1 : Int)) ∧ W.cell? ⟨u1.heap.size, 3, none⟩ = some (.int .u64 (wd p 2 : Int)) ∧ W.cell? ⟨u1.heap.size, 4, none⟩ = some (.int .u64 (wd p 3 : Int))) ∧ (W.cell? ⟨u2.heap.size, 0, none⟩ = some (.int .u64 (wd x 0 : Int)) ∧ W.cell? ⟨u2.heap.size, 1, none⟩ = some (.int .u64 (wd x 1 : Int)) ∧ W.cell? ⟨u2.heap.size, 2, none⟩ = some (.int .u64 (wd x 2 : Int)) ∧ W.cell? ⟨u2.heap.size, 3, none⟩ = some (.int .u64 (wd x 3 : Int))) ∧ Off (fun _ => False) W0 W) := Lib.hid (fun W h => ⟨⟨(hO.trans h (fun _ _ c => c)).cell HP.out.1 (fun c => c), (hO.trans h (fun _ _ c => c)).cell HP.out.2.1 (fun c => c), (hO.trans h (fun _ _ c => c)).cell HP.out.2.2.1 (fun c => c), (hO.trans h (fun _ _ c => c)).cell HP.out.2.2.2 (fun c => c)⟩, Four.off HX.out.four h, h⟩)
    have hsz : u2.heap.size < W0.heap.size := heap_lt HX.out
    have HW0 := Lib.hid hW0
    have HT0 := Lib.hid (HT.out.off HO8.out)
    clear hO hW0 hO2 p0 p1 p2 p3 a0 a1 a2 a3 HP HO5
    go_upto_region 8 with fail
    rw [← HW0.out]
    go_cut [9] from 29 to 36 (fun s9 wx => ∃ b, s9 = .pointer (some ⟨b, 0, none⟩) ∧ NumAt wx b y ∧ Off (fun _ => False) W0 wx)
    case first =>
      have hS := HK.out W0.drew (Off.refl _ W0).drew
      have hO9 := hS.2.2
      have hO10 := Off.refl (fun _ => False) W0
      go_region_held3 (fun w' => (w'.cell? ⟨u1.heap.size, 1, none⟩ = some (.int .u64 (wd p 0 : Int)) ∧ w'.cell? ⟨u1.heap.size, 2, none⟩ = some (.int .u64 (wd p 1 : Int)) ∧ w'.cell? ⟨u1.heap.size, 3, none⟩ = some (.int .u64 (wd p 2 : Int)) ∧ w'.cell? ⟨u1.heap.size, 4, none⟩ = some (.int .u64 (wd p 3 : Int))) ∧ (w'.cell? ⟨u2.heap.size, 0, none⟩ = some (.int .u64 (wd x 0 : Int)) ∧ w'.cell? ⟨u2.heap.size, 1, none⟩ = some (.int .u64 (wd x 1 : Int)) ∧ w'.cell? ⟨u2.heap.size, 2, none⟩ = some (.int .u64 (wd x 2 : Int)) ∧ w'.cell? ⟨u2.heap.size, 3, none⟩ = some (.int .u64 (wd x 3 : Int))) ∧ Off (fun _ => False) W0 w')
        ((refine HK.out _ ?_; repeat' (first | with_reducible assumption | with_reducible refine Off.drew ?_ | with_reducible refine Off.alloc ?_ _ | with_reducible refine Off.store ?_ (by omega) _ _)))
        (first
          | (go_at_call 23; refine (held_w HT0.out FI.out (by repeat' (first | with_reducible assumption | with_reducible refine Off.drew ?_ | with_reducible refine Off.alloc ?_ _ | with_reducible refine Off.store ?_ (by omega) _ _))).mono ?_; rintro e u3 ⟨rfl, hO9, hOW⟩; (try (have hN : PartAt u3 W0.heap.size 0 0 := hOW.heap (heap_new' rfl _) (fun c => c))); have hS := HK.out _ hO9; have z1 := hO9.size)
          | (go_at_call 22; refine (held_w HT0.out FU.out (by repeat' (first | with_reducible assumption | with_reducible refine Off.drew ?_ | with_reducible refine Off.alloc ?_ _ | with_reducible refine Off.store ?_ (by omega) _ _))).mono ?_; rintro e u4 ⟨rfl, hO9, hOW⟩; (first | (have HZ : Hid (PartAt u4 W0.heap.size 0 0) := Lib.hid (hOW.heap hN (fun c => c)); have hM := HZ.out.four; obtain ⟨⟨m0, m1, m2, m3⟩, fz⟩ := hM) | (have HZ : Hid (PartAt u4 u3.heap.size 0 0) := Lib.hid (hOW.heap (heap_new' rfl _) (fun c => c)); have hM := HZ.out.four; obtain ⟨⟨m0, m1, m2, m3⟩, fz⟩ := hM) | skip); have hS := HK.out _ hO9; have z1 := hO9.size))
      all_goals (go_wp2_with fail; go_meet)
      all_goals first
        | exact ⟨_, rfl, store4 HZ.out, off4 hO9 (by omega) _ _ _ _⟩
        | exact ⟨_, rfl, heap_new' rfl _, hO9.alloc _⟩
    case rest =>
      obtain ⟨b, rfl, hY, hOc⟩ := hcut
      have HXc := Lib.hid (show NumAt wc u2.heap.size x from hOc.heap HX.out (fun c => c))
      have HYc := Lib.hid hY
      have HOc := Lib.hid (HO8.out.trans hOc (fun _ _ c => c))
      have HA := Lib.hid (alive_any wc (HT0.out.off hOc))
      clear hY hOc hsz HK HX FI FU FM FD F1 HW0 e1 hl1
      go_wp2_with fail
      refine HA.out.mono ?_
      rintro e u5 ⟨rfl, hO5⟩
      have hX5 : NumAt u5 u2.heap.size x := hO5.heap HXc.out (fun c => c)
      have hY5 : NumAt u5 b y := hO5.heap HYc.out (fun c => c)
      have HO6 := Lib.hid (HOc.out.trans hO5 (fun _ _ c => c))
      have lx := hX5.lt
      have ly := hY5.lt
      obtain ⟨x0, x1, x2, x3⟩ := hX5.four
      obtain ⟨y0, y1, y2, y3⟩ := hY5.four
      obtain ⟨z, hz, hz1, hz2⟩ := HY.out
      clear hX5 hY5 hO5 HA HXc HYc HOc HY
      cases z with
      | true =>
        obtain rfl := hz1 rfl
        have e1 := equalIn_same y
        clear hz1 hz2
        go_wp2
        go_ret
        exact ⟨rfl, HO6.out⟩
      | false =>
        have e2 := hz2 rfl
        clear hz1 hz2
        go_wp2
        go_ret
        exact ⟨rfl, HO6.out⟩

theorem door_met (os : Os) (args : Array Value) : laidMetH Tryd.prog [("sharecore/field.fields", Rows.laid_sharecore_field_fields)] ((World.doorLaid Tryd.prog 400 os).forCall (fun _ _ => 0) ⟨#[], args, []⟩).memory :=
  laidMetH_of_parts3 (fuel := 8) (laidMet_of_run' 8 (by kernel_rfl) (by kernel_rfl)) (by kernel_rfl) (by kernel_rfl)

set_option maxRecDepth 100000 in
theorem lifted (os : Os) (started : os.Started) (H : Type) (enc : TypeId × Value → H) :
    ReturnsInHanded {} Tryd.checked os 8 .any (fun w args => (Rows.fieldFermatSpec.pre enc Tryd.prog Tryd.f8 [] false w args ∧ laidMetH Tryd.prog [("sharecore/field.fields", Rows.laid_sharecore_field_fields)] w) ∧ sizedMet enc Tryd.prog Tryd.f8 (OpenSpec.ofChange Rows.fieldFermatSpec) false w args)
      (Rows.fieldFermatSpec.post enc Tryd.prog Tryd.f8 false true false false) := by
  refine returnsInHanded_of_change_and (C := Tryd.checked) (X := fun w _ => laidMetH Tryd.prog [("sharecore/field.fields", Rows.laid_sharecore_field_fields)] w) (fun _ _ _ hh h => h.of_heap hh) own started (by kernel_rfl) Tryd.func8
    (ChangeSpec.witness_shaped (enc := enc) (C := Tryd.checked) (os := os) (X := fun w _ => laidMetH Tryd.prog [("sharecore/field.fields", Rows.laid_sharecore_field_fields)] w) false (World.doorLaid Tryd.prog 400 os) #[.bool false, .agg #[.int .u64 0, .int .u64 0, .int .u64 0, .int .u64 0]] 8 rfl (World.shaped_of_RefB (by kernel_rfl) (by kernel_rfl)) (by kernel_rfl) (by kernel_rfl) (by kernel_rfl) (door_met os _)) ?_
  intro W base args ds gs before hval0 hW _ _ hL _
  have hval : ∀ (j : Nat) t v, Tryd.f8.params[j]? = some t → args[j]? = some v → Value.okWide Tryd.prog W .any base t v := hval0
  have hW' := hW
  obtain ⟨p, q, hA0, hV, rfl, hfz, hnd⟩ := hW
  have hA : DataW.TrodAll enc Tryd.prog W 0 (fun _ => true) true Tryd.f8.params.toList args.toList ds p := hA0
  rw [Tryd.params8] at hA hval
  obtain ⟨v0, vs0, d0, ds0, p0, q0, hargs, rfl, rfl, h0, r0⟩ := trodAll_cons hA
  obtain ⟨v1, vs1, d1, ds1, p1, q1, rfl, rfl, rfl, h1, r1⟩ := trodAll_cons r0
  obtain ⟨rfl, rfl, rfl⟩ := trodAll_nil r1
  obtain rfl : args = #[v0, v1] := by cases args; simp_all
  obtain ⟨rfl, rfl⟩ := trodVars_none hV
  obtain ⟨i0, rfl, rfl, rfl⟩ := open_bool Tryd.underlying4 (hval 0 4 v0 rfl rfl) h0
  have w0 := trivial
  have k1 := h1
  have lt1 : ∀ x ∈ p1, x.block < W.heap.size := by obtain ⟨m, hm⟩ := k1; exact DataW.trod_lt m _ _ _ hm
  obtain ⟨n1, w1, rfl⟩ := open_vec (hval 1 23 v1 rfl rfl) h1
  have hT := tab_of_laid hL
  clear hA0 hval0
  refine (walk i0 n1 W w0 w1 hT).mono fun e W' ⟨he, hoff⟩ => ?_
  have bel : Below W.heap.size W W' := hoff.below (Nat.le_refl _) (fun _ _ c => c)
  subst he
  exact ⟨_, rfl, _, _, _, [], _, [], hW', trodAll_mk1 (shut_bool Tryd.underlying4 _), (trodAll_cons_mk (shut_bool Tryd.underlying4 _) (trodAll_cons_mk (Below.trod laidOut (by kernel_rfl) (of_decide_eq_true (by kernel_rfl)) k1 bel lt1) trodAll_mk0)), rfl, bel.frame _, fun h => by cases h⟩

theorem over : Rows.fieldFermatRow.holds Tryd.pinned (OpenSpec.ofChange Rows.fieldFermatSpec) :=
  OpenClaim.holds_of_wide 8 Tryd.f8 rfl rfl rfl rfl rfl rfl rfl ⟨rfl, rfl, rfl, rfl, rfl⟩ rfl rfl rfl rfl rfl (by kernel_rfl) Tryd.func8 (by kernel_rfl)
    (of_decide_eq_true (by kernel_rfl)) (by unfold Func.isWrapper; first | (rw [if_pos (by decide +kernel)]; kernel_rfl) | (rw [if_neg (by decide +kernel)]; exact ⟨rfl, rfl⟩))
    (fun os started H enc _ => lifted os started H enc)

theorem proved : Rows.FieldFermatCardSaid :=
  Claim7.holds_tied_plain_at .later [] [.data] true (true, "8d33200e40fec3579d79c2056285ba5d5493a356e675c7f0ac56b4f91c6d33fd") false
    over (fun _ h => by cases h) (by kernel_rfl) (fun _ h => by cases h) fieldFermat_row_tie rfl ⟨rfl, rfl⟩ (by kernel_rfl) rfl
    (fun f fn hf hfn => by
      obtain rfl : f = 8 := Option.some.inj ((show Tryd.prog.funcNamed "sharecore/sharecorelaw04.FieldFermat" = some 8 by kernel_rfl).symm.trans hf) |>.symm
      obtain rfl : fn = Tryd.f8 := (Option.some.inj (Tryd.func8.symm.trans hfn)).symm
      exact ⟨by kernel_rfl, fun j t ht => by
        rw [Tryd.params8] at ht
        have hm : t ∈ [4, 23] := by simpa using Array.mem_of_getElem? ht
        have hall : ([4, 23].all fun u => !Tryd.prog.wantsStandIn u) = true := by kernel_rfl
        exact (show Tryd.prog.wantsStandIn t = false by simpa using List.all_eq_true.1 hall t hm)⟩)
    (by kernel_rfl)
#print axioms proved
end Go.Proofs.YtiappkokbdhgeaaDoor.fieldFermat
