/-
  Contracts of the reference's Modulus and Get (package sharecoreref04) over this seat's translation: the moduli and the constants of the fields. Conditions: as each says.
-/
import Derived.Test.YtiappkokbdhgeaaDoorModMul
import Derived.Test.YtiappkokbdhgeaaDoorPrimes
namespace Go.Proofs.YtiappkokbdhgeaaDoor
open Go.RowKit

theorem p1_lt : P1 < R256 := by decide
theorem p2_lt : P2 < R256 := by decide
theorem p1_one : 1 < P1 := by decide
theorem p2_one : 1 < P2 := by decide
theorem lit_p1 : V P1 = .agg #[.int .u64 18446744073709551597, .int .u64 18446744073709551615, .int .u64 18446744073709551615, .int .u64 9223372036854775807] := by
  have h : wd P1 0 = 18446744073709551597 ∧ wd P1 1 = 18446744073709551615 ∧ wd P1 2 = 18446744073709551615 ∧ wd P1 3 = 9223372036854775807 := by decide
  simp only [V, h.1, h.2.1, h.2.2.1, h.2.2.2]; rfl
theorem lit_p2 : V P2 = .agg #[.int .u64 17562291160714782033, .int .u64 13611842547513532036, .int .u64 18446744073709551615, .int .u64 18446744069414584320] := by
  have h : wd P2 0 = 17562291160714782033 ∧ wd P2 1 = 13611842547513532036 ∧ wd P2 2 = 18446744073709551615 ∧ wd P2 3 = 18446744069414584320 := by decide
  simp only [V, h.1, h.2.1, h.2.2.1, h.2.2.2]; rfl
/-- The modulus of a field, or 0. -/
def modN (id : Int) : Nat := if id = 1 then P1 else if id = 2 then P2 else 0
theorem modN_lt (id : Int) : modN id < R256 := by unfold modN; split; exact p1_lt; split; exact p2_lt; decide
theorem fermat_p1 (x : Nat) (hx : x % P1 ≠ 0) : x ^ (P1 - 1) % P1 = 1 := both_P1.2 x hx
theorem fermat_p2 (x : Nat) (hx : x % P2 ≠ 0) : x ^ (P2 - 1) % P2 = 1 := both_P2.2 x hx
/-- A number below p but 0, times its power with the exponent p - 2, is 1 modulo p. -/
theorem inverse_of {p : Nat} (h1 : 1 < p) (hf : ∀ x, x % p ≠ 0 → x ^ (p - 1) % p = 1) (x : Nat) (hx : x % p ≠ 0) : x * (x ^ (p - 2) % p) % p = 1 := by
  rw [Nat.mul_mod_mod, Nat.mul_comm, ← Nat.pow_succ, show (p - 2).succ = p - 1 by omega]
  exact hf x hx

set_option maxHeartbeats 1000000 in
theorem mod_modulus (id : Int) (w : World) :
    Calls Tryd.prog 17 #[.int .i64 id] w fun e w' => e = .returned (V (modN id)) ∧ Off (fun _ => False) w w' := by
  have L1 := Lib.hid lit_p1
  have L2 := Lib.hid lit_p2
  have L0 := Lib.hid (lit_small 0 (by decide))
  by_cases h1 : id = 1
  · subst h1
    have e : modN 1 = P1 := rfl
    rw [e, L1.out]
    clear e
    go_enter Tryd.func17, Tryd.ntmps17
    go_wp2
    refine bodyPost_ret (v := .agg #[.int .u64 18446744073709551597, .int .u64 18446744073709551615, .int .u64 18446744073709551615, .int .u64 9223372036854775807]) (by simp [results, Tryd.results17, go_sem]) rfl ⟨rfl, ?_⟩
    exact (Off.refl _ w).alloc _
  · by_cases h2 : id = 2
    · subst h2
      have e : modN 2 = P2 := rfl
      rw [e, L2.out]
      clear e h1
      go_enter Tryd.func17, Tryd.ntmps17
      go_wp2
      refine bodyPost_ret (v := .agg #[.int .u64 17562291160714782033, .int .u64 13611842547513532036, .int .u64 18446744073709551615, .int .u64 18446744069414584320]) (by simp [results, Tryd.results17, go_sem]) rfl ⟨rfl, ?_⟩
      exact (Off.refl _ w).alloc _
    · have e : modN id = 0 := by unfold modN; rw [if_neg h1, if_neg h2]
      rw [e, L0.out]
      have t1 : (id == 1) = false := by simpa using h1
      have t2 : (id == 2) = false := by simpa using h2
      clear e h1 h2
      go_enter Tryd.func17, Tryd.ntmps17
      go_wp2
      refine bodyPost_ret (v := .agg #[.int .u64 0, .int .u64 0, .int .u64 0, .int .u64 0]) (by simp [results, Tryd.results17, go_sem]) rfl ⟨rfl, ?_⟩
      exact (Off.refl _ w).alloc _

/-- One round of the reference's search for the inverse of the lowest word q, modulo 2^64. -/
def invStep (q x : Nat) : Nat := x * ((2 + 18446744073709551616 - q * x % 18446744073709551616) % 18446744073709551616) % 18446744073709551616
def invV (q : Nat) : Nat → Nat
  | 0 => 1
  | k + 1 => invStep q (invV q k)
theorem invV_lt (q k : Nat) : invV q k < 18446744073709551616 := by
  cases k with
  | zero => simp [invV]
  | succ k => exact Nat.mod_lt _ (by decide)
/-- The negation of the inverse, modulo 2^64. -/
def negInv (q : Nat) : Nat := (18446744073709551616 - invV q 6) % 18446744073709551616
/-- A block of fourteen cells that may be written. -/
def FieldAt (w : World) (b : Nat) : Prop := ∃ c : Array Value, w.heap[b]? = some (.cells c 31 (0, 0)) ∧ c.size = 14

theorem setCells_off (b : Nat) : ∀ (vs : List Value) (o : Nat) (w : World), Off (fun k => k = b) w (w.setCells b o vs)
  | [], _, w => Off.refl _ w
  | v :: r, o, w => ((Off.refl (fun k => k = b) w).setCell (p := ⟨b, o, none⟩) (fun _ => rfl) v).trans (setCells_off b r (o + 1) _) (fun _ _ h => h)
theorem setCells_block (b : Nat) {T : TypeId} : ∀ (vs : List Value) (o : Nat) (w : World) (c : Array Value), w.heap[b]? = some (.cells c T (0, 0)) → ∃ c' : Array Value, (w.setCells b o vs).heap[b]? = some (.cells c' T (0, 0)) ∧ c'.size = c.size
  | [], _, _, c, h => ⟨c, h, rfl⟩
  | v :: r, o, w, c, h => by
    obtain ⟨c', h1, h2⟩ := setCells_block b r (o + 1) _ _ (heap_set h o v)
    exact ⟨c', h1, by rw [h2]; simp⟩
theorem FieldAt.off {w w' : World} {b : Nat} {S : Nat → Prop} (h : FieldAt w b) (ho : Off S w w') (hb : ¬ S b) : FieldAt w' b := h.imp (fun _ hc => ⟨ho.heap hc.1 hb, hc.2⟩)
theorem FieldAt.cells {w : World} {b : Nat} (h : FieldAt w b) : ∃ f : Nat → Value, (∀ j, j < 14 → w.cell? ⟨b, j, none⟩ = some (f j)) ∧ ∀ j, w.frozen? ⟨b, j, none⟩ = false := by
  obtain ⟨c, hc, hz⟩ := h
  refine ⟨fun j => c[j]?.getD undef, fun j hj => ?_, fun j => frozen_of_heap hc j⟩
  rw [cell_of_heap hc, Array.getElem?_eq_getElem (by omega)]
  simp [Array.getElem?_eq_getElem (show j < c.size by omega)]

/-- A call that changes nothing that lay in memory before keeps two numbers, the result's place and the frame. -/
theorem held_get {f : FuncId} {args : Array Value} {v : Value} (hc : ∀ W, Calls Tryd.prog f args W fun e w' => e = .returned v ∧ Off (fun _ => False) W w') {w W : World} {b n b' n' r : Nat}
    (h : (W.cell? ⟨b, 0, none⟩ = some (.int .u64 (wd n 0 : Int)) ∧ W.cell? ⟨b, 1, none⟩ = some (.int .u64 (wd n 1 : Int)) ∧ W.cell? ⟨b, 2, none⟩ = some (.int .u64 (wd n 2 : Int)) ∧ W.cell? ⟨b, 3, none⟩ = some (.int .u64 (wd n 3 : Int))) ∧
      (W.cell? ⟨b', 0, none⟩ = some (.int .u64 (wd n' 0 : Int)) ∧ W.cell? ⟨b', 1, none⟩ = some (.int .u64 (wd n' 1 : Int)) ∧ W.cell? ⟨b', 2, none⟩ = some (.int .u64 (wd n' 2 : Int)) ∧ W.cell? ⟨b', 3, none⟩ = some (.int .u64 (wd n' 3 : Int))) ∧ FieldAt W r ∧ Off (fun _ => False) w W) :
    Calls Tryd.prog f args W fun e w' => e = .returned v ∧ ((w'.cell? ⟨b, 0, none⟩ = some (.int .u64 (wd n 0 : Int)) ∧ w'.cell? ⟨b, 1, none⟩ = some (.int .u64 (wd n 1 : Int)) ∧ w'.cell? ⟨b, 2, none⟩ = some (.int .u64 (wd n 2 : Int)) ∧ w'.cell? ⟨b, 3, none⟩ = some (.int .u64 (wd n 3 : Int))) ∧
      (w'.cell? ⟨b', 0, none⟩ = some (.int .u64 (wd n' 0 : Int)) ∧ w'.cell? ⟨b', 1, none⟩ = some (.int .u64 (wd n' 1 : Int)) ∧ w'.cell? ⟨b', 2, none⟩ = some (.int .u64 (wd n' 2 : Int)) ∧ w'.cell? ⟨b', 3, none⟩ = some (.int .u64 (wd n' 3 : Int))) ∧ FieldAt w' r ∧ Off (fun _ => False) w w') :=
  (hc W).mono fun _ _ ⟨he, hO⟩ => ⟨he, Four.off h.1 hO, Four.off h.2.1 hO, h.2.2.1.off hO (fun c => c), h.2.2.2.trans hO (fun _ _ c => c)⟩
theorem get_after {w W : World} {b n b' n' r : Nat} (hr : w.heap.size ≤ r) (hb : b ≠ r) (hb' : b' ≠ r)
    (h : (W.cell? ⟨b, 0, none⟩ = some (.int .u64 (wd n 0 : Int)) ∧ W.cell? ⟨b, 1, none⟩ = some (.int .u64 (wd n 1 : Int)) ∧ W.cell? ⟨b, 2, none⟩ = some (.int .u64 (wd n 2 : Int)) ∧ W.cell? ⟨b, 3, none⟩ = some (.int .u64 (wd n 3 : Int))) ∧
      (W.cell? ⟨b', 0, none⟩ = some (.int .u64 (wd n' 0 : Int)) ∧ W.cell? ⟨b', 1, none⟩ = some (.int .u64 (wd n' 1 : Int)) ∧ W.cell? ⟨b', 2, none⟩ = some (.int .u64 (wd n' 2 : Int)) ∧ W.cell? ⟨b', 3, none⟩ = some (.int .u64 (wd n' 3 : Int))) ∧ FieldAt W r ∧ Off (fun _ => False) w W) (vs : List Value) :
    (((W.setCells r 0 vs).cell? ⟨b, 0, none⟩ = some (.int .u64 (wd n 0 : Int)) ∧ (W.setCells r 0 vs).cell? ⟨b, 1, none⟩ = some (.int .u64 (wd n 1 : Int)) ∧ (W.setCells r 0 vs).cell? ⟨b, 2, none⟩ = some (.int .u64 (wd n 2 : Int)) ∧ (W.setCells r 0 vs).cell? ⟨b, 3, none⟩ = some (.int .u64 (wd n 3 : Int))) ∧
      ((W.setCells r 0 vs).cell? ⟨b', 0, none⟩ = some (.int .u64 (wd n' 0 : Int)) ∧ (W.setCells r 0 vs).cell? ⟨b', 1, none⟩ = some (.int .u64 (wd n' 1 : Int)) ∧ (W.setCells r 0 vs).cell? ⟨b', 2, none⟩ = some (.int .u64 (wd n' 2 : Int)) ∧ (W.setCells r 0 vs).cell? ⟨b', 3, none⟩ = some (.int .u64 (wd n' 3 : Int))) ∧ FieldAt (W.setCells r 0 vs) r ∧ Off (fun _ => False) w (W.setCells r 0 vs)) := by
  obtain ⟨h1, h2, ⟨c, hc, hz⟩, hO⟩ := h
  have ho := setCells_off r vs 0 W
  obtain ⟨c', h3, h4⟩ := setCells_block r vs 0 W c hc
  exact ⟨⟨ho.cell h1.1 hb, ho.cell h1.2.1 hb, ho.cell h1.2.2.1 hb, ho.cell h1.2.2.2 hb⟩, ⟨ho.cell h2.1 hb', ho.cell h2.2.1 hb', ho.cell h2.2.2.1 hb', ho.cell h2.2.2.2 hb'⟩, ⟨c', h3, by rw [h4, hz]⟩, hO.trans ho (fun j hj e => by omega)⟩

/-- The value of a field of the reference. -/
abbrev FV (id : Int) (p i r s : Nat) : Value := .agg #[.int .i64 id, .int .u64 (wd p 0 : Int), .int .u64 (wd p 1 : Int), .int .u64 (wd p 2 : Int), .int .u64 (wd p 3 : Int), .int .u64 (i : Int), .int .u64 (wd r 0 : Int), .int .u64 (wd r 1 : Int), .int .u64 (wd r 2 : Int), .int .u64 (wd r 3 : Int), .int .u64 (wd s 0 : Int), .int .u64 (wd s 1 : Int), .int .u64 (wd s 2 : Int), .int .u64 (wd s 3 : Int)]
attribute [local go_sem ↓] Go.wp_at_zero Go.wp_at_succ
set_option maxRecDepth 100000 in
set_option maxHeartbeats 4000000 in
theorem get_in (id : Int) (p : Nat) (hp : p < R256) (h1 : 1 < p) (hm : modN id = p) (w : World) :
    Calls Tryd.prog 10 #[.int .i64 id] w fun e w' => e = .returned (FV id p (negInv (wd p 0)) (radV p 256) (radV p 256 * radV p 256 % p)) ∧ Off (fun _ => False) w w' := by
  have FM := Lib.hid (fun W => by have h := mod_modulus id W; rw [hm] at h; exact h)
  have hne : ∀ W, (Op.equalIn 10000 23 (V p) (.agg #[.int .u64 0, .int .u64 0, .int .u64 0, .int .u64 0])).run Tryd.prog W = .ok false W := fun W => by
    have h := equalIn_num hp (show 0 < R256 by decide) W
    rw [show eqN p 0 = false by unfold eqN; simp; omega, lit_small 0 (by decide)] at h
    exact h
  clear hm
  go_enter Tryd.func10, Tryd.ntmps10
  go_wp2_with fail
  refine (FM.out _).mono ?_
  rintro e u ⟨rfl, hO⟩
  have hR : FieldAt u w.heap.size := ⟨_, hO.heap (heap_new' rfl _) (fun c => c), rfl⟩
  have HR := Lib.hid hR
  have hlt : w.heap.size < u.heap.size := by obtain ⟨c, h, _⟩ := hR; exact heap_lt h
  have HO := Lib.hid (((Off.refl _ w).alloc _).trans hO (fun _ _ c => c))
  clear hR hO
  have hq := wd_lt p 0
  go_wp2
  go_loop [4, 5] (fun x i => ∃ k : Nat, k ≤ 6 ∧ i = .int .i64 k ∧ x = .int .u64 (invV (wd p 0) k : Int)) (fun _ i => 6 - (intOf i).toNat)
  case atStart => exact ⟨0, by omega, rfl, rfl⟩
  case round =>
    obtain ⟨k, hk, rfl, rfl⟩ := hrel
    by_cases hlt2 : k < 6
    · have i1 : decide ((k : Int) < 6) = true := by simp; omega
      have hx := invV_lt (wd p 0) k
      have hs : invV (wd p 0) (k + 1) = invStep (wd p 0) (invV (wd p 0) k) := rfl
      obtain ⟨x, hx2⟩ : ∃ x, x = invV (wd p 0) k := ⟨_, rfl⟩
      rw [← hx2] at hx hs ⊢
      obtain ⟨m, hm⟩ : ∃ m, m = wd p 0 * x % 18446744073709551616 := ⟨_, rfl⟩
      obtain ⟨s, hs2⟩ : ∃ s, s = (2 + 18446744073709551616 - m) % 18446744073709551616 := ⟨_, rfl⟩
      obtain ⟨t, ht⟩ : ∃ t, t = x * s % 18446744073709551616 := ⟨_, rfl⟩
      have m0 : IntKind.u64.wrap ((wd p 0 : Int) * (x : Int)) = (m : Int) := by rw [IntKind.wrap_u64, ← Int.natCast_mul, hm]; omega
      have s0 : IntKind.u64.wrap (2 - (m : Int)) = (s : Int) := by rw [IntKind.wrap_u64]; omega
      have t0 : IntKind.u64.wrap ((x : Int) * (s : Int)) = (t : Int) := by rw [IntKind.wrap_u64, ← Int.natCast_mul, ht]; omega
      have HT := Lib.hid (show t = invV (wd p 0) (k + 1) by rw [hs, ht, hs2, hm]; rfl)
      clear hs hx2 hm hs2 ht
      go_wp2
      go_round
      case rel => exact ⟨k + 1, by omega, by go_num, by rw [HT.out]⟩
      case measure => simp [intOf]; omega
    · obtain rfl : k = 6 := by omega
      obtain ⟨x, hx2⟩ : ∃ x, x = invV (wd p 0) 6 := ⟨_, rfl⟩
      have hx := invV_lt (wd p 0) 6
      rw [← hx2] at hx ⊢
      have HX := Lib.hid hx2
      have hrp : radV p 256 < p := Nat.mod_lt _ (by omega)
      have FR := fun W => mod_radix p hp h1 W
      have FU := fun W => mod_mul p (radV p 256) (radV p 256) hp h1 hrp (by omega) W
      obtain ⟨r, hr⟩ : ∃ r, r = radV p 256 := ⟨_, rfl⟩
      obtain ⟨s, hs⟩ : ∃ s, s = radV p 256 * radV p 256 % p := ⟨_, rfl⟩
      simp only [← hs] at FU
      simp only [← hr] at FR FU
      have HRS := Lib.hid (And.intro hr hs)
      have FR := Lib.hid FR
      have FU := Lib.hid FU
      have neg0 : IntKind.u64.wrap (-(x : Int)) = (((18446744073709551616 - x) % 18446744073709551616 : Nat) : Int) := by rw [IntKind.wrap_u64]; omega
      obtain ⟨z, hz⟩ : ∃ z, z = (18446744073709551616 - x) % 18446744073709551616 := ⟨_, rfl⟩
      rw [← hz] at neg0
      have HZ := Lib.hid (show z = negInv (wd p 0) by rw [hz, HX.out]; rfl)
      clear hx2 hr hs hz hrp
      obtain ⟨p0, p1, p2, p3⟩ := (show NumAt (u.alloc (.cells #[.int .u64 (wd p 0 : Int), .int .u64 (wd p 1 : Int), .int .u64 (wd p 2 : Int), .int .u64 (wd p 3 : Int)] 23)) u.heap.size p from heap_new' rfl _).four
      go_wp2_with fail
      refine (FR.out _).mono ?_
      rintro e u1 ⟨rfl, hO1⟩
      clear p0 p1 p2 p3
      have hP : NumAt u1 u.heap.size p := hO1.heap (heap_new' rfl _) (fun c => c)
      have hlt3 := hP.lt
      obtain ⟨W0, hW0⟩ : ∃ W0, W0 = u1.alloc (.cells #[.int .u64 (wd r 0 : Int), .int .u64 (wd r 1 : Int), .int .u64 (wd r 2 : Int), .int .u64 (wd r 3 : Int)] 23) := ⟨_, rfl⟩
      have h1' : NumAt W0.drew u.heap.size p := by rw [hW0]; exact heap_old' hP _
      have h2' : NumAt W0.drew u1.heap.size r := by rw [hW0]; exact heap_new' rfl _
      have h3' : FieldAt W0.drew w.heap.size := by
        rw [hW0]
        exact ((HR.out.off ((Off.refl (fun _ => False) u).alloc _) (fun c => c)).off hO1 (fun c => c)).off (((Off.refl (fun _ => False) u1).alloc _).drew) (fun c => c)
      have h4' : Off (fun _ => False) w W0.drew := by rw [hW0]; exact ((((HO.out.alloc _).trans hO1 (fun _ _ c => c)).alloc _).drew)
      have hS := Lib.hid (And.intro h1'.four (And.intro h2'.four (And.intro h3' h4')))
      rw [hW0] at hS
      have N := Lib.hid (And.intro (Nat.le_refl w.heap.size) (And.intro (show u.heap.size ≠ w.heap.size by omega) (show u1.heap.size ≠ w.heap.size by omega)))
      clear h1' h2' h3' h4' hW0 hP hO1
      go_wp2_with fail
      have hS := hS.out
      go_region_held3 (fun w' => (w'.cell? ⟨u.heap.size, 0, none⟩ = some (.int .u64 (wd p 0 : Int)) ∧ w'.cell? ⟨u.heap.size, 1, none⟩ = some (.int .u64 (wd p 1 : Int)) ∧ w'.cell? ⟨u.heap.size, 2, none⟩ = some (.int .u64 (wd p 2 : Int)) ∧ w'.cell? ⟨u.heap.size, 3, none⟩ = some (.int .u64 (wd p 3 : Int))) ∧ (w'.cell? ⟨u1.heap.size, 0, none⟩ = some (.int .u64 (wd r 0 : Int)) ∧ w'.cell? ⟨u1.heap.size, 1, none⟩ = some (.int .u64 (wd r 1 : Int)) ∧ w'.cell? ⟨u1.heap.size, 2, none⟩ = some (.int .u64 (wd r 2 : Int)) ∧ w'.cell? ⟨u1.heap.size, 3, none⟩ = some (.int .u64 (wd r 3 : Int))) ∧ FieldAt w' w.heap.size ∧ Off (fun _ => False) w w')
        (first | with_reducible exact hS | with_reducible exact hS2 | go_keep)
        ((go_at_call 22; refine (held_get FU.out (by with_reducible assumption)).mono ?_; rintro e w' ⟨rfl, hS⟩; obtain ⟨f, hf, fz⟩ := hS.2.2.1.cells; have k0 := hf 0 (by omega); have k1 := hf 1 (by omega); have k2 := hf 2 (by omega); have k3 := hf 3 (by omega); have k4 := hf 4 (by omega); have k5 := hf 5 (by omega); have k6 := hf 6 (by omega); have k7 := hf 7 (by omega); have k8 := hf 8 (by omega); have k9 := hf 9 (by omega); have k10 := hf 10 (by omega); have k11 := hf 11 (by omega); have k12 := hf 12 (by omega); have k13 := hf 13 (by omega); clear hf; have hS2 := get_after N.out.1 N.out.2.1 N.out.2.2 hS [.int .i64 id, .int .u64 (wd p 0 : Int), .int .u64 (wd p 1 : Int), .int .u64 (wd p 2 : Int), .int .u64 (wd p 3 : Int), .int .u64 (z : Int), .int .u64 (wd r 0 : Int), .int .u64 (wd r 1 : Int), .int .u64 (wd r 2 : Int), .int .u64 (wd r 3 : Int), .int .u64 (wd s 0 : Int), .int .u64 (wd s 1 : Int), .int .u64 (wd s 2 : Int), .int .u64 (wd s 3 : Int)]; simp only [World.setCells, Nat.reduceAdd] at hS2))
      go_split_ands
      go_wp2
      refine bodyPost_ret (v := FV id p z r s) (by simp [results, Tryd.results10, go_sem, k0, k1, k2, k3, k4, k5, k6, k7, k8, k9, k10, k11, k12, k13]) rfl ⟨by rw [HRS.out.2, HRS.out.1, HZ.out], by assumption⟩

theorem get_none (id : Int) (hm : modN id = 0) (w : World) :
    Calls Tryd.prog 10 #[.int .i64 id] w fun e w' => e = .returned (FV 0 0 0 0 0) ∧ Off (fun _ => False) w w' := by
  have FM := Lib.hid (fun W => by have h := mod_modulus id W; rw [hm, lit_small 0 (by decide)] at h; exact h)
  have hne : ∀ W, (Op.equalIn 10000 23 (.agg #[.int .u64 0, .int .u64 0, .int .u64 0, .int .u64 0]) (.agg #[.int .u64 0, .int .u64 0, .int .u64 0, .int .u64 0])).run Tryd.prog W = .ok true W := fun W => by
    rw [equalIn_four]; simp
  have z0 : ∀ i, wd 0 i = 0 := fun i => by unfold wd dg; simp
  have HZ := Lib.hid (show FV 0 0 0 0 0 = .agg #[.int .i64 0, .int .u64 0, .int .u64 0, .int .u64 0, .int .u64 0, .int .u64 0, .int .u64 0, .int .u64 0, .int .u64 0, .int .u64 0, .int .u64 0, .int .u64 0, .int .u64 0, .int .u64 0] by simp only [FV, z0]; rfl)
  clear hm z0
  go_enter Tryd.func10, Tryd.ntmps10
  go_wp2_with fail
  refine (FM.out _).mono ?_
  rintro e u ⟨rfl, hO⟩
  have hR : FieldAt u w.heap.size := ⟨_, hO.heap (heap_new' rfl _) (fun c => c), rfl⟩
  have hlt : w.heap.size < u.heap.size := by obtain ⟨c, h, _⟩ := hR; exact heap_lt h
  obtain ⟨f, hf, fz⟩ := hR.cells
  have k0 := hf 0 (by omega)
  have k1 := hf 1 (by omega)
  have k2 := hf 2 (by omega)
  have k3 := hf 3 (by omega)
  have k4 := hf 4 (by omega)
  have k5 := hf 5 (by omega)
  have k6 := hf 6 (by omega)
  have k7 := hf 7 (by omega)
  have k8 := hf 8 (by omega)
  have k9 := hf 9 (by omega)
  have k10 := hf 10 (by omega)
  have k11 := hf 11 (by omega)
  have k12 := hf 12 (by omega)
  have k13 := hf 13 (by omega)
  have HO := Lib.hid (((Off.refl (fun _ => False) w).alloc _).trans hO (fun _ _ c => c))
  clear hR hO hf
  go_wp2
  refine bodyPost_ret (v := .agg #[.int .i64 0, .int .u64 0, .int .u64 0, .int .u64 0, .int .u64 0, .int .u64 0, .int .u64 0, .int .u64 0, .int .u64 0, .int .u64 0, .int .u64 0, .int .u64 0, .int .u64 0, .int .u64 0]) (by simp [results, Tryd.results10, go_sem, k0, k1, k2, k3, k4, k5, k6, k7, k8, k9, k10, k11, k12, k13, hlt]) rfl ⟨by rw [HZ.out], ?_⟩
  have h := HO.out.trans (setCells_off w.heap.size [.int .i64 0, .int .u64 0, .int .u64 0, .int .u64 0, .int .u64 0, .int .u64 0, .int .u64 0, .int .u64 0, .int .u64 0, .int .u64 0, .int .u64 0, .int .u64 0, .int .u64 0, .int .u64 0] 0 u) (fun j hj e => by omega)
  simp only [World.setCells, Nat.reduceAdd] at h
  exact h.alloc _
end Go.Proofs.YtiappkokbdhgeaaDoor
