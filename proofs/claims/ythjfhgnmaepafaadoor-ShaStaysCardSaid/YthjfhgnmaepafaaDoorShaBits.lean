/-
  Contracts of package sha's small functions over this seat's translation: rotate, scatter, spread, choice, majority. Conditions: the words are words, the counts from 1 to 31.
-/
import Derived.Test.YthjfhgnmaepafaaDoorShaRotr
import Derived.BigQuiet
import Derived.Deep.QuietTactic
import Derived.Test.YthjfhgnmaepafaaDoorInvIn
import Derived.Test.YthjfhgnmaepafaaDoorInvSel
namespace Go.Proofs.YthjfhgnmaepafaaDoor
open Go.RowKit
set_option maxRecDepth 100000
set_option maxHeartbeats 4000000
theorem off_drewN {S : Nat → Prop} {a w : World} (h : Off S a w) (n : Nat) : Off S a (w.drewN n) := ⟨h.os, h.tape, h.output, h.size, h.block, h.others⟩
theorem wrap_u32_ok (n : Int) (h0 : 0 ≤ n) (h1 : n < 2 ^ 32) : IntKind.u32.wrap n = n := by rw [IntKind.wrap_u32]; omega
theorem and_u32 {a b : Nat} (ha : a < 4294967296) (hb : b < 4294967296) : bits .and .u32 (a : Int) (b : Int) = ((a &&& b : Nat) : Int) := (bits_nat .u32 32 (by decide) wrap_u32_ok a b ha hb).1
theorem or_u32 {a b : Nat} (ha : a < 4294967296) (hb : b < 4294967296) : bits .or .u32 (a : Int) (b : Int) = ((a ||| b : Nat) : Int) := (bits_nat .u32 32 (by decide) wrap_u32_ok a b ha hb).2
theorem xor_u32 {a b : Nat} (ha : a < 4294967296) (hb : b < 4294967296) : bits .xor .u32 (a : Int) (b : Int) = ((a ^^^ b : Nat) : Int) := by
  have hx : a ^^^ b < 2 ^ 32 := Nat.xor_lt_two_pow (by omega) (by omega)
  have h1 : (BitVec.ofInt 32 (a : Int)).toNat = a := by rw [BitVec.ofInt_natCast, BitVec.toNat_ofNat]; exact Nat.mod_eq_of_lt (by omega)
  have h2 : (BitVec.ofInt 32 (b : Int)).toNat = b := by rw [BitVec.ofInt_natCast, BitVec.toNat_ofNat]; exact Nat.mod_eq_of_lt (by omega)
  show IntKind.u32.wrap ((BitVec.ofInt 32 (a : Int) ^^^ BitVec.ofInt 32 (b : Int)).toNat : Int) = _
  rw [BitVec.toNat_xor, h1, h2, IntKind.wrap_u32]
  omega
theorem neg_and31 : ∀ n : Nat, 0 < n → n < 32 → bits .and .u64 (IntKind.u64.wrap (-(n : Int))) 31 = ((32 - n : Nat) : Int) := by
  intro n h0 hn
  have : ∀ n : Fin 32, 0 < n.1 → bits .and .u64 (IntKind.u64.wrap (-(n.1 : Int))) 31 = ((32 - n.1 : Nat) : Int) := by decide +kernel
  exact this ⟨n, hn⟩ h0
theorem rotl_any (x n : Nat) (hx : x < 4294967296) (h0 : 0 < n) (hn : n < 32) (w : World) :
    Calls Tryd.prog 38 #[u32v x, .int .i64 (-(n : Int))] w fun e w' => e = .returned (u32v (ror x n)) ∧ w = w' := by
  have e1 := neg_and31 n h0 hn
  obtain ⟨m, hm⟩ : ∃ m, m = 32 - n := ⟨_, rfl⟩
  rw [← hm] at e1
  have m0 : m ≤ 32 := by omega
  have e2 : IntKind.u64.wrap (32 - (m : Int)) = (n : Int) := by rw [IntKind.wrap_u64]; omega
  have e3 : IntKind.u32.wrap ((x : Int) * 2 ^ m) = ((x * 2 ^ m % 4294967296 : Nat) : Int) := by
    rw [IntKind.wrap_u32]; simp
  have e4 : bits .or .u32 ((x * 2 ^ m % 4294967296 : Nat) : Int) ((x : Int) / 2 ^ n) = (ror x n : Int) := by
    have q : (x : Int) / 2 ^ n = ((x / 2 ^ n : Nat) : Int) := by simp
    have h := ror_or (x := x) (n := n) (by omega) hx
    rw [q, or_u32 (Nat.mod_lt _ (by decide)) (Nat.lt_of_le_of_lt (Nat.div_le_self _ _) hx), Nat.or_comm, hm, h]
  obtain ⟨r, hr⟩ : ∃ r, r = ror x n := ⟨_, rfl⟩
  obtain ⟨y, hy⟩ : ∃ y, y = x * 2 ^ m % 4294967296 := ⟨_, rfl⟩
  rw [← hr] at e4 ⊢
  rw [← hy] at e3 e4
  clear hr hy hm hx
  go_enter Tryd.func38, Tryd.ntmps38
  go_wp2
  go_ret
  exact ⟨rfl, rfl⟩
theorem rotate_any (x n : Nat) (hx : x < 4294967296) (h0 : 0 < n) (hn : n < 32) (w : World) :
    Calls Tryd.prog 37 #[u32v x, .int .i64 (n : Int)] w fun e w' => e = .returned (u32v (ror x n)) ∧ w = w' := by
  have H := Lib.hid (rotl_any x n hx h0 hn)
  have e1 : IntKind.i64.wrap (-(n : Int)) = -(n : Int) := by rw [IntKind.wrap_i64]; omega
  go_enter Tryd.func37, Tryd.ntmps37
  go_wp2_with first | (refine (H.out _).mono ?_; rintro e w' ⟨rfl, rfl⟩) | fail
  go_ret
  exact ⟨rfl, rfl⟩
theorem quiet_eq {P : Program} {f : FuncId} {args : Array Value} {w : World} {n : Nat} {v : Value}
    (h : Calls P f args (w.drewN n) fun e w' => e = .returned v ∧ w.drewN n = w') : Calls P f args (w.drewN n) fun e w'' => e = .returned v ∧ ∃ m, w'' = w.drewN m :=
  h.mono fun _ _ ⟨he, hm⟩ => ⟨he, n, hm.symm⟩
/-- A call that only reads: the world is as it was, draws aside. -/
abbrev QuietRet (w : World) (v : Value) : Ending → World → Prop := fun e w' => e = .returned v ∧ ∃ m, w' = w.drewN m
theorem scatter_any (x a b c : Nat) (hx : x < 4294967296) (ha0 : 0 < a) (ha : a < 32) (hb0 : 0 < b) (hb : b < 32) (hc : c < 32) (w : World) :
    Calls Tryd.prog 33 #[u32v x, .int .i64 (a : Int), .int .i64 (b : Int), .int .i64 (c : Int)] w fun e w' => e = .returned (u32v (ror x a ^^^ ror x b ^^^ shrN x c)) ∧ ∃ m, w' = w.drewN m := by
  have HA := Lib.hid (rotate_any x a hx ha0 ha)
  have HB := Lib.hid (rotate_any x b hx hb0 hb)
  have la := ror_lt (x := x) (n := a) hx (by omega)
  have lb := ror_lt (x := x) (n := b) hx (by omega)
  have lc := ws_lt32 hx c
  have e1 : (x : Int) / 2 ^ c = (shrN x c : Int) := by unfold shrN; simp
  obtain ⟨r, hr⟩ : ∃ r, r = ror x a := ⟨_, rfl⟩
  obtain ⟨s, hs⟩ : ∃ s, s = ror x b := ⟨_, rfl⟩
  obtain ⟨t, ht⟩ : ∃ t, t = shrN x c := ⟨_, rfl⟩
  rw [← hr] at HA la ⊢
  rw [← hs] at HB lb ⊢
  rw [← ht] at lc e1 ⊢
  have e2 := xor_u32 la lb
  have e3 := xor_u32 (xor32 la lb) lc
  obtain ⟨y, hy⟩ : ∃ y, y = r ^^^ s := ⟨_, rfl⟩
  obtain ⟨z, hz⟩ : ∃ z, z = y ^^^ t := ⟨_, rfl⟩
  rw [← hy] at e2 e3 ⊢
  rw [← hz] at e3 ⊢
  clear hr hs ht hy hz la lb lc ha0 hb0 ha hb
  go_enter Tryd.func33, Tryd.ntmps33
  go_upto_region 1 with fail
  go_quiet (first | (go_at_call_of 37 (Value.int IntKind.i64 (a : Int)); exact quiet_eq (HA.out _)) | (go_at_call_of 37 (Value.int IntKind.i64 (b : Int)); exact quiet_eq (HB.out _)))
  go_wp2
  go_ret
  exact ⟨rfl, ⟨_, rfl⟩⟩
theorem spread_any (x a b c : Nat) (hx : x < 4294967296) (ha0 : 0 < a) (ha : a < 32) (hb0 : 0 < b) (hb : b < 32) (hc0 : 0 < c) (hc : c < 32) (w : World) :
    Calls Tryd.prog 34 #[u32v x, .int .i64 (a : Int), .int .i64 (b : Int), .int .i64 (c : Int)] w fun e w' => e = .returned (u32v (ror x a ^^^ ror x b ^^^ ror x c)) ∧ w = w' := by
  have HA := Lib.hid (rotate_any x a hx ha0 ha)
  have HB := Lib.hid (rotate_any x b hx hb0 hb)
  have HC := Lib.hid (rotate_any x c hx hc0 hc)
  have la := ror_lt (x := x) (n := a) hx (by omega)
  have lb := ror_lt (x := x) (n := b) hx (by omega)
  have lc := ror_lt (x := x) (n := c) hx (by omega)
  obtain ⟨r, hr⟩ : ∃ r, r = ror x a := ⟨_, rfl⟩
  obtain ⟨s, hs⟩ : ∃ s, s = ror x b := ⟨_, rfl⟩
  obtain ⟨t, ht⟩ : ∃ t, t = ror x c := ⟨_, rfl⟩
  rw [← hr] at HA la ⊢
  rw [← hs] at HB lb ⊢
  rw [← ht] at HC lc ⊢
  have e2 := xor_u32 la lb
  have e3 := xor_u32 (xor32 la lb) lc
  obtain ⟨y, hy⟩ : ∃ y, y = r ^^^ s := ⟨_, rfl⟩
  obtain ⟨z, hz⟩ : ∃ z, z = y ^^^ t := ⟨_, rfl⟩
  rw [← hy] at e2 e3 ⊢
  rw [← hz] at e3 ⊢
  clear hr hs ht hy hz la lb lc ha0 hb0 ha hb hc0 hc
  go_enter Tryd.func34, Tryd.ntmps34
  go_wp2_with first | (go_at_call_of 37 (Value.int IntKind.i64 (a : Int)); refine (HA.out _).mono ?_; rintro e w' ⟨rfl, rfl⟩) | (go_at_call_of 37 (Value.int IntKind.i64 (b : Int)); refine (HB.out _).mono ?_; rintro e w' ⟨rfl, rfl⟩) | (go_at_call_of 37 (Value.int IntKind.i64 (c : Int)); refine (HC.out _).mono ?_; rintro e w' ⟨rfl, rfl⟩) | fail
  go_ret
  exact ⟨rfl, rfl⟩
theorem choice_any (e f g : Nat) (he : e < 4294967296) (hf : f < 4294967296) (hg : g < 4294967296) (w : World) :
    Calls Tryd.prog 35 #[u32v e, u32v f, u32v g] w fun e' w' => e' = .returned (u32v (chN e f g)) ∧ w = w' := by
  obtain ⟨r, hr⟩ : ∃ r, r = chN e f g := ⟨_, rfl⟩
  rw [← hr]
  have HR := Lib.hid hr
  have e1 := and_u32 he hf
  have e2 : bits .xor .u32 IntKind.u32.max (e : Int) = (not32 e : Int) := by
    rw [show IntKind.u32.max = ((4294967295 : Nat) : Int) by decide, xor_u32 (by decide) he, not32_xor he]
  have e3 := and_u32 (not32_lt e) hg
  have e4 := xor_u32 (and32 f he) (and32 g (not32_lt e))
  have e5 : ((e &&& f) ^^^ (not32 e &&& g)) = r := by rw [hr]; rfl
  rw [e5] at e4
  clear hr he hf hg e5
  go_enter Tryd.func35, Tryd.ntmps35
  go_wp2
  go_ret
  exact ⟨rfl, rfl⟩
theorem majority_any (a b c : Nat) (ha : a < 4294967296) (hb : b < 4294967296) (hc : c < 4294967296) (w : World) :
    Calls Tryd.prog 36 #[u32v a, u32v b, u32v c] w fun e w' => e = .returned (u32v (majN a b c)) ∧ w = w' := by
  have e1 := and_u32 ha hb
  have e2 := and_u32 ha hc
  have e3 := and_u32 hb hc
  have e4 := xor_u32 (and32 b ha) (and32 c ha)
  have e5 := xor_u32 (xor32 (and32 b ha) (and32 c ha)) (and32 c hb)
  obtain ⟨r, hr⟩ : ∃ r, r = majN a b c := ⟨_, rfl⟩
  rw [← hr]
  have e6 : ((a &&& b) ^^^ (a &&& c) ^^^ (b &&& c)) = r := by rw [hr]; rfl
  rw [e6] at e5
  clear hr ha hb hc e6
  go_enter Tryd.func36, Tryd.ntmps36
  go_wp2
  go_ret
  exact ⟨rfl, rfl⟩
end Go.Proofs.YthjfhgnmaepafaaDoor
