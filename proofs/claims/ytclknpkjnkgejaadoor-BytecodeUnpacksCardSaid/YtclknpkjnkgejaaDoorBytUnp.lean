/-
  Contract of Unpack of package bytecode over this seat's translation. Conditions: the field's constants are those of its modulus, the element lies below it.
-/
import Derived.Test.YtclknpkjnkgejaaDoorBytCode
import Derived.Test.YtclknpkjnkgejaaDoorFieldOps
namespace Go.Proofs.YtclknpkjnkgejaaDoor
open Go.RowKit
attribute [local go_sem ↓] Go.wp_at_zero Go.wp_at_succ
/-- What Unpack returns: the bytes and the error. -/
def unpV (v : Nat) (m : Int) : List Nat × Nat := if 0 ≤ m ∧ m ≤ 31 then (if orB ((bytesN v 32).drop m.toNat) = 0 then ((bytesN v 32).take m.toNat, 0) else ([], 10)) else ([], 8)
set_option maxRecDepth 100000 in
set_option maxHeartbeats 4000000 in
theorem unpack_any {id : Int} {p i r s : Nat} (hF : Fld id p i r s) (u : Nat) (hu : u < p) (m : Int) (hm : (Lit.int .i64 m).wf = true) (w : World) :
    Calls Tryd.prog 21 #[FV id p i r s, V u, .int .i64 m] w fun e w' => ∃ sv, e = .returned (.tuple #[sv, .int .i64 ((unpV (mm p u 1) m).2 : Int)]) ∧ SvAt w' sv (unpV (mm p u 1) m).1 ∧ Off (fun _ => False) w w' := by
  have HE := Lib.hid (fun W => encode_any hF u hu W)
  obtain ⟨v, hv⟩ : ∃ v, v = mm p u 1 := ⟨_, rfl⟩
  rw [← hv] at HE ⊢
  clear hF hu hv
  have hmr : -9223372036854775808 ≤ m ∧ m ≤ 9223372036854775807 := bounds_i64 hm
  clear hm
  by_cases hr : 0 ≤ m ∧ m ≤ 31
  · obtain ⟨k, rfl⟩ := Int.eq_ofNat_of_zero_le hr.1
    have hk : k ≤ 31 := by omega
    have hd : unpV v (k : Int) = if orB ((bytesN v 32).drop k) = 0 then ((bytesN v 32).take k, 0) else ([], 10) := by unfold unpV; rw [if_pos hr]; simp
    obtain ⟨q, hq⟩ : ∃ q, q = unpV v (k : Int) := ⟨_, rfl⟩
    rw [← hq] at hd ⊢
    have HQ := Lib.hid hd
    have i1 : decide ((k : Int) < 0) = false := by simp
    have i2 : decide ((31 : Int) < (k : Int)) = false := by simp; omega
    have i3 : ¬ ((k : Int) < 0) := by omega
    have i4 : (k : Int) ≤ 31 := by omega
    have i5 : (0 : Int) ≤ (k : Int) := by omega
    clear hd hr hmr hq
    go_enter Tryd.func21, Tryd.ntmps21
    go_wp2_with fail
    refine (HE.out _).mono ?_
    rintro e u1 ⟨g, rfl, hB, hg, hO⟩
    have hO1 : Off (fun _ => False) w u1 := (((Off.refl (fun _ => False) w).alloc _).alloc _).trans hO (fun _ _ c => c)
    have HB := Lib.hid hB
    have HO := Lib.hid hO1
    have HC := Lib.hid (fun (j : Nat) (h : j < 32) => hB.cell (bytesN_get v 32 j h))
    have hsl := slice_lo g 0 32 32 k (by omega) (by omega)
    rw [Nat.zero_add] at hsl
    clear hB hO hO1 hg HE
    obtain ⟨L, hL⟩ : ∃ L, L = (bytesN v 32).drop k := ⟨_, rfl⟩
    have hLl : L.length = 32 - k := by rw [hL]; simp [bytesN_length]
    have hLs : Small L := by rw [hL]; exact (bytesN_small v 32).drop k
    have hLg : ∀ j, j < 32 - k → L[j]? = some (by8 v (k + j)) := fun j hj => by rw [hL, List.getElem?_drop, bytesN_get _ _ _ (by omega)]
    rw [← hL] at HQ
    have HL := Lib.hid (And.intro hLl (And.intro hLs hLg))
    clear hL hLl hLs hLg
    obtain ⟨r, hr⟩ : ∃ r, r = 32 - k := ⟨_, rfl⟩
    have hrk : k + r = 32 := by omega
    rw [← hr] at hsl
    go_wp2_with fail
    go_loop [9, 25] (fun x i' => ∃ j : Nat, j ≤ r ∧ i' = .int .i64 j ∧ x = .int .u8 (orB (L.take j) : Int)) (fun _ i' => r - (intOf i').toNat)
    case atStart => exact ⟨0, by omega, rfl, rfl⟩
    case round =>
      obtain ⟨j, hj, rfl, rfl⟩ := hrel
      by_cases hlt : j < r
      · have j1 : decide ((j : Int) < (r : Int)) = true := by simp; omega
        have j2 : (j : Int) < (r : Int) := by omega
        have cb := HC.out (k + j) (by omega)
        obtain ⟨hLl, hLs, hLg⟩ := HL.out
        have hx := hLg j (by omega)
        have hb := by8_lt v (k + j)
        have ho := orB_lt (hLs.take j)
        obtain ⟨b, hbx⟩ : ∃ b, b = by8 v (k + j) := ⟨_, rfl⟩
        rw [← hbx] at cb hx hb
        have HS := Lib.hid (show bits .or .u8 (orB (L.take j) : Int) (b : Int) = (orB (L.take (j + 1)) : Int) by
          rw [u8_or_nat _ _ ho hb, ← orB_snoc]
          congr 2
          obtain ⟨h1, h2⟩ := List.getElem?_eq_some_iff.1 hx
          rw [List.take_succ_eq_append_getElem h1, h2])
        clear hLl hLs hLg hx hb ho hbx
        go_wp2
        go_round
        case rel => exact ⟨j + 1, by omega, by go_num, by rw [HS.out]⟩
        case measure => simp [intOf]; omega
      · obtain rfl : j = r := by omega
        obtain ⟨hLl, hLs, hLg⟩ := HL.out
        rw [List.take_of_length_le (by omega)]
        obtain ⟨x, hx⟩ : ∃ x, x = orB L := ⟨_, rfl⟩
        rw [← hx] at HQ ⊢
        clear hLl hLs hLg hx HL HC
        by_cases hz : x = 0
        · have HQ2 := Lib.hid (HQ.out.trans (if_pos hz))
          have hhi := slice_hi g 0 32 32 k (by omega)
          subst hz
          clear HQ
          go_wp2
          go_ret2
          have hq2 := HQ2.out
          subst hq2
          exact ⟨_, rfl, ⟨_, _, _, rfl, by simp [bytesN_length]; omega, by omega, (BsAt.of_blk (S := fun _ => True) HB.out trivial).take k⟩, HO.out⟩
        · have HQ2 := Lib.hid (HQ.out.trans (if_neg hz))
          have z1 : ¬ ((x : Int) = 0) := by omega
          clear HQ hz
          go_wp2
          go_ret2
          have hq2 := HQ2.out
          subst hq2
          exact ⟨_, rfl, ⟨_, _, _, rfl, rfl, Nat.le_refl _, BsAt.nil _ _ _⟩, HO.out⟩
  · have hd : unpV v m = ([], 8) := by unfold unpV; rw [if_neg hr]
    rw [hd]
    clear hd
    by_cases h0 : m < 0
    · have i1 : decide (m < 0) = true := by simp; omega
      clear hr hmr HE
      go_enter Tryd.func21, Tryd.ntmps21
      go_wp2
      go_ret2
      exact ⟨_, rfl, ⟨_, _, _, rfl, rfl, Nat.le_refl _, BsAt.nil _ _ _⟩, ((Off.refl _ w).alloc _).alloc _⟩
    · have i1 : decide (m < 0) = false := by simp; omega
      have i2 : decide ((31 : Int) < m) = true := by simp; omega
      clear hr hmr HE
      go_enter Tryd.func21, Tryd.ntmps21
      go_wp2
      go_ret2
      exact ⟨_, rfl, ⟨_, _, _, rfl, rfl, Nat.le_refl _, BsAt.nil _ _ _⟩, ((Off.refl _ w).alloc _).alloc _⟩
end Go.Proofs.YtclknpkjnkgejaaDoor
