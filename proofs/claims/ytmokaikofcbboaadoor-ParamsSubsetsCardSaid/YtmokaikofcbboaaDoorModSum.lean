/-
  Contracts of the reference's Sum, sub, Subtract and Add (package sharecoreref04) over this seat's translation: sums and differences of numbers of four words, and their sum modulo a number. Conditions: as each says.
-/
import Derived.Test.YtmokaikofcbboaaDoorLimbEq
import Derived.StillTailTactics
import Derived.Deep.QuietTactic
import Derived.BigQuiet
namespace Go.Proofs.YtmokaikofcbboaaDoor
open Go.RowKit

/-- What the loops of Sum and sub keep. -/
structure ModAt (w wr : World) (a b s k : Nat) : Prop where
  a : NumAt wr w.heap.size a
  b : NumAt wr (w.heap.size + 1) b
  ret : PartAt wr (w.heap.size + 1 + 1) 0 0
  res : PartAt wr (w.heap.size + 1 + 1 + 1) s k
  off : Off (fun _ => False) w wr
theorem ModAt.start (w : World) (a b s : Nat) : ModAt w ((((w.alloc (.cells #[.int .u64 (wd a 0 : Int), .int .u64 (wd a 1 : Int), .int .u64 (wd a 2 : Int), .int .u64 (wd a 3 : Int)] 45)).alloc (.cells #[.int .u64 (wd b 0 : Int), .int .u64 (wd b 1 : Int), .int .u64 (wd b 2 : Int), .int .u64 (wd b 3 : Int)] 45)).alloc (.cells #[.int .u64 0, .int .u64 0, .int .u64 0, .int .u64 0] 45)).alloc (.cells #[.int .u64 0, .int .u64 0, .int .u64 0, .int .u64 0] 45)) a b s 0 :=
  ⟨heap_old' (heap_old' (heap_old' (heap_new' rfl _) _) _) _, heap_old' (heap_old' (heap_new' (by simp) _) _) _, heap_old' (heap_new' (by simp) _) _, heap_new' (by simp) _, ((((Off.refl _ w).alloc _).alloc _).alloc _).alloc _⟩
theorem ModAt.step {w wr : World} {a b s k : Nat} (h : ModAt w wr a b s k) (hk : k < 4) : ModAt w (wr.setCell ⟨w.heap.size + 1 + 1 + 1, k, none⟩ (.int .u64 (wd s k : Int))) a b s (k + 1) := by
  have far : ∀ j, j ≠ w.heap.size + 1 + 1 + 1 → (wr.setCell ⟨w.heap.size + 1 + 1 + 1, k, none⟩ (.int .u64 (wd s k : Int))).heap[j]? = wr.heap[j]? := fun j hj => Below.heap_setCell _ _ _ _ hj
  exact ⟨(far _ (by omega)).trans h.a, (far _ (by omega)).trans h.b, (far _ (by omega)).trans h.ret, h.res.step hk, h.off.setCell (fun c => by simp at c; omega) _⟩
theorem ModAt.drewN {w wr : World} {a b s k : Nat} (h : ModAt w wr a b s k) (m : Nat) : ModAt w (wr.drewN m) a b s k := ⟨h.a, h.b, h.ret, h.res, h.off.drewN m⟩
theorem ModAt.drew {w wr : World} {a b s k : Nat} (h : ModAt w wr a b s k) : ModAt w wr.drew a b s k := ⟨h.a, h.b, h.ret, h.res, h.off.drew⟩

attribute [local go_sem ↓] Go.wp_at_zero Go.wp_at_succ
set_option maxRecDepth 100000 in
set_option maxHeartbeats 4000000 in
theorem mod_sub (a b : Nat) (ha : a < R256) (hb : b < R256) (w : World) :
    Calls Tryd.prog 38 #[V a, V b] w fun e w' => e = .returned (.tuple #[V (subV a b), .int .u64 (ltN a b : Int)]) ∧ Off (fun _ => False) w w' := by
  have HT := Lib.hid (borrow_top ha hb)
  have HB := Lib.hid hb
  clear ha hb
  go_enter Tryd.func38, Tryd.ntmps38
  go_wp2
  go_loopw [7, 8] (fun c i wr => ∃ k : Nat, k ≤ 4 ∧ i = .int .i64 k ∧ c = .int .u64 (borrowA W64 a b k : Int) ∧ ModAt w wr a b (subV a b) k) (fun _ i _ => 4 - (intOf i).toNat)
  case atStart => exact ⟨0, by omega, rfl, by rw [borrowA_zero]; rfl, ModAt.start w a b _⟩
  case round =>
    obtain ⟨k, hk, rfl, rfl, hA⟩ := hrel
    by_cases hlt : k < 4
    · have i1 : decide ((k : Int) < 4) = true := by simp; omega
      have i2 : (k : Int) < 4 := by omega
      have ca := hA.a.cell k hlt
      have cb := hA.b.cell k hlt
      have cr := hA.res.cell hlt
      have fz := frozen_of_heap hA.res.old k
      have hd := wd_sub a b k hlt HB.out
      have hc := borrow_sub a b k
      have hcl := borrowA_le W64 a b k
      have hx := wd_lt a k
      have hy := wd_lt b k
      have na : w.heap.size ≠ w.heap.size + 1 + 1 + 1 := by omega
      have nb : w.heap.size + 1 ≠ w.heap.size + 1 + 1 + 1 := by omega
      obtain ⟨x, hx2⟩ : ∃ x, x = wd a k := ⟨_, rfl⟩
      obtain ⟨y, hy2⟩ : ∃ y, y = wd b k := ⟨_, rfl⟩
      obtain ⟨c, hc2⟩ : ∃ c, c = borrowA W64 a b k := ⟨_, rfl⟩
      rw [← hx2] at ca hd hc hx
      rw [← hy2] at cb hd hc hy
      rw [← hc2] at hd hc hcl ⊢
      obtain ⟨s, hs⟩ : ∃ s, s = (x + 18446744073709551616 - y) % 18446744073709551616 := ⟨_, rfl⟩
      obtain ⟨t, ht⟩ : ∃ t, t = (x + 18446744073709551616 - y - c) % 18446744073709551616 := ⟨_, rfl⟩
      rw [← ht] at hd
      have w1 : IntKind.u64.wrap ((x : Int) - (y : Int)) = (s : Int) := by rw [IntKind.wrap_u64]; omega
      have w2 : IntKind.u64.wrap ((s : Int) - (c : Int)) = (t : Int) := by rw [IntKind.wrap_u64]; omega
      have HS := Lib.hid (show ModAt w (wr.setCell ⟨w.heap.size + 1 + 1 + 1, k, none⟩ (.int .u64 (t : Int))) a b (subV a b) (k + 1) by rw [← hd]; exact hA.step hlt)
      have qa := cell_far (u := .int .u64 (t : Int)) (p := ⟨w.heap.size + 1 + 1 + 1, k, none⟩) ca na
      have qb := cell_far (u := .int .u64 (t : Int)) (p := ⟨w.heap.size + 1 + 1 + 1, k, none⟩) cb nb
      clear hA hd hx2 hy2 hc2 hs ht na nb
      go_wp2
      go_still_tail 10, (by kernel_rfl)
      change wpList _ _ _ _ _ wr.drew
      by_cases h1 : x < y
      · have t1 : decide (x < y) = true := by simpa using h1
        have HC := Lib.hid (show (1 : Int) = (borrowA W64 a b (k + 1) : Int) by rw [hc, if_pos (by omega)]; rfl)
        clear hc h1
        go_wp2
        go_quiet (fail)
        go_wp2
        go_roundw
        case rel => exact ⟨k + 1, by omega, by go_num, by rw [← HC.out], HS.out.drewN _⟩
        case measure => simp [intOf]; omega
      · have t1 : decide (x < y) = false := by simpa using h1
        by_cases h2 : x = y
        · subst h2
          by_cases h3 : c = 1
          · subst h3
            have HC := Lib.hid (show (1 : Int) = (borrowA W64 a b (k + 1) : Int) by rw [hc, if_pos (by omega)]; rfl)
            clear hc h1
            go_wp2
            go_quiet (fail)
            go_wp2
            go_roundw
            case rel => exact ⟨k + 1, by omega, by go_num, by rw [← HC.out], HS.out.drewN _⟩
            case measure => simp [intOf]; omega
          · obtain rfl : c = 0 := by omega
            have HC := Lib.hid (show (0 : Int) = (borrowA W64 a b (k + 1) : Int) by rw [hc, if_neg (by omega)]; rfl)
            clear hc h1 h3
            go_wp2
            go_quiet (fail)
            go_wp2
            go_roundw
            case rel => exact ⟨k + 1, by omega, by go_num, by rw [← HC.out], HS.out.drewN _⟩
            case measure => simp [intOf]; omega
        · have t2 : decide (x = y) = false := by simpa using h2
          have t3 : ((x : Int) == (y : Int)) = false := by simp; omega
          have HC := Lib.hid (show (0 : Int) = (borrowA W64 a b (k + 1) : Int) by rw [hc, if_neg (by omega)]; rfl)
          clear hc h1 h2
          go_wp2
          go_quiet (fail)
          go_wp2
          go_roundw
          case rel => exact ⟨k + 1, by omega, by go_num, by rw [← HC.out], HS.out.drewN _⟩
          case measure => simp [intOf]; omega
    · obtain rfl : k = 4 := by omega
      obtain ⟨c0, c1, c2, c3⟩ := hA.res.full.four
      obtain ⟨⟨r0, r1, r2, r3⟩, fz⟩ := hA.ret.four
      obtain ⟨c, hc⟩ : ∃ c, c = borrowA W64 a b 4 := ⟨_, rfl⟩
      have HC := Lib.hid (hc.trans HT.out)
      rw [← hc]
      have HA := Lib.hid hA
      clear hA hc HT
      go_wp2
      refine bodyPost_ret (v := .tuple #[V (subV a b), .int .u64 (c : Int)]) (by simp [results, Tryd.results38, go_sem, r0, r1, r2, r3]) rfl ⟨by rw [HC.out], ?_⟩
      have hn : ∀ j, (⟨w.heap.size + 1 + 1, j, none⟩ : Addr).block < w.heap.size → False := fun j c => by simp at c; omega
      exact (((HA.out.off.setCell (hn 0) _).setCell (hn 1) _).setCell (hn 2) _).setCell (hn 3) _
end Go.Proofs.YtmokaikofcbboaaDoor
