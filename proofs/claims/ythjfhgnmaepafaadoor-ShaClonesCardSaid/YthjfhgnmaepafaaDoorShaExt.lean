/-
  The contract of package sha's extend over this seat's translation. Conditions: 64 bytes lie at the pointer.
-/
import Derived.Test.YthjfhgnmaepafaaDoorShaRound
import Derived.Test.YthjfhgnmaepafaaDoorInvClo
namespace Go.Proofs.YthjfhgnmaepafaaDoor
open Go.RowKit
set_option maxRecDepth 100000
set_option maxHeartbeats 4000000
set_option linter.unusedSimpArgs false
theorem WBlk.cell_some {w : World} {g : Nat} {T : TypeId} {l : List Nat} (h : WBlk w g T l) {j : Nat} (hj : j < l.length) : ∃ x, w.cell? ⟨g, j, none⟩ = some (u32v x) := ⟨l[j], h.cell (List.getElem?_eq_getElem hj)⟩
theorem WBlk.get {w : World} {g : Nat} {T : TypeId} {l : List Nat} (h : WBlk w g T l) {j : Nat} (hj : j < l.length) : w.cell? ⟨g, j, none⟩ = some (u32v (l.getD j 0)) := by
  rw [List.getD_eq_getElem?_getD, List.getElem?_eq_getElem hj]; exact h.cell (List.getElem?_eq_getElem hj)
/-- The words after t bytes. -/
def exF (b : List Nat) : Nat → List Nat
  | 0 => List.replicate 64 0
  | t + 1 => (exF b t).set (t / 4) ((exF b t).getD (t / 4) 0 * 256 % 4294967296 ||| b.getD t 0)
theorem exF_length (b : List Nat) : ∀ t, (exF b t).length = 64
  | 0 => by simp [exF]
  | t + 1 => by rw [exF, List.length_set, exF_length b t]
theorem exF_ws {b : List Nat} (hb : Sm b) : ∀ t, Ws (exF b t)
  | 0 => fun x hx => by rw [exF] at hx; rw [(List.mem_replicate.1 hx).2]; decide
  | t + 1 => fun x hx => by
    rw [exF] at hx
    rcases List.mem_or_eq_of_mem_set hx with h | h
    · exact exF_ws hb t x h
    · rw [h]; exact or32 (Nat.mod_lt _ (by decide)) (Nat.lt_of_lt_of_le (hb.get t) (by decide))
theorem shl_or {a c : Nat} (ha : a < 16777216) (hc : c < 256) : (a * 256 % 4294967296 ||| c) = a * 256 + c := by
  rw [Nat.mod_eq_of_lt (by omega), Nat.mul_comm, show (256 : Nat) = 2 ^ 8 by rfl, Nat.two_pow_add_eq_or_of_lt (show c < 2 ^ 8 from hc)]
/-- The words after t rounds of the second loop. -/
def exW (b : List Nat) (t : Nat) : List Nat := wL b t ++ List.replicate (64 - t) 0
theorem exW_length (b : List Nat) (t : Nat) (h : t ≤ 64) : (exW b t).length = 64 := by unfold exW; rw [List.length_append, wL_length, List.length_replicate]; omega
theorem exW_full (b : List Nat) : exW b 64 = wL b 64 := by simp [exW]
theorem exW_get (b : List Nat) (t j : Nat) (hj : j < t) : (exW b t).getD j 0 = (wL b t).getD j 0 := by
  unfold exW
  rw [List.getD_eq_getElem?_getD, List.getD_eq_getElem?_getD, List.getElem?_append_left (by rw [wL_length]; exact hj)]
theorem set_mid (P R : List Nat) (y z q : Nat) (h : P.length = q) : (P ++ y :: R).set q z = P ++ z :: R := by
  subst h
  rw [List.set_append_right _ _ (Nat.le_refl _), Nat.sub_self]; rfl
theorem get_mid (P R : List Nat) (y q : Nat) (h : P.length = q) : (P ++ y :: R).getD q 0 = y := by
  subst h
  rw [List.getD_eq_getElem?_getD, List.getElem?_append_right (Nat.le_refl _), Nat.sub_self]; rfl
theorem exW_set (b : List Nat) (t : Nat) (h : t < 64) : (exW b t).set t (if t < 16 then wordAt b t else nextW (wL b t) t) = exW b (t + 1) := by
  have e : List.replicate (64 - t) 0 = 0 :: List.replicate (64 - (t + 1)) 0 := by rw [show 64 - t = (64 - (t + 1)) + 1 by omega, List.replicate_succ]
  unfold exW
  rw [e, set_mid _ _ _ _ t (wL_length b t)]
  show _ = (wL b t ++ [_]) ++ _
  rw [List.append_assoc]; rfl
theorem exF_four {b : List Nat} (hb : Sm b) : ∀ q, q ≤ 16 → exF b (4 * q) = exW b q
  | 0, _ => rfl
  | q + 1, h => by
    have ih := exF_four hb q (by omega)
    have e : List.replicate (64 - q) 0 = 0 :: List.replicate (64 - (q + 1)) 0 := by rw [show 64 - q = (64 - (q + 1)) + 1 by omega, List.replicate_succ]
    have hl := wL_length b q
    have d : ∀ i, i < 4 → (4 * q + i) / 4 = q := fun i hi => by omega
    have b0 := hb.get (4 * q)
    have b1 := hb.get (4 * q + 1)
    have b2 := hb.get (4 * q + 2)
    have b3 := hb.get (4 * q + 3)
    have s0 : exF b (4 * q) = wL b q ++ 0 :: List.replicate (64 - (q + 1)) 0 := by rw [ih, exW, e]
    have s1 : exF b (4 * q + 1) = wL b q ++ (b.getD (4 * q) 0) :: List.replicate (64 - (q + 1)) 0 := by
      rw [exF, s0, show 4 * q / 4 = q by omega, get_mid _ _ _ q hl, set_mid _ _ _ _ q hl, shl_or (by decide) b0]; simp
    have s2 : exF b (4 * q + 2) = wL b q ++ (b.getD (4 * q) 0 * 256 + b.getD (4 * q + 1) 0) :: List.replicate (64 - (q + 1)) 0 := by
      rw [exF, s1, d 1 (by decide), get_mid _ _ _ q hl, set_mid _ _ _ _ q hl, shl_or (by omega) b1]
    have s3 : exF b (4 * q + 3) = wL b q ++ ((b.getD (4 * q) 0 * 256 + b.getD (4 * q + 1) 0) * 256 + b.getD (4 * q + 2) 0) :: List.replicate (64 - (q + 1)) 0 := by
      rw [exF, s2, d 2 (by decide), get_mid _ _ _ q hl, set_mid _ _ _ _ q hl, shl_or (by omega) b2]
    show exF b (4 * q + 3 + 1) = _
    rw [exF, s3, d 3 (by decide), get_mid _ _ _ q hl, set_mid _ _ _ _ q hl, shl_or (by omega) b3]
    unfold exW
    show _ = (wL b q ++ [_]) ++ _
    rw [if_pos (by omega), List.append_assoc]
    congr 1
    show _ :: _ = _ :: _
    congr 1
    unfold wordAt word4
    omega
theorem scatter_off (x a b c s : Nat) (hx : x < 4294967296) (ha0 : 0 < a) (ha : a < 32) (hb0 : 0 < b) (hb : b < 32) (hc : c < 32) (hs : s = (ror x a ^^^ ror x b ^^^ shrN x c)) (w : World) :
    Calls Tryd.prog 33 #[u32v x, .int .i64 (a : Int), .int .i64 (b : Int), .int .i64 (c : Int)] w fun e w' => e = .returned (u32v s) ∧ Off (fun _ => False) w w' :=
  (scatter_any x a b c hx ha0 ha hb0 hb hc w).mono fun e w' ⟨h1, m, h2⟩ => ⟨by rw [h1, hs], by rw [h2]; exact off_drewN (Off.refl _ w) m⟩
theorem extend_any (b : List Nat) (g off : Nat) (w : World) (hs : Sm b) (hl : b.length = 64) (hb : ∀ j x, b[j]? = some x → w.cell? ⟨g, off + j, none⟩ = some (u8v x)) :
    Calls Tryd.prog 29 #[.pointer (some ⟨g, off, none⟩)] w fun e w' => e = .returned (.agg ((wL b 64).map u32v).toArray) ∧ Off (fun _ => False) w w' := by
  obtain ⟨Z, hZ⟩ : ∃ Z : Array Value, Z = #[.int .u32 0, .int .u32 0, .int .u32 0, .int .u32 0, .int .u32 0, .int .u32 0, .int .u32 0, .int .u32 0, .int .u32 0, .int .u32 0, .int .u32 0, .int .u32 0, .int .u32 0, .int .u32 0, .int .u32 0, .int .u32 0, .int .u32 0, .int .u32 0, .int .u32 0, .int .u32 0, .int .u32 0, .int .u32 0, .int .u32 0, .int .u32 0, .int .u32 0, .int .u32 0, .int .u32 0, .int .u32 0, .int .u32 0, .int .u32 0, .int .u32 0, .int .u32 0, .int .u32 0, .int .u32 0, .int .u32 0, .int .u32 0, .int .u32 0, .int .u32 0, .int .u32 0, .int .u32 0, .int .u32 0, .int .u32 0, .int .u32 0, .int .u32 0, .int .u32 0, .int .u32 0, .int .u32 0, .int .u32 0, .int .u32 0, .int .u32 0, .int .u32 0, .int .u32 0, .int .u32 0, .int .u32 0, .int .u32 0, .int .u32 0, .int .u32 0, .int .u32 0, .int .u32 0, .int .u32 0, .int .u32 0, .int .u32 0, .int .u32 0, .int .u32 0] := ⟨_, rfl⟩
  have hZw : Z = ((List.replicate 64 0).map u32v).toArray := by rw [hZ]; rfl
  obtain ⟨w1, hw1⟩ : ∃ w1, w1 = w.alloc (.cells Z 54) := ⟨_, rfl⟩
  have hR : w1.heap[w.heap.size]? = some (.cells Z 54) := by rw [hw1]; exact heap_new' rfl _
  have ho1 : Off (fun _ => False) w w1 := by rw [hw1]; exact (Off.refl _ w).alloc _
  have hsz : w1.heap.size = w.heap.size + 1 := by rw [hw1]; exact World.size_alloc _ _
  have hB1 : WBlk (w1.alloc (.cells Z 54)) w1.heap.size 54 (exF b 0) := by
    unfold WBlk; rw [heap_new' rfl _, hZw]; rfl
  have HZ := Lib.hid hZ
  have HW1 := Lib.hid hw1
  have HR := Lib.hid hR
  have HO1 := Lib.hid ho1
  have HSZ := Lib.hid hsz
  have HB1 := Lib.hid hB1
  have HB := Lib.hid hb
  have HS := Lib.hid hs
  have HL := Lib.hid hl
  clear hZw hw1 hR ho1 hsz hB1 hb hs hl hZ
  go_enter Tryd.func29, Tryd.ntmps29
  go_wp2
  rw [← HZ.out, ← HW1.out]
  obtain ⟨gl, hgl⟩ : ∃ gl, gl = w1.heap.size := ⟨_, rfl⟩
  obtain ⟨w2, hw2⟩ : ∃ w2, w2 = w1.alloc (.cells Z 54) := ⟨_, rfl⟩
  rw [← hw2, ← hgl] at HB1
  rw [← hw2, ← HSZ.out, ← hgl]
  have HO2 := Lib.hid (show Off (fun _ => False) w1 w2 by rw [hw2]; exact (Off.refl _ w1).alloc _)
  have HGL := Lib.hid hgl
  clear hw2 hgl
  go_loopw [8] (fun i wr => ∃ t : Nat, t ≤ 64 ∧ i = .int .i64 (t : Int) ∧ WBlk wr gl 54 (exF b t) ∧ Off (fun _ => False) w1 wr) (fun i _ => 64 - (intOf i).toNat)
  case atStart => exact ⟨0, by omega, rfl, HB1.out, HO2.out⟩
  case round =>
    obtain ⟨t, ht, rfl, hb, hO⟩ := hrel
    by_cases hlt : t < 64
    · have i1 : decide ((t : Int) < 64) = true := by simp; omega
      have i2 : (t : Int) < 64 := by omega
      have i3 : IntKind.i64.wrap ((t : Int) + 1) = ((t + 1 : Nat) : Int) := by rw [IntKind.wrap_i64]; omega
      have i4 : (t : Int) / 4 = ((t / 4 : Nat) : Int) := by omega
      have hc0 : wr.cell? ⟨g, off + t, none⟩ = some (u8v (b.getD t 0)) := by
        have h : t < b.length := by rw [HL.out]; exact hlt
        rw [List.getD_eq_getElem?_getD, List.getElem?_eq_getElem h]
        exact (HO1.out.trans hO (fun _ _ c => c)).cell (HB.out _ _ (List.getElem?_eq_getElem h)) (fun c => c)
      have lc := HS.out.get t
      have hc1 : wr.cell? ⟨gl, t / 4, none⟩ = some (u32v ((exF b t).getD (t / 4) 0)) := hb.get (by rw [exF_length]; omega)
      have lx := (exF_ws HS.out t).get (t / 4)
      have hst := hb.store (t / 4) ((exF b t).getD (t / 4) 0 * 256 % 4294967296 ||| b.getD t 0)
      have hst : WBlk _ gl 54 (exF b (t + 1)) := hst
      have e1 : IntKind.u32.wrap (((exF b t).getD (t / 4) 0 : Int) * 2 ^ 8) = (((exF b t).getD (t / 4) 0 * 256 % 4294967296 : Nat) : Int) := by rw [IntKind.wrap_u32]; omega
      have e1' : ((exF b t).getD (t / 4) 0 : Int) * 256 % 4294967296 = (((exF b t).getD (t / 4) 0 * 256 % 4294967296 : Nat) : Int) := by omega
      have e2 := or_u32 (a := (exF b t).getD (t / 4) 0 * 256 % 4294967296) (b := b.getD t 0) (Nat.mod_lt _ (by decide)) (by omega)
      have e3 : IntKind.u32.wrap (b.getD t 0 : Int) = (b.getD t 0 : Int) := by rw [IntKind.wrap_u32]; omega
      have fz := frozen_of_heap hb (t / 4)
      have lt := heap_lt hb
      have i5 : ((t / 4 : Nat) : Int) < 64 := by omega
      have i6 : t / 4 < 64 := by omega
      obtain ⟨q, hq⟩ : ∃ q, q = t / 4 := ⟨_, rfl⟩
      rw [← hq] at i4 i5 i6 hc1 hst e1 e1' e2 fz
      obtain ⟨c, hc⟩ : ∃ c, c = b.getD t 0 := ⟨_, rfl⟩
      obtain ⟨x, hx⟩ : ∃ x, x = (exF b t).getD q 0 := ⟨_, rfl⟩
      rw [← hc] at hc0 hst e2 e3
      rw [← hx] at hc1 hst e1 e1' e2
      obtain ⟨y, hy⟩ : ∃ y, y = x * 256 % 4294967296 := ⟨_, rfl⟩
      rw [← hy] at e1 e1' e2 hst
      obtain ⟨z, hz⟩ : ∃ z, z = y ||| c := ⟨_, rfl⟩
      rw [← hz] at e2 hst
      have HST := Lib.hid hst
      have HO := Lib.hid (hO.setCell (p := ⟨gl, q, none⟩) (fun h => by have := HGL.out; simp at h; omega) (u32v z))
      clear hst hO hb lx lc hq hc hx hy hz
      go_upto_region 4 with fail
      go_region
      go_wp2_with fail
      go_roundw
      case rel => exact ⟨t + 1, by omega, rfl, HST.out, HO.out.drew⟩
      case measure => simp [intOf] <;> omega
    · obtain rfl : t = 64 := by omega
      have i1 : decide (((64 : Nat) : Int) < 64) = false := by decide
      have hb : WBlk wr gl 54 (exW b 16) := by rw [← exF_four HS.out 16 (Nat.le_refl _)]; exact hb
      have HBW := Lib.hid hb
      have HOW := Lib.hid hO
      clear hb hO
      obtain ⟨w3, rfl⟩ : ∃ w3, w3 = wr := ⟨_, rfl⟩
      go_wp2_with fail
      go_loopw [6] (fun i wr => ∃ t : Nat, 16 ≤ t ∧ t ≤ 64 ∧ i = .int .i64 (t : Int) ∧ WBlk wr gl 54 (exW b t) ∧ Off (fun _ => False) w1 wr) (fun i _ => 64 - (intOf i).toNat)
      case atStart => exact ⟨16, by omega, by omega, rfl, HBW.out, HOW.out⟩
      case round =>
        obtain ⟨t, ht16, ht, rfl, hb, hO⟩ := hrel
        by_cases hlt : t < 64
        · have i1 : decide ((t : Int) < 64) = true := by simp; omega
          have i2 : (t : Int) < 64 := by omega
          have i3 : IntKind.i64.wrap ((t : Int) + 1) = ((t + 1 : Nat) : Int) := by rw [IntKind.wrap_i64]; omega
          have hlen := exW_length b t ht
          have hget : ∀ j, j < t → ∀ W, Off (fun _ => False) wr W → W.cell? ⟨gl, j, none⟩ = some (u32v ((wL b t).getD j 0)) := fun j hj W h => by
            rw [← exW_get b t j hj]; exact h.cell (hb.get (by rw [hlen]; omega)) (fun c => c)
          have hWs := wL_ws HS.out t
          have D0 := Lib.hid (hget (t - 2) (by omega))
          have D1 := Lib.hid (hget (t - 15) (by omega))
          have D2 := Lib.hid (hget (t - 7) (by omega))
          have D3 := Lib.hid (hget (t - 16) (by omega))
          have lx := hWs.get (t - 2)
          have ly := hWs.get (t - 15)
          have lp := hWs.get (t - 7)
          have lq := hWs.get (t - 16)
          have hyw := exW_set b t hlt
          rw [if_neg (by omega)] at hyw
          unfold nextW at hyw
          obtain ⟨x, hx⟩ : ∃ x, x = (wL b t).getD (t - 2) 0 := ⟨_, rfl⟩
          obtain ⟨y, hy⟩ : ∃ x, x = (wL b t).getD (t - 15) 0 := ⟨_, rfl⟩
          obtain ⟨p7, hp7⟩ : ∃ x, x = (wL b t).getD (t - 7) 0 := ⟨_, rfl⟩
          obtain ⟨p6, hp6⟩ : ∃ x, x = (wL b t).getD (t - 16) 0 := ⟨_, rfl⟩
          rw [← hx] at D0 lx
          rw [← hy] at D1 ly
          rw [← hp7] at D2 lp
          rw [← hp6] at D3 lq
          rw [← hx, ← hy, ← hp7, ← hp6] at hyw
          have m0 : IntKind.i64.wrap ((t : Int) - 2) = ((t - 2 : Nat) : Int) := by rw [IntKind.wrap_i64]; omega
          have m1 : IntKind.i64.wrap ((t : Int) - 15) = ((t - 15 : Nat) : Int) := by rw [IntKind.wrap_i64]; omega
          have m2 : IntKind.i64.wrap ((t : Int) - 7) = ((t - 7 : Nat) : Int) := by rw [IntKind.wrap_i64]; omega
          have m3 : IntKind.i64.wrap ((t : Int) - 16) = ((t - 16 : Nat) : Int) := by rw [IntKind.wrap_i64]; omega
          obtain ⟨q0, hq0⟩ : ∃ q, q = t - 2 := ⟨_, rfl⟩
          obtain ⟨q1, hq1⟩ : ∃ q, q = t - 15 := ⟨_, rfl⟩
          obtain ⟨q2, hq2⟩ : ∃ q, q = t - 7 := ⟨_, rfl⟩
          obtain ⟨q3, hq3⟩ : ∃ q, q = t - 16 := ⟨_, rfl⟩
          rw [← hq0] at D0 m0
          rw [← hq1] at D1 m1
          rw [← hq2] at D2 m2
          rw [← hq3] at D3 m3
          have b0 : (q0 : Int) < 64 := by omega
          have b1 : (q1 : Int) < 64 := by omega
          have b2 : (q2 : Int) < 64 := by omega
          have b3 : (q3 : Int) < 64 := by omega
          obtain ⟨s1, hs1⟩ : ∃ s, s = sig1 x := ⟨_, rfl⟩
          obtain ⟨s0, hs0⟩ : ∃ s, s = sig0 y := ⟨_, rfl⟩
          have FS1 := Lib.hid (fun W => scatter_off x 17 19 10 s1 lx (by decide) (by decide) (by decide) (by decide) (by decide) hs1 W)
          have FS0 := Lib.hid (fun W => scatter_off y 7 18 3 s0 ly (by decide) (by decide) (by decide) (by decide) (by decide) hs0 W)
          have ls1 := sig1_lt lx
          have ls0 := sig0_lt ly
          rw [← hs1] at hyw ls1
          rw [← hs0] at hyw ls0
          have g1 : IntKind.u32.wrap ((s1 : Int) + (p7 : Int)) = (((s1 + p7) % 4294967296 : Nat) : Int) := by rw [IntKind.wrap_u32]; omega
          have g2 : IntKind.u32.wrap ((((s1 + p7) % 4294967296 : Nat) : Int) + (s0 : Int)) = (((s1 + p7 + s0) % 4294967296 : Nat) : Int) := by rw [IntKind.wrap_u32]; omega
          have g3 : IntKind.u32.wrap ((((s1 + p7 + s0) % 4294967296 : Nat) : Int) + (p6 : Int)) = (((s1 + p7 + s0 + p6) % 4294967296 : Nat) : Int) := by rw [IntKind.wrap_u32]; omega
          obtain ⟨z1, hz1⟩ : ∃ z, z = (s1 + p7) % 4294967296 := ⟨_, rfl⟩
          obtain ⟨z2, hz2⟩ : ∃ z, z = (s1 + p7 + s0) % 4294967296 := ⟨_, rfl⟩
          obtain ⟨yy, hyy⟩ : ∃ z, z = (s1 + p7 + s0 + p6) % 4294967296 := ⟨_, rfl⟩
          rw [← hz1] at g1 g2
          rw [← hz2] at g2 g3
          rw [← hyy] at g3 hyw
          have HYW := Lib.hid hyw
          have HBq := Lib.hid hb
          have HOq := Lib.hid hO
          have HT64 := Lib.hid (show t < (exW b t).length by rw [hlen]; exact hlt)
          clear hget hWs hyw hb hO hx hy hp7 hp6 lx ly lp lq hq0 hq1 hq2 hq3 hs1 hs0 ls1 ls0 hz1 hz2 hyy hlen
          obtain ⟨wq, rfl⟩ : ∃ wq, wq = wr := ⟨_, rfl⟩
          go_upto_region 10 with fail
          obtain ⟨x30, hx⟩ : ∃ vv : Value, vv = .int .i64 (t : Int) := ⟨_, rfl⟩
          have X30 := Lib.hid hx
          clear hx
          obtain ⟨x31, hx⟩ : ∃ vv : Value, vv = .int .i64 (t : Int) := ⟨_, rfl⟩
          have X31 := Lib.hid hx
          clear hx
          obtain ⟨x32, hx⟩ : ∃ vv : Value, vv = .int .i64 (q0 : Int) := ⟨_, rfl⟩
          have X32 := Lib.hid hx
          clear hx
          obtain ⟨x33, hx⟩ : ∃ vv : Value, vv = .pointer (some ⟨gl, q0, none⟩) := ⟨_, rfl⟩
          have X33 := Lib.hid hx
          clear hx
          obtain ⟨x34, hx⟩ : ∃ vv : Value, vv = u32v x := ⟨_, rfl⟩
          have X34 := Lib.hid hx
          clear hx
          obtain ⟨x35, hx⟩ : ∃ vv : Value, vv = u32v s1 := ⟨_, rfl⟩
          have X35 := Lib.hid hx
          clear hx
          obtain ⟨x36, hx⟩ : ∃ vv : Value, vv = .int .i64 (t : Int) := ⟨_, rfl⟩
          have X36 := Lib.hid hx
          clear hx
          obtain ⟨x37, hx⟩ : ∃ vv : Value, vv = .int .i64 (q2 : Int) := ⟨_, rfl⟩
          have X37 := Lib.hid hx
          clear hx
          obtain ⟨x38, hx⟩ : ∃ vv : Value, vv = .pointer (some ⟨gl, q2, none⟩) := ⟨_, rfl⟩
          have X38 := Lib.hid hx
          clear hx
          obtain ⟨x39, hx⟩ : ∃ vv : Value, vv = u32v p7 := ⟨_, rfl⟩
          have X39 := Lib.hid hx
          clear hx
          obtain ⟨x40, hx⟩ : ∃ vv : Value, vv = .int .u32 (z1 : Int) := ⟨_, rfl⟩
          have X40 := Lib.hid hx
          clear hx
          obtain ⟨x41, hx⟩ : ∃ vv : Value, vv = .int .i64 (t : Int) := ⟨_, rfl⟩
          have X41 := Lib.hid hx
          clear hx
          obtain ⟨x42, hx⟩ : ∃ vv : Value, vv = .int .i64 (q1 : Int) := ⟨_, rfl⟩
          have X42 := Lib.hid hx
          clear hx
          obtain ⟨x43, hx⟩ : ∃ vv : Value, vv = .pointer (some ⟨gl, q1, none⟩) := ⟨_, rfl⟩
          have X43 := Lib.hid hx
          clear hx
          obtain ⟨x44, hx⟩ : ∃ vv : Value, vv = u32v y := ⟨_, rfl⟩
          have X44 := Lib.hid hx
          clear hx
          obtain ⟨x45, hx⟩ : ∃ vv : Value, vv = u32v s0 := ⟨_, rfl⟩
          have X45 := Lib.hid hx
          clear hx
          obtain ⟨x46, hx⟩ : ∃ vv : Value, vv = .int .u32 (z2 : Int) := ⟨_, rfl⟩
          have X46 := Lib.hid hx
          clear hx
          obtain ⟨x47, hx⟩ : ∃ vv : Value, vv = .int .i64 (t : Int) := ⟨_, rfl⟩
          have X47 := Lib.hid hx
          clear hx
          obtain ⟨x48, hx⟩ : ∃ vv : Value, vv = .int .i64 (q3 : Int) := ⟨_, rfl⟩
          have X48 := Lib.hid hx
          clear hx
          obtain ⟨x49, hx⟩ : ∃ vv : Value, vv = .pointer (some ⟨gl, q3, none⟩) := ⟨_, rfl⟩
          have X49 := Lib.hid hx
          clear hx
          obtain ⟨x50, hx⟩ : ∃ vv : Value, vv = u32v p6 := ⟨_, rfl⟩
          have X50 := Lib.hid hx
          clear hx
          obtain ⟨x51, hx⟩ : ∃ vv : Value, vv = .int .u32 (yy : Int) := ⟨_, rfl⟩
          have X51 := Lib.hid hx
          clear hx
          obtain ⟨x52, hx⟩ : ∃ vv : Value, vv = .pointer (some ⟨gl, t, none⟩) := ⟨_, rfl⟩
          have X52 := Lib.hid hx
          clear hx
          refine wp_region_clo (fun a0 l a' w' => a' = (fill a0 30 [sel (l 0) x30 u30, sel (l 1) x31 u31, sel (l 2) x32 u32, sel (l 3) x33 u33, sel (l 4) x34 u34, sel (l 5) x35 u35, sel (l 6) x36 u36, sel (l 7) x37 u37, sel (l 8) x38 u38, sel (l 9) x39 u39, sel (l 10) x40 u40, sel (l 11) x41 u41, sel (l 12) x42 u42, sel (l 13) x43 u43, sel (l 14) x44 u44, sel (l 15) x45 u45, sel (l 16) x46 u46, sel (l 17) x47 u47, sel (l 18) x48 u48, sel (l 19) x49 u49, sel (l 20) x50 u50, sel (l 21) x51 u51, sel (l 22) x52 u52, undef]) ∧ (l 23 = false → Off (fun _ => False) wq w') ∧ (l 23 = true → WBlk w' gl 54 (exW b (t + 1)) ∧ Off (fun j => j = gl) wq w')) (by kernel_rfl) (by kernel_rfl) ?_ ⟨?_, ?_, ?_, ?_, ?_, ?_, ?_, ?_, ?_, ?_, ?_, ?_, ?_, ?_, ?_, ?_, ?_, ?_, ?_, ?_, ?_, ?_, ?_, ?_, trivial⟩ ?_
          · refine ⟨?_, fun _ => (Off.refl _ wq).drew, fun h => by cases h⟩
            simp only [fill_eq, List.take_succ_cons, List.take_zero, List.cons_append, List.nil_append, Act.put, List.setIfInBounds_toArray, List.set_cons_zero, List.set_cons_succ, sel_start]
            try rfl
          · as_aux_lemma =>
              rintro l a wr ⟨ha, hA, hB⟩ hc hl hd K' hK
              have hx := X30.out; subst hx
              simp only [fill_eq, List.take_succ_cons, List.take_zero, List.cons_append, List.nil_append, Act.put, List.setIfInBounds_toArray, List.set_cons_zero, List.set_cons_succ] at ha
              subst ha
              have g' := hc.not (i := 23) hl 24 (by kernel_rfl)
              have hO := hA g'
              have g := Lib.hid g'
              clear g'
              rw [if_pos (by rfl)]
              go_simp
              refine Shut.out hK _ _ ⟨?_, fun _ => hO, (fun h => absurd h (by rw [show upd l 0 23 = false from g.out]; decide))⟩
              · simp only [fill_eq, List.take_succ_cons, List.take_zero, List.cons_append, List.nil_append, Act.put, List.setIfInBounds_toArray, List.set_cons_zero, List.set_cons_succ, sel_new]
                try rfl
          · as_aux_lemma =>
              rintro l a wr ⟨ha, hA, hB⟩ hc hl hd K' hK
              have hx := X31.out; subst hx
              simp only [fill_eq, List.take_succ_cons, List.take_zero, List.cons_append, List.nil_append, Act.put, List.setIfInBounds_toArray, List.set_cons_zero, List.set_cons_succ] at ha
              subst ha
              have g' := hc.not (i := 23) hl 24 (by kernel_rfl)
              have hO := hA g'
              have g := Lib.hid g'
              clear g'
              rw [if_pos (by rfl)]
              go_simp
              refine Shut.out hK _ _ ⟨?_, fun _ => hO, (fun h => absurd h (by rw [show upd l 1 23 = false from g.out]; decide))⟩
              · simp only [fill_eq, List.take_succ_cons, List.take_zero, List.cons_append, List.nil_append, Act.put, List.setIfInBounds_toArray, List.set_cons_zero, List.set_cons_succ, sel_new]
                try rfl
          · as_aux_lemma =>
              rintro l a wr ⟨ha, hA, hB⟩ hc hl hd K' hK
              have d1 := hd 1 (by decide)
              have hx := X31.out; subst hx
              have hx := X32.out; subst hx
              simp only [fill_eq, List.take_succ_cons, List.take_zero, List.cons_append, List.nil_append, Act.put, List.setIfInBounds_toArray, List.set_cons_zero, List.set_cons_succ, sel_of d1] at ha
              subst ha
              have g' := hc.not (i := 23) hl 24 (by kernel_rfl)
              have hO := hA g'
              have g := Lib.hid g'
              clear g'
              rw [if_pos (by rfl)]
              go_simp
              refine Shut.out hK _ _ ⟨?_, fun _ => hO, (fun h => absurd h (by rw [show upd l 2 23 = false from g.out]; decide))⟩
              · simp only [fill_eq, List.take_succ_cons, List.take_zero, List.cons_append, List.nil_append, Act.put, List.setIfInBounds_toArray, List.set_cons_zero, List.set_cons_succ, sel_new, sel_dep d1]
                try rfl
          · as_aux_lemma =>
              rintro l a wr ⟨ha, hA, hB⟩ hc hl hd K' hK
              have d2 := hd 2 (by decide)
              have hx := X32.out; subst hx
              have hx := X33.out; subst hx
              simp only [fill_eq, List.take_succ_cons, List.take_zero, List.cons_append, List.nil_append, Act.put, List.setIfInBounds_toArray, List.set_cons_zero, List.set_cons_succ, sel_of d2] at ha
              subst ha
              have g' := hc.not (i := 23) hl 24 (by kernel_rfl)
              have hO := hA g'
              have g := Lib.hid g'
              clear g'
              rw [if_pos (by rfl)]
              go_simp
              refine Shut.out hK _ _ ⟨?_, fun _ => hO, (fun h => absurd h (by rw [show upd l 3 23 = false from g.out]; decide))⟩
              · simp only [fill_eq, List.take_succ_cons, List.take_zero, List.cons_append, List.nil_append, Act.put, List.setIfInBounds_toArray, List.set_cons_zero, List.set_cons_succ, sel_new, sel_dep d2]
                try rfl
          · as_aux_lemma =>
              rintro l a wr ⟨ha, hA, hB⟩ hc hl hd K' hK
              have d3 := hd 3 (by decide)
              have hx := X33.out; subst hx
              have hx := X34.out; subst hx
              simp only [fill_eq, List.take_succ_cons, List.take_zero, List.cons_append, List.nil_append, Act.put, List.setIfInBounds_toArray, List.set_cons_zero, List.set_cons_succ, sel_of d3] at ha
              subst ha
              have g' := hc.not (i := 23) hl 24 (by kernel_rfl)
              have hO := hA g'
              have g := Lib.hid g'
              clear g'
              have p := D0.out wr hO
              rw [if_pos (by rfl)]
              go_simp
              refine Shut.out hK _ _ ⟨?_, fun _ => hO, (fun h => absurd h (by rw [show upd l 4 23 = false from g.out]; decide))⟩
              · simp only [fill_eq, List.take_succ_cons, List.take_zero, List.cons_append, List.nil_append, Act.put, List.setIfInBounds_toArray, List.set_cons_zero, List.set_cons_succ, sel_new, sel_dep d3]
                try rfl
          · as_aux_lemma =>
              rintro l a wr ⟨ha, hA, hB⟩ hc hl hd K' hK
              have d4 := hd 4 (by decide)
              have hx := X34.out; subst hx
              have hx := X35.out; subst hx
              simp only [fill_eq, List.take_succ_cons, List.take_zero, List.cons_append, List.nil_append, Act.put, List.setIfInBounds_toArray, List.set_cons_zero, List.set_cons_succ, sel_of d4] at ha
              subst ha
              have g' := hc.not (i := 23) hl 24 (by kernel_rfl)
              have hO := hA g'
              have g := Lib.hid g'
              clear g'
              rw [if_pos (by rfl)]
              go_simp
              refine (held_inv (FS1.out wr) hO).mono ?_
              rintro e w1 ⟨rfl, hO1, hOW⟩
              go_wp2_with fail
              refine Shut.out hK _ _ ⟨?_, fun _ => hO1, (fun h => absurd h (by rw [show upd l 5 23 = false from g.out]; decide))⟩
              · simp only [fill_eq, List.take_succ_cons, List.take_zero, List.cons_append, List.nil_append, Act.put, List.setIfInBounds_toArray, List.set_cons_zero, List.set_cons_succ, sel_new, sel_dep d4]
                try rfl
          · as_aux_lemma =>
              rintro l a wr ⟨ha, hA, hB⟩ hc hl hd K' hK
              have hx := X36.out; subst hx
              simp only [fill_eq, List.take_succ_cons, List.take_zero, List.cons_append, List.nil_append, Act.put, List.setIfInBounds_toArray, List.set_cons_zero, List.set_cons_succ] at ha
              subst ha
              have g' := hc.not (i := 23) hl 24 (by kernel_rfl)
              have hO := hA g'
              have g := Lib.hid g'
              clear g'
              rw [if_pos (by rfl)]
              go_simp
              refine Shut.out hK _ _ ⟨?_, fun _ => hO, (fun h => absurd h (by rw [show upd l 6 23 = false from g.out]; decide))⟩
              · simp only [fill_eq, List.take_succ_cons, List.take_zero, List.cons_append, List.nil_append, Act.put, List.setIfInBounds_toArray, List.set_cons_zero, List.set_cons_succ, sel_new]
                try rfl
          · as_aux_lemma =>
              rintro l a wr ⟨ha, hA, hB⟩ hc hl hd K' hK
              have d6 := hd 6 (by decide)
              have hx := X36.out; subst hx
              have hx := X37.out; subst hx
              simp only [fill_eq, List.take_succ_cons, List.take_zero, List.cons_append, List.nil_append, Act.put, List.setIfInBounds_toArray, List.set_cons_zero, List.set_cons_succ, sel_of d6] at ha
              subst ha
              have g' := hc.not (i := 23) hl 24 (by kernel_rfl)
              have hO := hA g'
              have g := Lib.hid g'
              clear g'
              rw [if_pos (by rfl)]
              go_simp
              refine Shut.out hK _ _ ⟨?_, fun _ => hO, (fun h => absurd h (by rw [show upd l 7 23 = false from g.out]; decide))⟩
              · simp only [fill_eq, List.take_succ_cons, List.take_zero, List.cons_append, List.nil_append, Act.put, List.setIfInBounds_toArray, List.set_cons_zero, List.set_cons_succ, sel_new, sel_dep d6]
                try rfl
          · as_aux_lemma =>
              rintro l a wr ⟨ha, hA, hB⟩ hc hl hd K' hK
              have d7 := hd 7 (by decide)
              have hx := X37.out; subst hx
              have hx := X38.out; subst hx
              simp only [fill_eq, List.take_succ_cons, List.take_zero, List.cons_append, List.nil_append, Act.put, List.setIfInBounds_toArray, List.set_cons_zero, List.set_cons_succ, sel_of d7] at ha
              subst ha
              have g' := hc.not (i := 23) hl 24 (by kernel_rfl)
              have hO := hA g'
              have g := Lib.hid g'
              clear g'
              rw [if_pos (by rfl)]
              go_simp
              refine Shut.out hK _ _ ⟨?_, fun _ => hO, (fun h => absurd h (by rw [show upd l 8 23 = false from g.out]; decide))⟩
              · simp only [fill_eq, List.take_succ_cons, List.take_zero, List.cons_append, List.nil_append, Act.put, List.setIfInBounds_toArray, List.set_cons_zero, List.set_cons_succ, sel_new, sel_dep d7]
                try rfl
          · as_aux_lemma =>
              rintro l a wr ⟨ha, hA, hB⟩ hc hl hd K' hK
              have d8 := hd 8 (by decide)
              have hx := X38.out; subst hx
              have hx := X39.out; subst hx
              simp only [fill_eq, List.take_succ_cons, List.take_zero, List.cons_append, List.nil_append, Act.put, List.setIfInBounds_toArray, List.set_cons_zero, List.set_cons_succ, sel_of d8] at ha
              subst ha
              have g' := hc.not (i := 23) hl 24 (by kernel_rfl)
              have hO := hA g'
              have g := Lib.hid g'
              clear g'
              have p := D2.out wr hO
              rw [if_pos (by rfl)]
              go_simp
              refine Shut.out hK _ _ ⟨?_, fun _ => hO, (fun h => absurd h (by rw [show upd l 9 23 = false from g.out]; decide))⟩
              · simp only [fill_eq, List.take_succ_cons, List.take_zero, List.cons_append, List.nil_append, Act.put, List.setIfInBounds_toArray, List.set_cons_zero, List.set_cons_succ, sel_new, sel_dep d8]
                try rfl
          · as_aux_lemma =>
              rintro l a wr ⟨ha, hA, hB⟩ hc hl hd K' hK
              have d5 := hd 5 (by decide)
              have d9 := hd 9 (by decide)
              have hx := X35.out; subst hx
              have hx := X39.out; subst hx
              have hx := X40.out; subst hx
              simp only [fill_eq, List.take_succ_cons, List.take_zero, List.cons_append, List.nil_append, Act.put, List.setIfInBounds_toArray, List.set_cons_zero, List.set_cons_succ, sel_of d5, sel_of d9] at ha
              subst ha
              have g' := hc.not (i := 23) hl 24 (by kernel_rfl)
              have hO := hA g'
              have g := Lib.hid g'
              clear g'
              rw [if_pos (by rfl)]
              go_simp
              refine Shut.out hK _ _ ⟨?_, fun _ => hO, (fun h => absurd h (by rw [show upd l 10 23 = false from g.out]; decide))⟩
              · simp only [fill_eq, List.take_succ_cons, List.take_zero, List.cons_append, List.nil_append, Act.put, List.setIfInBounds_toArray, List.set_cons_zero, List.set_cons_succ, sel_new, sel_dep d5, sel_dep d9]
                try rfl
          · as_aux_lemma =>
              rintro l a wr ⟨ha, hA, hB⟩ hc hl hd K' hK
              have hx := X41.out; subst hx
              simp only [fill_eq, List.take_succ_cons, List.take_zero, List.cons_append, List.nil_append, Act.put, List.setIfInBounds_toArray, List.set_cons_zero, List.set_cons_succ] at ha
              subst ha
              have g' := hc.not (i := 23) hl 24 (by kernel_rfl)
              have hO := hA g'
              have g := Lib.hid g'
              clear g'
              rw [if_pos (by rfl)]
              go_simp
              refine Shut.out hK _ _ ⟨?_, fun _ => hO, (fun h => absurd h (by rw [show upd l 11 23 = false from g.out]; decide))⟩
              · simp only [fill_eq, List.take_succ_cons, List.take_zero, List.cons_append, List.nil_append, Act.put, List.setIfInBounds_toArray, List.set_cons_zero, List.set_cons_succ, sel_new]
                try rfl
          · as_aux_lemma =>
              rintro l a wr ⟨ha, hA, hB⟩ hc hl hd K' hK
              have d11 := hd 11 (by decide)
              have hx := X41.out; subst hx
              have hx := X42.out; subst hx
              simp only [fill_eq, List.take_succ_cons, List.take_zero, List.cons_append, List.nil_append, Act.put, List.setIfInBounds_toArray, List.set_cons_zero, List.set_cons_succ, sel_of d11] at ha
              subst ha
              have g' := hc.not (i := 23) hl 24 (by kernel_rfl)
              have hO := hA g'
              have g := Lib.hid g'
              clear g'
              rw [if_pos (by rfl)]
              go_simp
              refine Shut.out hK _ _ ⟨?_, fun _ => hO, (fun h => absurd h (by rw [show upd l 12 23 = false from g.out]; decide))⟩
              · simp only [fill_eq, List.take_succ_cons, List.take_zero, List.cons_append, List.nil_append, Act.put, List.setIfInBounds_toArray, List.set_cons_zero, List.set_cons_succ, sel_new, sel_dep d11]
                try rfl
          · as_aux_lemma =>
              rintro l a wr ⟨ha, hA, hB⟩ hc hl hd K' hK
              have d12 := hd 12 (by decide)
              have hx := X42.out; subst hx
              have hx := X43.out; subst hx
              simp only [fill_eq, List.take_succ_cons, List.take_zero, List.cons_append, List.nil_append, Act.put, List.setIfInBounds_toArray, List.set_cons_zero, List.set_cons_succ, sel_of d12] at ha
              subst ha
              have g' := hc.not (i := 23) hl 24 (by kernel_rfl)
              have hO := hA g'
              have g := Lib.hid g'
              clear g'
              rw [if_pos (by rfl)]
              go_simp
              refine Shut.out hK _ _ ⟨?_, fun _ => hO, (fun h => absurd h (by rw [show upd l 13 23 = false from g.out]; decide))⟩
              · simp only [fill_eq, List.take_succ_cons, List.take_zero, List.cons_append, List.nil_append, Act.put, List.setIfInBounds_toArray, List.set_cons_zero, List.set_cons_succ, sel_new, sel_dep d12]
                try rfl
          · as_aux_lemma =>
              rintro l a wr ⟨ha, hA, hB⟩ hc hl hd K' hK
              have d13 := hd 13 (by decide)
              have hx := X43.out; subst hx
              have hx := X44.out; subst hx
              simp only [fill_eq, List.take_succ_cons, List.take_zero, List.cons_append, List.nil_append, Act.put, List.setIfInBounds_toArray, List.set_cons_zero, List.set_cons_succ, sel_of d13] at ha
              subst ha
              have g' := hc.not (i := 23) hl 24 (by kernel_rfl)
              have hO := hA g'
              have g := Lib.hid g'
              clear g'
              have p := D1.out wr hO
              rw [if_pos (by rfl)]
              go_simp
              refine Shut.out hK _ _ ⟨?_, fun _ => hO, (fun h => absurd h (by rw [show upd l 14 23 = false from g.out]; decide))⟩
              · simp only [fill_eq, List.take_succ_cons, List.take_zero, List.cons_append, List.nil_append, Act.put, List.setIfInBounds_toArray, List.set_cons_zero, List.set_cons_succ, sel_new, sel_dep d13]
                try rfl
          · as_aux_lemma =>
              rintro l a wr ⟨ha, hA, hB⟩ hc hl hd K' hK
              have d14 := hd 14 (by decide)
              have hx := X44.out; subst hx
              have hx := X45.out; subst hx
              simp only [fill_eq, List.take_succ_cons, List.take_zero, List.cons_append, List.nil_append, Act.put, List.setIfInBounds_toArray, List.set_cons_zero, List.set_cons_succ, sel_of d14] at ha
              subst ha
              have g' := hc.not (i := 23) hl 24 (by kernel_rfl)
              have hO := hA g'
              have g := Lib.hid g'
              clear g'
              rw [if_pos (by rfl)]
              go_simp
              refine (held_inv (FS0.out wr) hO).mono ?_
              rintro e w1 ⟨rfl, hO1, hOW⟩
              go_wp2_with fail
              refine Shut.out hK _ _ ⟨?_, fun _ => hO1, (fun h => absurd h (by rw [show upd l 15 23 = false from g.out]; decide))⟩
              · simp only [fill_eq, List.take_succ_cons, List.take_zero, List.cons_append, List.nil_append, Act.put, List.setIfInBounds_toArray, List.set_cons_zero, List.set_cons_succ, sel_new, sel_dep d14]
                try rfl
          · as_aux_lemma =>
              rintro l a wr ⟨ha, hA, hB⟩ hc hl hd K' hK
              have d10 := hd 10 (by decide)
              have d15 := hd 15 (by decide)
              have hx := X40.out; subst hx
              have hx := X45.out; subst hx
              have hx := X46.out; subst hx
              simp only [fill_eq, List.take_succ_cons, List.take_zero, List.cons_append, List.nil_append, Act.put, List.setIfInBounds_toArray, List.set_cons_zero, List.set_cons_succ, sel_of d10, sel_of d15] at ha
              subst ha
              have g' := hc.not (i := 23) hl 24 (by kernel_rfl)
              have hO := hA g'
              have g := Lib.hid g'
              clear g'
              rw [if_pos (by rfl)]
              go_simp
              refine Shut.out hK _ _ ⟨?_, fun _ => hO, (fun h => absurd h (by rw [show upd l 16 23 = false from g.out]; decide))⟩
              · simp only [fill_eq, List.take_succ_cons, List.take_zero, List.cons_append, List.nil_append, Act.put, List.setIfInBounds_toArray, List.set_cons_zero, List.set_cons_succ, sel_new, sel_dep d10, sel_dep d15]
                try rfl
          · as_aux_lemma =>
              rintro l a wr ⟨ha, hA, hB⟩ hc hl hd K' hK
              have hx := X47.out; subst hx
              simp only [fill_eq, List.take_succ_cons, List.take_zero, List.cons_append, List.nil_append, Act.put, List.setIfInBounds_toArray, List.set_cons_zero, List.set_cons_succ] at ha
              subst ha
              have g' := hc.not (i := 23) hl 24 (by kernel_rfl)
              have hO := hA g'
              have g := Lib.hid g'
              clear g'
              rw [if_pos (by rfl)]
              go_simp
              refine Shut.out hK _ _ ⟨?_, fun _ => hO, (fun h => absurd h (by rw [show upd l 17 23 = false from g.out]; decide))⟩
              · simp only [fill_eq, List.take_succ_cons, List.take_zero, List.cons_append, List.nil_append, Act.put, List.setIfInBounds_toArray, List.set_cons_zero, List.set_cons_succ, sel_new]
                try rfl
          · as_aux_lemma =>
              rintro l a wr ⟨ha, hA, hB⟩ hc hl hd K' hK
              have d17 := hd 17 (by decide)
              have hx := X47.out; subst hx
              have hx := X48.out; subst hx
              simp only [fill_eq, List.take_succ_cons, List.take_zero, List.cons_append, List.nil_append, Act.put, List.setIfInBounds_toArray, List.set_cons_zero, List.set_cons_succ, sel_of d17] at ha
              subst ha
              have g' := hc.not (i := 23) hl 24 (by kernel_rfl)
              have hO := hA g'
              have g := Lib.hid g'
              clear g'
              rw [if_pos (by rfl)]
              go_simp
              refine Shut.out hK _ _ ⟨?_, fun _ => hO, (fun h => absurd h (by rw [show upd l 18 23 = false from g.out]; decide))⟩
              · simp only [fill_eq, List.take_succ_cons, List.take_zero, List.cons_append, List.nil_append, Act.put, List.setIfInBounds_toArray, List.set_cons_zero, List.set_cons_succ, sel_new, sel_dep d17]
                try rfl
          · as_aux_lemma =>
              rintro l a wr ⟨ha, hA, hB⟩ hc hl hd K' hK
              have d18 := hd 18 (by decide)
              have hx := X48.out; subst hx
              have hx := X49.out; subst hx
              simp only [fill_eq, List.take_succ_cons, List.take_zero, List.cons_append, List.nil_append, Act.put, List.setIfInBounds_toArray, List.set_cons_zero, List.set_cons_succ, sel_of d18] at ha
              subst ha
              have g' := hc.not (i := 23) hl 24 (by kernel_rfl)
              have hO := hA g'
              have g := Lib.hid g'
              clear g'
              rw [if_pos (by rfl)]
              go_simp
              refine Shut.out hK _ _ ⟨?_, fun _ => hO, (fun h => absurd h (by rw [show upd l 19 23 = false from g.out]; decide))⟩
              · simp only [fill_eq, List.take_succ_cons, List.take_zero, List.cons_append, List.nil_append, Act.put, List.setIfInBounds_toArray, List.set_cons_zero, List.set_cons_succ, sel_new, sel_dep d18]
                try rfl
          · as_aux_lemma =>
              rintro l a wr ⟨ha, hA, hB⟩ hc hl hd K' hK
              have d19 := hd 19 (by decide)
              have hx := X49.out; subst hx
              have hx := X50.out; subst hx
              simp only [fill_eq, List.take_succ_cons, List.take_zero, List.cons_append, List.nil_append, Act.put, List.setIfInBounds_toArray, List.set_cons_zero, List.set_cons_succ, sel_of d19] at ha
              subst ha
              have g' := hc.not (i := 23) hl 24 (by kernel_rfl)
              have hO := hA g'
              have g := Lib.hid g'
              clear g'
              have p := D3.out wr hO
              rw [if_pos (by rfl)]
              go_simp
              refine Shut.out hK _ _ ⟨?_, fun _ => hO, (fun h => absurd h (by rw [show upd l 20 23 = false from g.out]; decide))⟩
              · simp only [fill_eq, List.take_succ_cons, List.take_zero, List.cons_append, List.nil_append, Act.put, List.setIfInBounds_toArray, List.set_cons_zero, List.set_cons_succ, sel_new, sel_dep d19]
                try rfl
          · as_aux_lemma =>
              rintro l a wr ⟨ha, hA, hB⟩ hc hl hd K' hK
              have d16 := hd 16 (by decide)
              have d20 := hd 20 (by decide)
              have hx := X46.out; subst hx
              have hx := X50.out; subst hx
              have hx := X51.out; subst hx
              simp only [fill_eq, List.take_succ_cons, List.take_zero, List.cons_append, List.nil_append, Act.put, List.setIfInBounds_toArray, List.set_cons_zero, List.set_cons_succ, sel_of d16, sel_of d20] at ha
              subst ha
              have g' := hc.not (i := 23) hl 24 (by kernel_rfl)
              have hO := hA g'
              have g := Lib.hid g'
              clear g'
              rw [if_pos (by rfl)]
              go_simp
              refine Shut.out hK _ _ ⟨?_, fun _ => hO, (fun h => absurd h (by rw [show upd l 21 23 = false from g.out]; decide))⟩
              · simp only [fill_eq, List.take_succ_cons, List.take_zero, List.cons_append, List.nil_append, Act.put, List.setIfInBounds_toArray, List.set_cons_zero, List.set_cons_succ, sel_new, sel_dep d16, sel_dep d20]
                try rfl
          · as_aux_lemma =>
              rintro l a wr ⟨ha, hA, hB⟩ hc hl hd K' hK
              have d0 := hd 0 (by decide)
              have hx := X30.out; subst hx
              have hx := X52.out; subst hx
              simp only [fill_eq, List.take_succ_cons, List.take_zero, List.cons_append, List.nil_append, Act.put, List.setIfInBounds_toArray, List.set_cons_zero, List.set_cons_succ, sel_of d0] at ha
              subst ha
              have g' := hc.not (i := 23) hl 24 (by kernel_rfl)
              have hO := hA g'
              have g := Lib.hid g'
              clear g'
              rw [if_pos (by rfl)]
              go_simp
              refine Shut.out hK _ _ ⟨?_, fun _ => hO, (fun h => absurd h (by rw [show upd l 22 23 = false from g.out]; decide))⟩
              · simp only [fill_eq, List.take_succ_cons, List.take_zero, List.cons_append, List.nil_append, Act.put, List.setIfInBounds_toArray, List.set_cons_zero, List.set_cons_succ, sel_new, sel_dep d0]
                try rfl
          · as_aux_lemma =>
              rintro l a wr ⟨ha, hA, hB⟩ hc hl hd K' hK
              have d21 := hd 21 (by decide)
              have d22 := hd 22 (by decide)
              have hx := X51.out; subst hx
              have hx := X52.out; subst hx
              simp only [fill_eq, List.take_succ_cons, List.take_zero, List.cons_append, List.nil_append, Act.put, List.setIfInBounds_toArray, List.set_cons_zero, List.set_cons_succ, sel_of d21, sel_of d22] at ha
              subst ha
              have hO := hA hl
              have hb := HBq.out.off hO (fun c => c)
              obtain ⟨v0, hv0⟩ := hb.cell_some HT64.out
              have fz := frozen_of_heap hb t
              have lt := heap_lt hb
              have HB1 := Lib.hid hb
              clear hb
              rw [if_pos (by rfl)]
              go_simp
              refine Shut.out hK _ _ ⟨?_, fun h => absurd h (by rw [upd_same]; decide), fun _ => ?_⟩
              · simp only [fill_eq, List.take_succ_cons, List.take_zero, List.cons_append, List.nil_append, Act.put, List.setIfInBounds_toArray, List.set_cons_zero, List.set_cons_succ, sel_dep d21, sel_dep d22]
                try rfl
              · have hst := HB1.out.store t yy
                rw [HYW.out] at hst
                exact ⟨hst, Off.setCell (S := fun j => j = gl) (p := ⟨gl, t, none⟩) (hO.mono (fun _ _ c => c.elim)) (fun _ => rfl) _⟩
          · rintro l a wc ⟨ha, hA, hB⟩ hd
            simp only [fill_eq, List.take_succ_cons, List.take_zero, List.cons_append, List.nil_append, Act.put, List.setIfInBounds_toArray, List.set_cons_zero, List.set_cons_succ, sel_of (hd 0 (by decide)), sel_of (hd 1 (by decide)), sel_of (hd 2 (by decide)), sel_of (hd 3 (by decide)), sel_of (hd 4 (by decide)), sel_of (hd 5 (by decide)), sel_of (hd 6 (by decide)), sel_of (hd 7 (by decide)), sel_of (hd 8 (by decide)), sel_of (hd 9 (by decide)), sel_of (hd 10 (by decide)), sel_of (hd 11 (by decide)), sel_of (hd 12 (by decide)), sel_of (hd 13 (by decide)), sel_of (hd 14 (by decide)), sel_of (hd 15 (by decide)), sel_of (hd 16 (by decide)), sel_of (hd 17 (by decide)), sel_of (hd 18 (by decide)), sel_of (hd 19 (by decide)), sel_of (hd 20 (by decide)), sel_of (hd 21 (by decide)), sel_of (hd 22 (by decide))] at ha
            subst ha
            have hPP := hB (hd 23 (by decide))
            clear hA hB
            have HPP := Lib.hid hPP
            clear hPP hd m0 m1 m2 m3 D0 D1 D2 D3 FS1 FS0 g1 g2 g3 HYW HBq b0 b1 b2 b3
            go_wp2_with fail
            go_roundw
            case rel => exact ⟨t + 1, by omega, by omega, rfl, HPP.out.1, HOq.out.trans HPP.out.2 (fun k hk e => by have := HGL.out; omega)⟩
            case measure => simp [intOf] <;> omega
        · obtain rfl : t = 64 := by omega
          have i1 : decide (((64 : Nat) : Int) < 64) = false := by decide
          rw [exW_full] at hb
          obtain ⟨cs, hcs⟩ : ∃ cs, cs = ((wL b 64).map u32v).toArray := ⟨_, rfl⟩
          have hcz : cs.size = 64 := by rw [hcs]; simp [wL_length]
          have hi0 : (Tryd.prog.info? 54).map (·.size) = some 64 := by kernel_rfl
          have hi1 : (Tryd.prog.info? 54).map (·.size) = some cs.size := by rw [hcz]; exact hi0
          have hone : cs.all (·.oneCell') = true := by rw [hcs]; simp [Value.oneCell']
          unfold WBlk at hb
          rw [← hcs] at hb
          have hgR := hO.heap HR.out (fun c => c)
          have hOw : Off (fun _ => False) w wr := HO1.out.trans hO (fun _ _ c => c)
          have hgw := hOw.size
          have hrow := setRow_heap wr w.heap.size _ cs 54 (0, 0) hgR
          have hgrown : wr.grownBy (wr.setRow w.heap.size cs) (some w.heap.size) := ⟨rfl, rfl, rfl, by simp, fun k _ hk => setRow_other wr w.heap.size k _ (fun e => hk (by simp [e]))⟩
          have hOF : Off (fun _ => False) w (wr.setRow w.heap.size cs) := hOw.grown hgrown (fun j ej => by
            cases ej
            refine ⟨fun h => by omega, fun o ho => ?_⟩
            rw [hgR] at ho; cases ho; rfl)
          have hZs : Z.size = cs.size := by rw [hcz, HZ.out]; rfl
          have HCS := Lib.hid hcs
          have HL2 := Lib.hid hb
          have HG := Lib.hid hgR
          have HROW := Lib.hid hrow
          have HF := Lib.hid hOF
          have HI := Lib.hid hi1
          have HZS := Lib.hid hZs
          have HONE := Lib.hid hone
          clear hb hgR hrow hOF hi1 hi0 hcz hone hcs hO hOw hgrown hZs hgw
          go_wp2_with first | (refine wpList_load_row rfl _ _ rfl _ rfl _ cs (0, 0) _ HL2.out Tryd.underlying54 rfl HI.out ?_) | (refine wpList_store_row rfl _ _ _ rfl _ cs rfl rfl _ _ HG.out HI.out HZS.out HONE.out ?_) | fail
          refine bodyPost_ret (v := .agg cs) (results_cell_row Tryd.results29 _ _ w.heap.size _ cs (0, 0) _ rfl HROW.out Tryd.underlying54 rfl HI.out) rfl ⟨by rw [HCS.out], HF.out⟩
end Go.Proofs.YthjfhgnmaepafaaDoor
