/-
  Contracts of package sha's pad and Sum over this seat's translation. Conditions: the hash lies in memory, it has at most 5000 bytes, the tables lie there.
-/
import Derived.Test.YthjfhgnmaepafaaDoorShaWrite
namespace Go.Proofs.YthjfhgnmaepafaaDoor
open Go.RowKit
set_option maxRecDepth 100000
set_option maxHeartbeats 4000000
set_option linter.unusedSimpArgs false
/-- The padding with the last t bytes of the length. -/
def padL (E N t : Nat) : List Nat := ([128] ++ List.replicate (E - 9) 0) ++ (lenB N t ++ List.replicate (72 - E) 0)
theorem padL_zero (E N : Nat) (h1 : 9 ≤ E) (h2 : E ≤ 72) : padL E N 0 = 128 :: List.replicate 71 0 := by
  unfold padL
  rw [lenB_zero]
  simp only [List.append_assoc, List.replicate_append_replicate, List.cons_append, List.nil_append]
  congr 2; omega
theorem padL_length (E N t : Nat) (h1 : 9 ≤ E) (h2 : E ≤ 72) (ht : t ≤ 8) : (padL E N t).length = 72 := by
  unfold padL
  have := lenB_length N t ht
  simp; omega
theorem padL_set (E N t : Nat) (h1 : 9 ≤ E) (h2 : E ≤ 72) (ht : t < 8) : (padL E N t).set (E - 1 - t) (N / 256 ^ t % 256) = padL E N (t + 1) := by
  unfold padL
  have hl := lenB_length N t (by omega)
  have e : ([128] ++ List.replicate (E - 9) 0).length = E - 8 := by simp; omega
  rw [List.set_append_right _ _ (by rw [e]; omega), e, show E - 1 - t - (E - 8) = 7 - t by omega, List.set_append_left _ _ (by rw [hl]; omega), lenB_set N t ht]
theorem padL_take (E N : Nat) (h1 : 9 ≤ E) (h2 : E ≤ 72) : (padL E N 8).take E = [128] ++ List.replicate (E - 9) 0 ++ be8 N := by
  unfold padL
  rw [lenB_full, ← List.append_assoc, List.take_append_of_le_length (by simp [be8]; omega), List.take_of_length_le (by simp [be8]; omega)]
def hP : Array Value := #[.int .u8 0, .int .u8 0, .int .u8 0, .int .u8 0, .int .u8 0, .int .u8 0, .int .u8 0, .int .u8 0, .int .u8 0, .int .u8 0, .int .u8 0, .int .u8 0, .int .u8 0, .int .u8 0, .int .u8 0, .int .u8 0, .int .u8 0, .int .u8 0, .int .u8 0, .int .u8 0, .int .u8 0, .int .u8 0, .int .u8 0, .int .u8 0, .int .u8 0, .int .u8 0, .int .u8 0, .int .u8 0, .int .u8 0, .int .u8 0, .int .u8 0, .int .u8 0, .int .u8 0, .int .u8 0, .int .u8 0, .int .u8 0, .int .u8 0, .int .u8 0, .int .u8 0, .int .u8 0, .int .u8 0, .int .u8 0, .int .u8 0, .int .u8 0, .int .u8 0, .int .u8 0, .int .u8 0, .int .u8 0, .int .u8 0, .int .u8 0, .int .u8 0, .int .u8 0, .int .u8 0, .int .u8 0, .int .u8 0, .int .u8 0, .int .u8 0, .int .u8 0, .int .u8 0, .int .u8 0, .int .u8 0, .int .u8 0, .int .u8 0, .int .u8 0, .int .u8 0, .int .u8 0, .int .u8 0, .int .u8 0, .int .u8 0, .int .u8 0, .int .u8 0, .int .u8 0]
theorem pad_info : (Tryd.prog.info? 57).map (fun i => i.zero) = some (some (.agg hP)) := by kernel_rfl
theorem zero_pad' (w : World) : (zeroValue 57).run Tryd.prog w = .ok (.agg hP) w := by
  obtain ⟨i, hi, hz⟩ := Option.map_eq_some_iff.1 pad_info
  simp [zeroValue, typeInfo, hi, hz]
theorem pad_any (p : Nat) (bs : List Nat) (w : World) (hH : HashAt w p bs) (hlen : bs.length ≤ 5000) (hT : TabAt w) (hp : NoTab p) :
    Calls Tryd.prog 23 #[.pointer (some ⟨p, 0, none⟩)] w fun e w' => e = .returned (.tuple #[]) ∧ HashAt w' p (padB bs) ∧ Off (fun j => j = p) w w' := by
  obtain ⟨Z, hZ⟩ : ∃ Z, Z = hP := ⟨_, rfl⟩
  obtain ⟨Y, hY⟩ : ∃ Y : Array Value, Y = Z.setIfInBounds 0 (.int .u8 128) := ⟨_, rfl⟩
  have hz : ∀ w, (zeroValue 57).run Tryd.prog w = .ok (.agg Z) w := by rw [hZ]; exact zero_pad'
  have hzs : Z.size = 72 := by rw [hZ]; rfl
  have hzn : ¬ Z = #[] := by rintro rfl; simp at hzs
  have hYs : Y.size = 72 := by rw [hY, Array.size_setIfInBounds, hzs]
  have hYp : Y = ((padL (9 + zerN bs.length) (bs.length * 8) 0).map u8v).toArray := by
    rw [padL_zero _ _ (by omega) (by have := zerN_lt bs.length; omega), hY, hZ]; rfl
  have hYo : Y.all (·.oneCell') = true := by rw [hY, hZ]; decide +kernel
  have HYP := Lib.hid hYp
  have HYO := Lib.hid hYo
  have HYS := Lib.hid (hzs.trans hYs.symm)
  have hy := hY.symm
  have hH' := hH
  obtain ⟨_, blk, _, hraw, _⟩ := hH'
  have c72 := hraw.len
  obtain ⟨n, hn⟩ : ∃ n, n = bs.length := ⟨_, rfl⟩
  have HL72 := Lib.hid (fun W (h : Off (fun _ => False) w W) => h.cell c72 (fun c => c))
  have HH := Lib.hid hH
  have HN := Lib.hid hn
  have HT := Lib.hid hT
  have HP := Lib.hid hp
  rw [← hn] at hlen HL72
  have hi0 : (Tryd.prog.info? 57).map (·.size) = some 72 := by kernel_rfl
  have hi0 : (Tryd.prog.info? 57).map (·.size) = some Y.size := by rw [hYs]; exact hi0
  have HI := Lib.hid hi0
  clear hraw c72 hn hH hT hp hi0 hYs hYp hYo hY hZ
  go_enter Tryd.func23, Tryd.ntmps23
  go_upto_region 1 with first | (refine wpList_store_row rfl _ _ _ rfl _ Y rfl rfl _ _ (heap_new' rfl _) HI.out HYS.out HYO.out ?_) | fail
  have hW := @new_row w Z Y 57
  obtain ⟨w1, hw1⟩ : ∃ w1, w1 = (w.alloc (.cells Z 57)).setRow w.heap.size Y := ⟨_, rfl⟩
  rw [← hw1] at hW ⊢
  obtain ⟨gp, hgp⟩ : ∃ gp, gp = w.heap.size := ⟨_, rfl⟩
  rw [← hgp] at hW ⊢
  obtain ⟨E, hE⟩ : ∃ E, E = 9 + zerN n := ⟨_, rfl⟩
  obtain ⟨N, hNd⟩ : ∃ N, N = n * 8 := ⟨_, rfl⟩
  obtain ⟨r, hr⟩ : ∃ r, r = n % 64 := ⟨_, rfl⟩
  have hz' : zerN n = (119 - n % 64) % 64 := rfl
  have hE9 : 9 ≤ E := by omega
  have hE72 : E ≤ 72 := by omega
  have hB0 : ByBlk w1 gp 57 (padL E N 0) := by
    unfold ByBlk
    rw [hW.1, HYP.out, hE, hNd, HN.out]
  have c72 := HL72.out w1 hW.2
  have e1 : (n : Int) % 64 = (r : Int) := by omega
  have e2 : IntKind.i64.wrap (64 - (r : Int)) = ((64 - r : Nat) : Int) := by rw [IntKind.wrap_i64]; omega
  have e4 : IntKind.u64.wrap (n : Int) = (n : Int) := by rw [IntKind.wrap_u64]; omega
  have e5 : IntKind.u64.wrap (8 * (n : Int)) = (N : Int) := by rw [IntKind.wrap_u64]; omega
  have HB0 := Lib.hid hB0
  have HO1 := Lib.hid hW.2
  have HGP := Lib.hid hgp
  have HE := Lib.hid hE
  have HNd := Lib.hid hNd
  have hr64 : r < 64 := by omega
  have hEr : E = if 64 - r < 9 then 64 - r + 64 else 64 - r := by split <;> omega
  clear hW hw1 hgp hB0 hE hNd hr hz' hz hzs hzn hy HYP HYO HYS HI HL72
  obtain ⟨E0, hE0⟩ : ∃ E0, E0 = 64 - r := ⟨_, rfl⟩
  rw [← hE0] at e2 hEr
  by_cases h9 : E0 < 9
  · rw [if_pos h9] at hEr
    have e3 : IntKind.i64.wrap ((E0 : Int) + 64) = (E : Int) := by rw [IntKind.wrap_i64]; omega
    have i9 : decide ((E0 : Int) < 9) = true := by simp; omega
    clear hEr hE0 hr64
    go_wp2_with fail
    clear c72 e1 e2 e4 e5
    go_loopw [23] (fun i wr => ∃ t : Nat, t ≤ 8 ∧ i = .int .i64 (t : Int) ∧ ByBlk wr gp 57 (padL E N t) ∧ Off (fun _ => False) w wr) (fun i _ => 8 - (intOf i).toNat)
    case atStart => exact ⟨0, by omega, rfl, HB0.out, HO1.out⟩
    case round =>
      obtain ⟨t, ht, rfl, hb, hO⟩ := hrel
      by_cases hlt : t < 8
      · have i1 : decide ((t : Int) < 8) = true := by simp; omega
        have i2 : (t : Int) < 8 := by omega
        have i3 : IntKind.i64.wrap ((t : Int) + 1) = ((t + 1 : Nat) : Int) := by rw [IntKind.wrap_i64]; omega
        have j1 : IntKind.i64.wrap ((E : Int) - 1) = ((E - 1 : Nat) : Int) := by rw [IntKind.wrap_i64]; omega
        have j2 : IntKind.i64.wrap (((E - 1 : Nat) : Int) - (t : Int)) = ((E - 1 - t : Nat) : Int) := by rw [IntKind.wrap_i64]; omega
        have j3 : IntKind.i64.wrap (8 * (t : Int)) = ((8 * t : Nat) : Int) := by rw [IntKind.wrap_i64]; omega
        have j4 : IntKind.u8.wrap ((N : Int) / 2 ^ (8 * t)) = ((N / 256 ^ t % 256 : Nat) : Int) := by
          rw [IntKind.wrap_u8, show (256 : Nat) ^ t = 2 ^ (8 * t) by rw [show (256 : Nat) = 2 ^ 8 by rfl, ← Nat.pow_mul]]
          simp
        have hst := hb.store (E - 1 - t) (N / 256 ^ t % 256)
        rw [padL_set E N t hE9 hE72 hlt] at hst
        have hlen := padL_length E N t hE9 hE72 ht
        obtain ⟨v0, hv0⟩ : ∃ v0, (padL E N t)[E - 1 - t]? = some v0 := ⟨_, List.getElem?_eq_getElem (by rw [hlen]; omega)⟩
        have hc1 := hb.cell hv0
        have fz := frozen_of_heap hb (E - 1 - t)
        have lt := heap_lt hb
        have q72 : ((E - 1 - t : Nat) : Int) < 72 := by omega
        have t8 : 8 * t ≤ 64 := by omega
        obtain ⟨q, hq⟩ : ∃ q, q = E - 1 - t := ⟨_, rfl⟩
        obtain ⟨q1, hq1⟩ : ∃ q, q = E - 1 := ⟨_, rfl⟩
        obtain ⟨q8, hq8⟩ : ∃ q, q = 8 * t := ⟨_, rfl⟩
        obtain ⟨y, hy⟩ : ∃ y, y = N / 256 ^ t % 256 := ⟨_, rfl⟩
        rw [← hq] at j2 hst hc1 fz q72
        rw [← hq1] at j1 j2
        rw [← hq8] at j3 j4 t8
        rw [← hy] at j4 hst
        have HST := Lib.hid hst
        have HOs := Lib.hid (hO.setCell (p := ⟨gp, q, none⟩) (fun h => by have := HGP.out; simp at h; omega) (u8v y))
        clear hst hb hO hlen hv0 hq hq1 hq8 hy
        go_wp2_with fail
        go_roundw
        case rel => exact ⟨t + 1, by omega, rfl, HST.out, HOs.out⟩
        case measure => simp [intOf] <;> omega
      · obtain rfl : t = 8 := by omega
        have i1 : decide (((8 : Nat) : Int) < 8) = false := by decide
        have htk := padL_take E N hE9 hE72
        have hlen := padL_length E N 8 hE9 hE72 (Nat.le_refl _)
        have hbs : BsAt wr (some ⟨gp, 0, none⟩) ((padL E N 8).take E) (fun k => k = gp) := (BsAt.of_blk (S := fun k => k = gp) hb rfl).take E
        have hsl : ∀ W, (Instr.sliceAt 57 (.pointer (some ⟨gp, 0, none⟩)) none (some (.int .i64 (E : Int))) none).run Tryd.prog W = .ok (.slice (some ⟨gp, 0, none⟩) E 72) W := by
          intro W
          have hl : Tryd.prog.arrayLen 57 = 72 := by kernel_rfl
          have he : Tryd.prog.elem 57 = 5 := by kernel_rfl
          rw [run_sliceAt_array_h W 57 _ (by rw [hl, he]; exact Tryd.underlying57) .i64 _ (by omega) (by rw [hl]; omega), hl, he, Tryd.sizeOf5]
          simp [Result.andThen, slicedAt, Addr.add_lit]
        have hgpp : ¬ p = gp := by have := HH.out.lt; have := HGP.out; omega
        have hz' : zerN n = (119 - n % 64) % 64 := rfl
        have hsmE : Sm ((padL E N 8).take E) := by
          rw [htk]
          refine Sm.app (Sm.app ?_ ?_) (be8_sm _)
          · intro x hx; rw [List.mem_singleton.1 hx]; decide
          · intro x hx; rw [(List.mem_replicate.1 hx).2]; decide
        have hpad : bs ++ (padL E N 8).take E = padB bs := by
          rw [htk]; unfold padB; rw [HE.out, Nat.add_sub_cancel_left, HNd.out, HN.out, ← List.append_assoc, ← List.append_assoc]
        have hwr := write_any p bs ((padL E N 8).take E) (some ⟨gp, 0, none⟩) E 72 (fun k => k = gp) wr (HH.out.off hO (fun c => c)) hbs hgpp (by rw [List.length_take, hlen]; omega) hE72 hsmE (by have := HN.out; omega) (HT.out.off hO) HP.out
        rw [hpad] at hwr
        have HW := Lib.hid hwr
        have HO := Lib.hid hO
        have e6 : (E : Int) ≤ 72 := by omega
        clear hwr hO hb htk hlen hbs hgpp hz' hsmE hpad
        go_wp2_with first | (go_at_call 15; refine (HW.out).mono ?_; rintro e w3 ⟨rfl, hh, ho⟩) | fail
        have HH3 := Lib.hid hh
        have HO3 := Lib.hid ((HO.out.mono (fun _ _ c => c.elim)).trans ho (fun _ _ c => c))
        clear hh ho
        go_end0
        exact ⟨rfl, HH3.out, HO3.out⟩
  · rw [if_neg h9] at hEr
    have i9 : decide ((E0 : Int) < 9) = false := by simp; omega
    subst hEr
    clear hE0 hr64
    go_wp2_with fail
    clear c72 e1 e2 e4 e5
    go_loopw [23] (fun i wr => ∃ t : Nat, t ≤ 8 ∧ i = .int .i64 (t : Int) ∧ ByBlk wr gp 57 (padL E N t) ∧ Off (fun _ => False) w wr) (fun i _ => 8 - (intOf i).toNat)
    case atStart => exact ⟨0, by omega, rfl, HB0.out, HO1.out⟩
    case round =>
      obtain ⟨t, ht, rfl, hb, hO⟩ := hrel
      by_cases hlt : t < 8
      · have i1 : decide ((t : Int) < 8) = true := by simp; omega
        have i2 : (t : Int) < 8 := by omega
        have i3 : IntKind.i64.wrap ((t : Int) + 1) = ((t + 1 : Nat) : Int) := by rw [IntKind.wrap_i64]; omega
        have j1 : IntKind.i64.wrap ((E : Int) - 1) = ((E - 1 : Nat) : Int) := by rw [IntKind.wrap_i64]; omega
        have j2 : IntKind.i64.wrap (((E - 1 : Nat) : Int) - (t : Int)) = ((E - 1 - t : Nat) : Int) := by rw [IntKind.wrap_i64]; omega
        have j3 : IntKind.i64.wrap (8 * (t : Int)) = ((8 * t : Nat) : Int) := by rw [IntKind.wrap_i64]; omega
        have j4 : IntKind.u8.wrap ((N : Int) / 2 ^ (8 * t)) = ((N / 256 ^ t % 256 : Nat) : Int) := by
          rw [IntKind.wrap_u8, show (256 : Nat) ^ t = 2 ^ (8 * t) by rw [show (256 : Nat) = 2 ^ 8 by rfl, ← Nat.pow_mul]]
          simp
        have hst := hb.store (E - 1 - t) (N / 256 ^ t % 256)
        rw [padL_set E N t hE9 hE72 hlt] at hst
        have hlen := padL_length E N t hE9 hE72 ht
        obtain ⟨v0, hv0⟩ : ∃ v0, (padL E N t)[E - 1 - t]? = some v0 := ⟨_, List.getElem?_eq_getElem (by rw [hlen]; omega)⟩
        have hc1 := hb.cell hv0
        have fz := frozen_of_heap hb (E - 1 - t)
        have lt := heap_lt hb
        have q72 : ((E - 1 - t : Nat) : Int) < 72 := by omega
        have t8 : 8 * t ≤ 64 := by omega
        obtain ⟨q, hq⟩ : ∃ q, q = E - 1 - t := ⟨_, rfl⟩
        obtain ⟨q1, hq1⟩ : ∃ q, q = E - 1 := ⟨_, rfl⟩
        obtain ⟨q8, hq8⟩ : ∃ q, q = 8 * t := ⟨_, rfl⟩
        obtain ⟨y, hy⟩ : ∃ y, y = N / 256 ^ t % 256 := ⟨_, rfl⟩
        rw [← hq] at j2 hst hc1 fz q72
        rw [← hq1] at j1 j2
        rw [← hq8] at j3 j4 t8
        rw [← hy] at j4 hst
        have HST := Lib.hid hst
        have HOs := Lib.hid (hO.setCell (p := ⟨gp, q, none⟩) (fun h => by have := HGP.out; simp at h; omega) (u8v y))
        clear hst hb hO hlen hv0 hq hq1 hq8 hy
        go_wp2_with fail
        go_roundw
        case rel => exact ⟨t + 1, by omega, rfl, HST.out, HOs.out⟩
        case measure => simp [intOf] <;> omega
      · obtain rfl : t = 8 := by omega
        have i1 : decide (((8 : Nat) : Int) < 8) = false := by decide
        have htk := padL_take E N hE9 hE72
        have hlen := padL_length E N 8 hE9 hE72 (Nat.le_refl _)
        have hbs : BsAt wr (some ⟨gp, 0, none⟩) ((padL E N 8).take E) (fun k => k = gp) := (BsAt.of_blk (S := fun k => k = gp) hb rfl).take E
        have hsl : ∀ W, (Instr.sliceAt 57 (.pointer (some ⟨gp, 0, none⟩)) none (some (.int .i64 (E : Int))) none).run Tryd.prog W = .ok (.slice (some ⟨gp, 0, none⟩) E 72) W := by
          intro W
          have hl : Tryd.prog.arrayLen 57 = 72 := by kernel_rfl
          have he : Tryd.prog.elem 57 = 5 := by kernel_rfl
          rw [run_sliceAt_array_h W 57 _ (by rw [hl, he]; exact Tryd.underlying57) .i64 _ (by omega) (by rw [hl]; omega), hl, he, Tryd.sizeOf5]
          simp [Result.andThen, slicedAt, Addr.add_lit]
        have hgpp : ¬ p = gp := by have := HH.out.lt; have := HGP.out; omega
        have hz' : zerN n = (119 - n % 64) % 64 := rfl
        have hsmE : Sm ((padL E N 8).take E) := by
          rw [htk]
          refine Sm.app (Sm.app ?_ ?_) (be8_sm _)
          · intro x hx; rw [List.mem_singleton.1 hx]; decide
          · intro x hx; rw [(List.mem_replicate.1 hx).2]; decide
        have hpad : bs ++ (padL E N 8).take E = padB bs := by
          rw [htk]; unfold padB; rw [HE.out, Nat.add_sub_cancel_left, HNd.out, HN.out, ← List.append_assoc, ← List.append_assoc]
        have hwr := write_any p bs ((padL E N 8).take E) (some ⟨gp, 0, none⟩) E 72 (fun k => k = gp) wr (HH.out.off hO (fun c => c)) hbs hgpp (by rw [List.length_take, hlen]; omega) hE72 hsmE (by have := HN.out; omega) (HT.out.off hO) HP.out
        rw [hpad] at hwr
        have HW := Lib.hid hwr
        have HO := Lib.hid hO
        have e6 : (E : Int) ≤ 72 := by omega
        clear hwr hO hb htk hlen hbs hgpp hz' hsmE hpad
        go_wp2_with first | (go_at_call 15; refine (HW.out).mono ?_; rintro e w3 ⟨rfl, hh, ho⟩) | fail
        have HH3 := Lib.hid hh
        have HO3 := Lib.hid ((HO.out.mono (fun _ _ c => c.elim)).trans ho (fun _ _ c => c))
        clear hh ho
        go_end0
        exact ⟨rfl, HH3.out, HO3.out⟩
/-- A result's row, stored whole. -/
theorem row_in {w w3 w4 : World} {ZR ds : Array Value} {T : TypeId} (hR : w3.heap[w.heap.size]? = some (.cells ZR T (0, 0))) (h3 : Off (fun _ => False) w w3) (h4 : Off (fun _ => False) w3 w4) : (w4.setRow w.heap.size ds).heap[w.heap.size]? = some (.cells ds T (0, 0)) ∧ Off (fun _ => False) w (w4.setRow w.heap.size ds) := by
  have hgR := h4.heap hR (fun c => c)
  refine ⟨setRow_heap w4 w.heap.size _ ds T (0, 0) hgR, ?_⟩
  have hgrown : w4.grownBy (w4.setRow w.heap.size ds) (some w.heap.size) := ⟨rfl, rfl, rfl, by simp, fun k _ hk => setRow_other w4 w.heap.size k _ (fun e => hk (by simp [e]))⟩
  exact (h3.trans h4 (fun _ _ c => c)).grown hgrown (fun j ej => by
    cases ej
    refine ⟨fun h => absurd h (Nat.lt_irrefl _), fun o ho => ?_⟩
    rw [hgR] at ho; cases ho; rfl)
theorem hsum_any (p : Nat) (bs : List Nat) (w : World) (hH : HashAt w p bs) (hlen : bs.length ≤ 5000) (hT : TabAt w) :
    Calls Tryd.prog 16 #[.pointer (some ⟨p, 0, none⟩)] w fun e w' => e = .returned (.agg ((shaN bs).map u8v).toArray) ∧ Off (fun _ => False) w w' := by
  obtain ⟨ZR, hZR⟩ : ∃ Z : Array Value, Z = #[.int .u8 0, .int .u8 0, .int .u8 0, .int .u8 0, .int .u8 0, .int .u8 0, .int .u8 0, .int .u8 0, .int .u8 0, .int .u8 0, .int .u8 0, .int .u8 0, .int .u8 0, .int .u8 0, .int .u8 0, .int .u8 0, .int .u8 0, .int .u8 0, .int .u8 0, .int .u8 0, .int .u8 0, .int .u8 0, .int .u8 0, .int .u8 0, .int .u8 0, .int .u8 0, .int .u8 0, .int .u8 0, .int .u8 0, .int .u8 0, .int .u8 0, .int .u8 0] := ⟨_, rfl⟩
  obtain ⟨Z, hZ⟩ : ∃ Z, Z = hZ := ⟨_, rfl⟩
  have hz : ∀ w, (zeroValue 46).run Tryd.prog w = .ok (.agg Z) w := by rw [hZ]; exact zero_hash'
  have hzs : Z.size = 73 := by rw [hZ]; rfl
  have hzn : ¬ Z = #[] := by rintro rfl; simp at hzs
  obtain ⟨w1, hw1⟩ : ∃ w1, w1 = w.alloc (.cells ZR 25) := ⟨_, rfl⟩
  have hR : w1.heap[w.heap.size]? = some (.cells ZR 25) := by rw [hw1]; exact heap_new' rfl _
  have ho1 : Off (fun _ => False) w w1 := by rw [hw1]; exact (Off.refl _ w).alloc _
  have hH1 := hH.off ho1 (fun c => c)
  have hH1' := hH1
  obtain ⟨hs, blk, hb, hr, ht⟩ := hH1'
  obtain ⟨cs, hcs⟩ : ∃ cs, cs = ((stV bs).list.map u32v ++ (blk.map u8v ++ [Value.int .i64 (bs.length : Int)])).toArray := ⟨_, rfl⟩
  have hcz : cs.size = 73 := by
    have := hr.1
    rw [hcs]; simp [W8.list]; omega
  have hi0 : (Tryd.prog.info? 46).map (·.size) = some 73 := by kernel_rfl
  have hi1 : (Tryd.prog.info? 46).map (·.size) = some cs.size := by rw [hcz]; exact hi0
  have hone : cs.all (·.oneCell') = true := by rw [hcs]; simp [Value.oneCell']
  have hG : w1.heap[p]? = some (.cells cs 46 (0, 0)) := by rw [hcs]; exact hr.2
  have hW := @new_row w1 Z cs 46
  obtain ⟨w2, hw2⟩ : ∃ w2, w2 = (w1.alloc (.cells Z 46)).setRow w1.heap.size cs := ⟨_, rfl⟩
  rw [← hw2] at hW
  have hH2 : HashAt w2 w1.heap.size bs := ⟨hs, blk, hb, ⟨hr.1, by unfold HBlk; rw [← hcs]; exact hW.1⟩, ht⟩
  have hT2 := (hT.off ho1).off hW.2
  have hp2 : NoTab w1.heap.size := NoTab.new (hT.off ho1) (Nat.le_refl _)
  have hpad := pad_any w1.heap.size bs w2 hH2 hlen hT2 hp2
  have hsz : w1.heap.size = w.heap.size + 1 := by rw [hw1]; exact World.size_alloc _ _
  rw [hsz] at hpad
  have HI := Lib.hid hi1
  have HZS := Lib.hid (hzs.trans hcz.symm)
  have HONE := Lib.hid hone
  have HG := Lib.hid hG
  have HR := Lib.hid hR
  have HO2 := Lib.hid (show Off (fun _ => False) w1 w2 from hW.2)
  have HO1 := Lib.hid ho1
  have HPD := Lib.hid hpad
  have HW1 := Lib.hid hw1
  have hw2' : w2 = (w1.alloc (.cells Z 46)).setRow (w.heap.size + 1) cs := by rw [hw2, hsz]
  have HW2 := Lib.hid hw2'
  have HZR := Lib.hid hZR
  have HSZ := Lib.hid hsz
  have hi32 : (Tryd.prog.info? 25).map (·.size) = some 32 := by kernel_rfl
  have HI32 := Lib.hid hi32
  clear hZR hZ hzs hw1 hR ho1 hH1 hr hcs hcz hi0 hi1 hone hG hW hw2 hw2' hH2 hT2 hp2 hpad hH hT hi32 hsz hs hb ht
  go_enter Tryd.func16, Tryd.ntmps16
  go_upto_region 3 with fail
  rw [← HZR.out, ← HW1.out]
  go_upto_region 5 with first | (refine wpList_load_row rfl _ _ rfl _ rfl _ cs (0, 0) _ HG.out Tryd.underlying46 rfl HI.out ?_) | (refine wpList_store_row rfl _ _ _ rfl _ cs rfl rfl _ _ (heap_new' rfl _) HI.out HZS.out HONE.out ?_) | (go_at_call 23; rw [HSZ.out, ← HW2.out]; refine (HPD.out).mono ?_; rintro e w3 ⟨rfl, hh, ho⟩) | fail
  obtain ⟨_, blk3, _, hr3, _⟩ := hh
  have hj := join_any (stV (padB bs)) (w.heap.size + 1) 46 (blk3.map u8v ++ [.int .i64 ((padB bs).length : Int)]) w3 (stV_ok _) hr3.2
  obtain ⟨ds, hds⟩ : ∃ ds, ds = ((outB (stV (padB bs))).map u8v).toArray := ⟨_, rfl⟩
  rw [← hds] at hj
  have hdz : ds.size = 32 := by rw [hds]; rfl
  have hdi : (Tryd.prog.info? 25).map (·.size) = some ds.size := by rw [hdz]; exact HI32.out
  have hdo : ds.all (·.oneCell') = true := by rw [hds]; simp [Value.oneCell']
  have HJ := Lib.hid hj
  have HDS := Lib.hid (show ds = ((shaN bs).map u8v).toArray from hds)
  have HDI := Lib.hid hdi
  have HDO := Lib.hid hdo
  have HZ3 := Lib.hid (show ZR.size = ds.size by rw [hdz, HZR.out]; rfl)
  have HR3 := Lib.hid (ho.heap (HO2.out.heap HR.out (fun c => c)) (fun e => by omega))
  have HO3 := Lib.hid (show Off (fun _ => False) w w3 from (HO1.out.trans HO2.out (fun _ _ c => c)).trans ho (fun k hk e => by omega))
  clear hr3 hj hds hdz hdi hdo ho HPD HG HI HZS HONE
  have hrow := fun w4 h4 => row_in (w4 := w4) HR3.out (ds := ds) HO3.out h4
  have HROW := Lib.hid hrow
  clear hrow
  go_wp2_with first | (go_at_call 24; refine (HJ.out).mono ?_; rintro e w4 ⟨rfl, ho4⟩; have HO4 := Lib.hid ho4; clear ho4) | (refine wpList_store_row rfl _ _ _ rfl _ ds rfl rfl _ _ (HO4.out.heap HR3.out (fun c => c)) HDI.out HZ3.out HDO.out ?_) | fail
  refine bodyPost_ret (v := .agg ds) (results_cell_row Tryd.results16 _ _ w.heap.size _ ds (0, 0) _ rfl (HROW.out _ HO4.out).1 Tryd.underlying25 rfl HDI.out) rfl ⟨by rw [HDS.out], (HROW.out _ HO4.out).2⟩
theorem wpList_build_zero {P : Program} {ops : Array Oper} {rest : List Oper} {o : Oper} {a : Act} {w : World} {Q : Exit → Act → World → Prop} {T : TypeId} {Z : Array Value} (hgd : o.guard = none) (ho : o.op = .build T #[]) (hz : (Instr.build T #[]).run P w = .ok (.agg Z) w)
    (h : wpList P ops Q rest (a.put o.dst (.agg Z)) w) : wpList P ops Q (o :: rest) a w := by
  refine wpList_plain hgd fun _ hK => ?_
  unfold Oper.wp execOp
  simp only [ho, Sem.run_bind, Sem.run_pure, Result.andThen_ok, List.map_toArray, List.map_nil, hz]
  exact hK _ _ h
theorem build_32 (w : World) : (Instr.build 25 #[]).run Tryd.prog w = .ok (.agg #[.int .u8 0, .int .u8 0, .int .u8 0, .int .u8 0, .int .u8 0, .int .u8 0, .int .u8 0, .int .u8 0, .int .u8 0, .int .u8 0, .int .u8 0, .int .u8 0, .int .u8 0, .int .u8 0, .int .u8 0, .int .u8 0, .int .u8 0, .int .u8 0, .int .u8 0, .int .u8 0, .int .u8 0, .int .u8 0, .int .u8 0, .int .u8 0, .int .u8 0, .int .u8 0, .int .u8 0, .int .u8 0, .int .u8 0, .int .u8 0, .int .u8 0, .int .u8 0]) w := by rfl
theorem hsum_nil (w : World) :
    Calls Tryd.prog 16 #[.pointer none] w fun e w' => e = .returned (.agg ((List.replicate 32 0).map u8v).toArray) ∧ Off (fun _ => False) w w' := by
  obtain ⟨ZR, hZR⟩ : ∃ Z : Array Value, Z = #[.int .u8 0, .int .u8 0, .int .u8 0, .int .u8 0, .int .u8 0, .int .u8 0, .int .u8 0, .int .u8 0, .int .u8 0, .int .u8 0, .int .u8 0, .int .u8 0, .int .u8 0, .int .u8 0, .int .u8 0, .int .u8 0, .int .u8 0, .int .u8 0, .int .u8 0, .int .u8 0, .int .u8 0, .int .u8 0, .int .u8 0, .int .u8 0, .int .u8 0, .int .u8 0, .int .u8 0, .int .u8 0, .int .u8 0, .int .u8 0, .int .u8 0, .int .u8 0] := ⟨_, rfl⟩
  obtain ⟨w1, hw1⟩ : ∃ w1, w1 = w.alloc (.cells ZR 25) := ⟨_, rfl⟩
  have hR : w1.heap[w.heap.size]? = some (.cells ZR 25) := by rw [hw1]; exact heap_new' rfl _
  have ho1 : Off (fun _ => False) w w1 := by rw [hw1]; exact (Off.refl _ w).alloc _
  have hz : (Instr.build 25 #[]).run Tryd.prog w1 = .ok (.agg ZR) w1 := by rw [hZR]; exact build_32 w1
  have hi32 : (Tryd.prog.info? 25).map (·.size) = some ZR.size := by rw [hZR]; kernel_rfl
  have hone : ZR.all (·.oneCell') = true := by rw [hZR]; decide +kernel
  have HI32 := Lib.hid hi32
  have HONE := Lib.hid hone
  have HZ := Lib.hid hz
  have HR := Lib.hid hR
  have HZR := Lib.hid hZR
  have HW1 := Lib.hid hw1
  have HROW := Lib.hid (row_in (ds := ZR) hR ho1 (Off.refl _ w1))
  clear hi32 hone hz hR hZR hw1 ho1
  go_enter Tryd.func16, Tryd.ntmps16
  go_upto_region 2 with fail
  rw [← HZR.out, ← HW1.out]
  go_wp2_with first | (refine wpList_build_zero rfl rfl HZ.out ?_) | (refine wpList_store_row rfl _ _ _ rfl _ ZR rfl rfl _ _ HR.out HI32.out rfl HONE.out ?_) | fail
  refine bodyPost_ret (v := .agg ZR) (results_cell_row Tryd.results16 _ _ w.heap.size _ ZR (0, 0) _ rfl HROW.out.1 Tryd.underlying25 rfl HI32.out) rfl ⟨by rw [HZR.out]; rfl, HROW.out.2⟩
theorem sum_any (a : Option Addr) (n cap : Nat) (bs : List Nat) (S : Nat → Prop) (w : World) (hb : BsAt w a bs S) (hn : n = bs.length) (hc : n ≤ cap) (hs : Sm bs) (hm : n ≤ 5000) (hT : TabAt w) :
    Calls Tryd.prog 11 #[.slice a n cap] w fun e w' => e = .returned (.agg ((shaN bs).map u8v).toArray) ∧ Off (fun _ => False) w w' := by
  obtain ⟨ZR, hZR⟩ : ∃ Z : Array Value, Z = #[.int .u8 0, .int .u8 0, .int .u8 0, .int .u8 0, .int .u8 0, .int .u8 0, .int .u8 0, .int .u8 0, .int .u8 0, .int .u8 0, .int .u8 0, .int .u8 0, .int .u8 0, .int .u8 0, .int .u8 0, .int .u8 0, .int .u8 0, .int .u8 0, .int .u8 0, .int .u8 0, .int .u8 0, .int .u8 0, .int .u8 0, .int .u8 0, .int .u8 0, .int .u8 0, .int .u8 0, .int .u8 0, .int .u8 0, .int .u8 0, .int .u8 0, .int .u8 0] := ⟨_, rfl⟩
  obtain ⟨w1, hw1⟩ : ∃ w1, w1 = w.alloc (.cells ZR 25) := ⟨_, rfl⟩
  have hR : w1.heap[w.heap.size]? = some (.cells ZR 25) := by rw [hw1]; exact heap_new' rfl _
  have ho1 : Off (fun _ => False) w w1 := by rw [hw1]; exact (Off.refl _ w).alloc _
  have hnew := new_any w1 (hT.off ho1)
  have HNW := Lib.hid hnew
  have HT1 := Lib.hid (hT.off ho1)
  have HB1 := Lib.hid (hb.off ho1 (fun _ _ _ c => c)).old
  have HN := Lib.hid hn
  have HC := Lib.hid hc
  have HS := Lib.hid hs
  have HM := Lib.hid hm
  have HR := Lib.hid hR
  have HO1 := Lib.hid ho1
  have HW1 := Lib.hid hw1
  have HZR := Lib.hid hZR
  have hi32 : (Tryd.prog.info? 25).map (·.size) = some 32 := by kernel_rfl
  have HI32 := Lib.hid hi32
  clear hZR hw1 hR ho1 hnew hb hn hc hs hm hT hi32
  go_enter Tryd.func11, Tryd.ntmps11
  go_upto_region 1 with fail
  rw [← HZR.out, ← HW1.out]
  go_upto_region 2 with first | (go_at_call 14; refine (HNW.out).mono ?_; rintro e w2 ⟨p, rfl, hh, ho, hp'⟩; have hp := Lib.hid hp'; clear hp') | fail
  have hnt := NoTab.new HT1.out (Nat.le_of_eq hp.out.symm)
  have hw := write_any p [] bs a n cap (fun k => k < w1.heap.size) w2 hh (HB1.out.off ho (fun _ _ _ c => c)) (by have := hp.out; omega) HN.out HC.out HS.out (by have := HM.out; simp; omega) (HT1.out.off ho) hnt
  rw [List.nil_append] at hw
  have HW := Lib.hid hw
  have HO2 := Lib.hid ho
  have HT2 := Lib.hid (HT1.out.off ho)
  have HNT := Lib.hid hnt
  have HPP := hp
  clear hw ho hnt hh hp
  go_upto_region 3 with first | (go_at_call 15; refine (HW.out).mono ?_; rintro e w3 ⟨rfl, hh, ho⟩) | fail
  have hsm := hsum_any p bs w3 hh (by have := HM.out; have := HN.out; omega) (HT2.out.offp HNT.out ho)
  obtain ⟨ds, hds⟩ : ∃ ds, ds = ((shaN bs).map u8v).toArray := ⟨_, rfl⟩
  rw [← hds] at hsm
  have hdz : ds.size = 32 := by rw [hds]; rfl
  have hdi : (Tryd.prog.info? 25).map (·.size) = some ds.size := by rw [hdz]; exact HI32.out
  have hdo : ds.all (·.oneCell') = true := by rw [hds]; simp [Value.oneCell']
  have HSM := Lib.hid hsm
  have HDS := Lib.hid hds
  have HDI := Lib.hid hdi
  have HDO := Lib.hid hdo
  have HZ3 := Lib.hid (show ZR.size = ds.size by rw [hdz, HZR.out]; rfl)
  have hlt := heap_lt HR.out
  have HR3 := Lib.hid (ho.heap (HO2.out.heap HR.out (fun c => c)) (fun e => by have := HPP.out; omega))
  have HO3 := Lib.hid (show Off (fun _ => False) w w3 from (HO1.out.trans HO2.out (fun _ _ c => c)).trans ho (fun k hk e => by have := HPP.out; have := HO1.out.size; omega))
  clear hds hdz hdi hdo ho hsm hh hlt
  have hrow := fun w4 h4 => row_in (w4 := w4) HR3.out (ds := ds) HO3.out h4
  have HROW := Lib.hid hrow
  clear hrow
  go_wp2_with first | (go_at_call 16; refine (HSM.out).mono ?_; rintro e w4 ⟨rfl, ho4⟩; have HO4 := Lib.hid ho4; clear ho4) | (refine wpList_store_row rfl _ _ _ rfl _ ds rfl rfl _ _ (HO4.out.heap HR3.out (fun c => c)) HDI.out HZ3.out HDO.out ?_) | fail
  refine bodyPost_ret (v := .agg ds) (results_cell_row Tryd.results11 _ _ w.heap.size _ ds (0, 0) _ rfl (HROW.out _ HO4.out).1 Tryd.underlying25 rfl HDI.out) rfl ⟨by rw [HDS.out], (HROW.out _ HO4.out).2⟩
end Go.Proofs.YthjfhgnmaepafaaDoor
