/-
  The contract of the reference's Sum over this seat's translation, out of that of block. Conditions: the bytes are bytes, at most 5000.
-/
import Derived.Test.YthjfhgnmaepafaaDoorShaMem
namespace Go.Proofs.YthjfhgnmaepafaaDoor
open Go.RowKit
set_option maxRecDepth 100000
set_option maxHeartbeats 4000000
/-- The contract of block. -/
def BlockC : Prop := ∀ (s : W8) (k b : List Nat) (v1 v2 v3 : Value) (w : World), s.ok → Ws k → k.length = 64 → Sm b → b.length = 64 → LvAt u32v w v1 s.list → LvAt u32v w v2 k → LvAt u8v w v3 b →
    Calls Tryd.prog 21 #[v1, v2, v3] w fun e w' => ∃ v, e = .returned v ∧ LvAt u32v w' v (blkV s k b).list ∧ Off (fun _ => False) w w'
theorem refsum_of (hB : BlockC) (a : Option Addr) (n cap : Nat) (bs : List Nat) (S : Nat → Prop) (w : World) (hb : BsAt w a bs S) (hn : n = bs.length) (hs : Sm bs) (hm : n ≤ 5000) :
    Calls Tryd.prog 12 #[.slice a n cap] w fun e w' => e = .returned (.agg ((shaN bs).map u8v).toArray) ∧ Off (fun _ => False) w w' := by
  obtain ⟨w1, hw1⟩ : ∃ w1, w1 = w.alloc (.cells #[.int .u8 0, .int .u8 0, .int .u8 0, .int .u8 0, .int .u8 0, .int .u8 0, .int .u8 0, .int .u8 0, .int .u8 0, .int .u8 0, .int .u8 0, .int .u8 0, .int .u8 0, .int .u8 0, .int .u8 0, .int .u8 0, .int .u8 0, .int .u8 0, .int .u8 0, .int .u8 0, .int .u8 0, .int .u8 0, .int .u8 0, .int .u8 0, .int .u8 0, .int .u8 0, .int .u8 0, .int .u8 0, .int .u8 0, .int .u8 0, .int .u8 0, .int .u8 0] 25) := ⟨_, rfl⟩
  have hR : w1.heap[w.heap.size]? = some (.cells #[.int .u8 0, .int .u8 0, .int .u8 0, .int .u8 0, .int .u8 0, .int .u8 0, .int .u8 0, .int .u8 0, .int .u8 0, .int .u8 0, .int .u8 0, .int .u8 0, .int .u8 0, .int .u8 0, .int .u8 0, .int .u8 0, .int .u8 0, .int .u8 0, .int .u8 0, .int .u8 0, .int .u8 0, .int .u8 0, .int .u8 0, .int .u8 0, .int .u8 0, .int .u8 0, .int .u8 0, .int .u8 0, .int .u8 0, .int .u8 0, .int .u8 0, .int .u8 0] 25) := by rw [hw1]; exact heap_new' rfl _
  have ho1 : Off (fun _ => False) w w1 := by rw [hw1]; exact (Off.refl _ w).alloc _
  have hw1' : w.alloc (.cells #[.int .u8 0, .int .u8 0, .int .u8 0, .int .u8 0, .int .u8 0, .int .u8 0, .int .u8 0, .int .u8 0, .int .u8 0, .int .u8 0, .int .u8 0, .int .u8 0, .int .u8 0, .int .u8 0, .int .u8 0, .int .u8 0, .int .u8 0, .int .u8 0, .int .u8 0, .int .u8 0, .int .u8 0, .int .u8 0, .int .u8 0, .int .u8 0, .int .u8 0, .int .u8 0, .int .u8 0, .int .u8 0, .int .u8 0, .int .u8 0, .int .u8 0, .int .u8 0] 25) = w1 := hw1.symm
  have HW1 := Lib.hid hw1'
  obtain ⟨w2, hw2⟩ : ∃ w2, w2 = w1.alloc (.cells #[] 5) := ⟨_, rfl⟩
  have ho2 : Off (fun _ => False) w1 w2 := by rw [hw2]; exact (Off.refl _ w1).alloc _
  have r2 : RowB w1.heap.size w2 (.slice (some ⟨w1.heap.size, 0, none⟩) 0 0) [] := by rw [hw2]; exact World.ownsRow_lit w1 #[] 0 (Nat.le_refl _) (by decide) rfl
  have hb2 := (hb.off ho1 (fun _ _ _ c => c)).off ho2 (fun _ _ _ c => c)
  obtain ⟨v3, w3, hr3, r3, o3⟩ := app_any ho2 r2 (cap := cap) hb2 hn (by simp; omega)
  rw [List.nil_append] at r3
  obtain ⟨v4, w4, hr4, r4, o4⟩ := app_bytes (o3.alloc (.cells #[u8v 128] 5)) (World.ownsRow.alloc r3 _) (a := some ⟨w3.heap.size, 0, none⟩) (n := 1) (cap := 1) (ys := [128]) (S := fun _ => True) (BsAt.of_blk (xs := [128]) (heap_new' rfl _) trivial) rfl (by decide) (by omega)
  have e1 : w1.heap.size = w.heap.size + 1 := by rw [hw1]; exact World.size_alloc _ _
  rw [e1] at hr3
  have HR3 := Lib.hid hr3
  have HR4 := Lib.hid hr4
  have HW2 := Lib.hid hw2
  have HB := Lib.hid hb
  have HS := Lib.hid hs
  have HN := Lib.hid hn
  have HB0 := Lib.hid hB
  have H1 := Lib.hid hR
  have H2 := Lib.hid ho1
  have H3 := Lib.hid r4
  have H4 := Lib.hid o4
  clear hR ho1 hw1 hw1' hw2 ho2 r2 hb2 hr3 r3 o3 hr4 r4 o4 hb hs hB hn
  go_enter Tryd.func12, Tryd.ntmps12
  go_wp2_with first | (at_builtin; rw [HW1.out, ← HW2.out]; refine Go.Lib.wpList_append_run _ rfl _ _ _ _ rfl _ _ rfl rfl _ _ HR3.out ?_) | (at_builtin; refine Go.Lib.wpList_append_run _ rfl _ _ _ _ rfl _ _ rfl rfl _ _ HR4.out ?_) | fail
  have HZF := Lib.hid (fun j (hj : j < zerN n) => zerN_first n j hj)
  have HZM := Lib.hid (zerN_mod n)
  have hzl := zerN_lt n
  obtain ⟨zn, hzn⟩ : ∃ zn, zn = zerN n := ⟨_, rfl⟩
  rw [← hzn] at HZF HZM hzl
  have HZN := Lib.hid hzn
  clear hzn
  go_loopw [3] (fun v wr => ∃ j : Nat, j ≤ zn ∧ RowB w1.heap.size wr v (bs ++ [128] ++ List.replicate j 0) ∧ Off (fun _ => False) w1 wr) (fun v _ => match v with | .slice _ m _ => n + 200 - m | _ => 0)
  case atStart => exact ⟨0, Nat.zero_le _, by simpa using H3.out, H4.out⟩
  case round =>
    obtain ⟨j, hj, hr, hO⟩ := hrel
    obtain ⟨a5, c5, rfl, hc5⟩ := hr.shape
    have hL : (bs ++ [128] ++ List.replicate j 0).length = n + 1 + j := by simp; have := HN.out; omega
    rw [hL] at hr hc5 ⊢
    by_cases hlt : j < zn
    · have hne := HZF.out j hlt
      have i0 : ¬ (((n + 1 + j : Nat) : Int) % 64 = 56) := by omega
      have i1 : (((n + 1 + j : Nat) : Int) % 64 == 56) = false := by simp; omega
      obtain ⟨v6, w6, hr6, r6, o6⟩ := app_bytes (hO.alloc (.cells #[u8v 0] 5)) (World.ownsRow.alloc hr _) (a := some ⟨wr.heap.size, 0, none⟩) (n := 1) (cap := 1) (ys := [0]) (S := fun _ => True) (BsAt.of_blk (xs := [0]) (heap_new' rfl _) trivial) rfl (by decide) (by omega)
      obtain ⟨a6, c6, rfl, hc6⟩ := r6.shape
      have hL6 : (bs ++ [128] ++ List.replicate j 0 ++ [0]).length = n + 1 + j + 1 := by rw [List.length_append, hL]; rfl
      have HR6 := Lib.hid hr6
      have HO6 := Lib.hid o6
      have HV6 := Lib.hid (show RowB w1.heap.size w6 _ (bs ++ [128] ++ List.replicate (j + 1) 0) by rw [List.replicate_succ', ← List.append_assoc]; exact r6)
      rw [hL6] at HR6 HV6
      obtain ⟨m, hm'⟩ : ∃ m, m = n + 1 + j := ⟨_, rfl⟩
      rw [← hm'] at hne i0 i1 HR6 HV6 hr ⊢
      have HM' := Lib.hid hm'
      clear hr hO hr6 r6 o6 hc6 hL6 hL hc5 hm'
      go_wp2_with first | (at_builtin; refine Go.Lib.wpList_append_run _ rfl _ _ _ _ rfl _ _ rfl rfl _ _ HR6.out ?_) | fail
      go_roundw
      case rel => exact ⟨j + 1, by omega, HV6.out, HO6.out⟩
      case measure => have := HM'.out; simp <;> omega
    · obtain rfl : j = zn := by omega
      have hzm := HZM.out
      have i1 : (((n + 1 + j : Nat) : Int) % 64 == 56) = true := by simp; omega
      have i2 : (((n + 1 + j : Nat) : Int) % 64 = 56) := by omega
      have hP := Lib.hid hr
      obtain ⟨N, hNN⟩ : ∃ N, N = n * 8 := ⟨_, rfl⟩
      have w1' : IntKind.u64.wrap (n : Int) = (n : Int) := by rw [IntKind.wrap_u64]; omega
      have w2' : (n : Int) * 8 = (N : Int) := by omega
      have w3' : IntKind.u64.wrap (N : Int) = (N : Int) := by rw [IntKind.wrap_u64]; omega
      have hN64 : N ≤ 40000 := by omega
      obtain ⟨m, hm'⟩ : ∃ m, m = n + 1 + j := ⟨_, rfl⟩
      rw [← hm'] at i1 i2 hP ⊢
      have HM' := Lib.hid hm'
      have HNN := Lib.hid hNN
      have HO := Lib.hid hO
      clear hr hO hL hc5 hm' hNN hzm
      obtain ⟨w5, rfl⟩ : ∃ w5, w5 = wr := ⟨_, rfl⟩
      go_wp2
      go_loopw [4, 6] (fun q i wr => ∃ t : Nat, t ≤ 8 ∧ q = .int .u64 ((N / 256 ^ t : Nat) : Int) ∧ i = .int .i64 (7 - (t : Int)) ∧ ByBlk wr w5.heap.size 38 (lenB N t) ∧ Off (fun _ => False) w5 wr) (fun _ i _ => (intOf i + 1).toNat)
      case atStart => exact ⟨0, by omega, by simp, rfl, by rw [lenB_zero]; exact heap_new' rfl _, (Off.refl _ w5).alloc _⟩
      case round =>
        obtain ⟨t, ht, rfl, rfl, hL, hO⟩ := hrel
        by_cases ht8 : t < 8
        · have i3 : decide ((7 : Int) - (t : Int) ≥ 0) = true := by simp; omega
          have i4 : (0 : Int) ≤ 7 - (t : Int) := by omega
          have i5 : (7 : Int) - (t : Int) < 8 := by omega
          have i6 : IntKind.i64.wrap ((7 : Int) - (t : Int) - 1) = 7 - ((t + 1 : Nat) : Int) := by rw [IntKind.wrap_i64]; omega
          have hle : N / 256 ^ t ≤ N := Nat.div_le_self _ _
          have hst := hL.store (7 - t) (N / 256 ^ t % 256)
          rw [lenB_set N t ht8] at hst
          have hO2 := hO.trans (setCells_off w5.heap.size [u8v (N / 256 ^ t % 256)] (7 - t) wr) (fun k hk e => by omega)
          have hlt := hL.lt
          have fz := hL.frozen (7 - t)
          obtain ⟨x, hx⟩ : ∃ x, (lenB N t)[7 - t]? = some x := ⟨_, List.getElem?_eq_getElem (by rw [lenB_length N t ht]; omega)⟩
          have hce := hL.cell hx
          have hq2 : N / 256 ^ t / 256 = N / 256 ^ (t + 1) := by rw [Nat.div_div_eq_div_mul, ← Nat.pow_succ]
          obtain ⟨q, hq⟩ : ∃ q, q = N / 256 ^ t := ⟨_, rfl⟩
          rw [← hq] at hle hst hO2 hq2 ⊢
          have i7 : IntKind.u8.wrap ((q : Int) % 256) = ((q % 256 : Nat) : Int) := by rw [IntKind.wrap_u8]; omega
          have i8 : ((7 : Int) - (t : Int)).toNat = 7 - t := by omega
          have i9 : IntKind.u64.wrap ((q : Int) / 256) = ((q / 256 : Nat) : Int) := by rw [IntKind.wrap_u64]; omega
          have HST := Lib.hid hst
          have HO2 := Lib.hid hO2
          have HQ2 := Lib.hid hq2
          clear hst hO2 hL hO hq hq2 hx
          go_wp2
          refine ⟨⟨t + 1, by omega, by rw [← HQ2.out]; rfl, rfl, HST.out, HO2.out⟩, ?_⟩
          simp [intOf] <;> omega
        · obtain rfl : t = 8 := by omega
          have i3 : decide ((7 : Int) - ((8 : Nat) : Int) ≥ 0) = false := by decide
          rw [lenB_full] at hL
          have hP5 := RowT.off hP.out hO (fun _ _ c => c)
          have hO1 := HO.out.trans hO (fun _ _ c => c)
          obtain ⟨v7, w7, hr7, r7, o7⟩ := app_bytes hO1 hP5 (a := some ⟨w5.heap.size, 0, none⟩) (n := 8) (cap := 8) (S := fun _ => True) (BsAt.of_blk hL trivial) rfl (by decide) (by simp; have := zerN_lt n; have := HZN.out; have := HN.out; omega)
          have epad : bs ++ [128] ++ List.replicate j 0 ++ be8 N = padB bs := by unfold padB; rw [← HN.out, HNN.out, HZN.out]
          rw [epad] at r7
          have hpl := padB_length bs
          have hpm := padB_mod bs
          have hzl2 := zerN_lt bs.length
          have hnn := HN.out
          obtain ⟨g7, c7, rfl, hc7, _, _, _⟩ := r7.form (by omega)
          obtain ⟨ln, hln⟩ : ∃ ln, ln = (padB bs).length := ⟨_, rfl⟩
          have hlm : ln ≤ 6000 := by omega
          rw [← hln] at hr7 hc7 hpm
          have HLN := Lib.hid hln
          have HPM := Lib.hid hpm
          rw [← hln] at r7
          have HR7 := Lib.hid hr7
          have H7 := Lib.hid r7
          have HO7 := Lib.hid o7
          clear hL hP5 hO1 hr7 r7 o7 hO epad hln hpm hpl hzl2 hnn
          obtain ⟨w6, rfl⟩ : ∃ w6, w6 = wr := ⟨_, rfl⟩
          go_wp2_with first | (at_builtin; refine Go.Lib.wpList_append_run _ rfl _ _ _ _ rfl _ _ rfl rfl _ _ HR7.out ?_) | fail
          refine (constants_any true 64 311 (by decide) (by decide) consL_kL' (congrArg List.length consL_kL) (by decide) (by decide) w7).mono ?_
          rintro e w8 ⟨vk, rfl, rk, ok8⟩
          have HK := Lib.hid (show RowW w7.heap.size w8 vk kL from consL_kL ▸ rk)
          have HO8 := Lib.hid ok8
          clear rk ok8
          go_wp2_with fail
          refine (constants_any false 8 19 (by decide) (by decide) consL_hV' (congrArg List.length consL_hV) (by decide) (by decide) w8).mono ?_
          rintro e w9 ⟨vs, rfl, rs, ok9⟩
          have HV := Lib.hid (show LvAt u32v w9 vs hV.list from RowT.lv (show RowW w8.heap.size w9 vs hV.list from consL_hV ▸ rs) (by decide))
          have HKv := Lib.hid (show LvAt u32v w9 vk kL from (HK.out.lv (by decide)).off ok9)
          have HO9 := Lib.hid (show Off (fun _ => False) w1 w9 from (HO7.out.trans HO8.out (fun _ _ c => c)).trans ok9 (fun _ _ c => c))
          have HPv := Lib.hid (show LvAt u8v w9 _ (padB bs) from ((H7.out.lv (by rw [padB_length]; omega)).off HO8.out).off ok9)
          clear rs ok9 HK HO8 H7 HO7 HR7 HR4 HR3
          go_wp2_with fail
          have HPL := Lib.hid (show Sm (padB bs) from padB_sm HS.out)
          have HH1 := Lib.hid (show w1.heap[w.heap.size]? = _ from H1.out)
          have hkk : Ws kL := by unfold Ws; decide +kernel
          have HKK := Lib.hid hkk
          clear hkk
          go_loopw [8, 9] (fun v i wr => ∃ M : Nat, 64 * M ≤ ln ∧ i = .int .i64 ((64 * M : Nat) : Int) ∧ LvAt u32v wr v (foldB kL hV (padB bs) M).list ∧ Off (fun _ => False) w9 wr) (fun _ i _ => ln - (intOf i).toNat)
          case atStart => exact ⟨0, by omega, rfl, HV.out, Off.refl _ w9⟩
          case round =>
            obtain ⟨M, hM, rfl, hv, hO⟩ := hrel
            have hpm := HPM.out
            by_cases hlt : 64 * M < ln
            · have hM2 : 64 * M + 64 ≤ ln := by omega
              obtain ⟨y, hy⟩ : ∃ y, y = 64 * M := ⟨_, rfl⟩
              have i1 : decide ((y : Int) < (ln : Int)) = true := by simp; omega
              have i0 : y < ln := by omega
              have i2 : IntKind.i64.wrap ((y : Int) + 64) = ((y + 64 : Nat) : Int) := by rw [IntKind.wrap_i64]; omega
              have hpart := (HPv.out.off hO).part y 64 (by omega)
              rw [Nat.zero_add] at hpart
              have hcall := HB0.out (foldB kL hV (padB bs) M) kL (((padB bs).drop y).take 64) _ vk _ wr (foldB_ok hV_ok _ M) HKK.out rfl ((HPL.out.drop y).take 64) (by rw [List.length_take, List.length_drop, ← HLN.out]; omega) hv (HKv.out.off hO) hpart
              have HC := Lib.hid hcall
              have HO := Lib.hid hO
              have Hy := Lib.hid hy
              rw [← hy] at hlt hM2 hM ⊢
              clear hv hO hpart hcall hy hpm
              go_wp2_with fail
              refine HC.out.mono ?_
              rintro e w10 ⟨v10, rfl, hv10, o10⟩
              have HV10 := Lib.hid (show LvAt u32v w10 v10 (foldB kL hV (padB bs) (M + 1)).list by rw [Hy.out] at hv10; exact hv10)
              have HO10 := Lib.hid (HO.out.trans o10 (fun _ _ c => c))
              clear hv10 o10 HC HO
              go_wp2_with fail
              go_roundw
              case rel => exact ⟨M + 1, by have := Hy.out; omega, by have := Hy.out; rw [show 64 * (M + 1) = y + 64 by omega]; rfl, HV10.out, HO10.out⟩
              case measure => simp [intOf] <;> omega
            · have hMl : 64 * M = ln := by omega
              have HS := Lib.hid (show (shaN bs) = outB (foldB kL hV (padB bs) M) by unfold shaN; rw [← HLN.out, show ln / 64 = M by omega])
              obtain ⟨s8, hs8⟩ : ∃ s8, s8 = foldB kL hV (padB bs) M := ⟨_, rfl⟩
              have hok : s8.ok := by rw [hs8]; exact foldB_ok hV_ok _ M
              rw [← hs8] at HS hv
              have i1 : decide (((64 * M : Nat) : Int) < (ln : Int)) = false := by simp; omega
              have HVV := Lib.hid hv
              have HOO := Lib.hid hO
              have HOK := Lib.hid hok
              obtain ⟨y, hy⟩ : ∃ y, y = 64 * M := ⟨_, rfl⟩
              rw [← hy] at i1 ⊢
              have i0 : ¬ y < ln := by omega
              clear hv hO hok hs8 hMl hpm hlt hM hy
              obtain ⟨w11, rfl⟩ : ∃ w11, w11 = wr := ⟨_, rfl⟩
              obtain ⟨g8, off8, cap8, hv8, hc8, hx8⟩ := HVV.out
              have hx8' := Lib.hid hx8
              have hl8 : s8.list.length = 8 := rfl
              rw [hl8] at hv8 hc8
              subst hv8
              clear hx8 HVV
              go_wp2
              go_loopw [11] (fun i wr => ∃ t : Nat, t ≤ 32 ∧ i = .int .i64 (t : Int) ∧ ByBlk wr w11.heap.size 25 (outP s8 t) ∧ Off (fun _ => False) w11 wr) (fun i _ => 32 - (intOf i).toNat)
              case atStart => exact ⟨0, by omega, rfl, by rw [outP_zero]; exact heap_new' rfl _, (Off.refl _ w11).alloc _⟩
              case round =>
                obtain ⟨t, ht, rfl, hL, hO⟩ := hrel
                by_cases ht8 : t < 32
                · have i3 : decide ((t : Int) < 32) = true := by simp; omega
                  have ht4 : t / 4 < 8 := by omega
                  obtain ⟨x, hx⟩ : ∃ x, s8.list[t / 4]? = some x := ⟨_, List.getElem?_eq_getElem (by rw [hl8]; exact ht4)⟩
                  have hce : wr.cell? ⟨g8, off8 + t / 4, none⟩ = some (u32v x) := hO.cell (hx8'.out _ _ hx) (fun c => c)
                  have hxlt : x < 4294967296 := W8.list_ws HOK.out x (List.mem_of_getElem? hx)
                  have j1 : (t : Int) / 4 = ((t / 4 : Nat) : Int) := by omega
                  have hset := outP_set s8 t ht8
                  rw [List.getD_eq_getElem?_getD, hx, Option.getD_some] at hset
                  have HSET := Lib.hid hset
                  have HL := Lib.hid hL
                  have HOw := Lib.hid hO
                  obtain ⟨r, hr⟩ : ∃ r, r = t / 4 := ⟨_, rfl⟩
                  rw [← hr] at hce j1 ht4
                  clear hset hL hO hx hr
                  obtain ⟨w12, rfl⟩ : ∃ w12, w12 = wr := ⟨_, rfl⟩
                  obtain ⟨m4, hm4⟩ : ∃ m4, m4 = t % 4 := ⟨_, rfl⟩
                  have hm43 : m4 ≤ 3 := by omega
                  have j2 : (t : Int) % 4 = (m4 : Int) := by omega
                  rw [← hm4] at HSET
                  clear hm4
                  go_wp2
                  go_loop [12, 13] (fun q j => ∃ d : Nat, d ≤ 3 - m4 ∧ q = .int .u32 ((x / 256 ^ d : Nat) : Int) ∧ j = .int .i64 (3 - (d : Int))) (fun _ j => (intOf j).toNat)
                  case atStart => exact ⟨0, by omega, by simp, rfl⟩
                  case round =>
                    obtain ⟨d, hd, rfl, rfl⟩ := hrel
                    have hle : x / 256 ^ d ≤ x := Nat.div_le_self _ _
                    have hq2 : x / 256 ^ d / 256 = x / 256 ^ (d + 1) := by rw [Nat.div_div_eq_div_mul, ← Nat.pow_succ]
                    obtain ⟨q, hq⟩ : ∃ q, q = x / 256 ^ d := ⟨_, rfl⟩
                    rw [← hq] at hle hq2 ⊢
                    by_cases hd3 : d < 3 - m4
                    · have k1 : decide ((3 : Int) - (d : Int) > (m4 : Int)) = true := by simp; omega
                      have k2 : IntKind.u32.wrap ((q : Int) / 256) = ((q / 256 : Nat) : Int) := by rw [IntKind.wrap_u32]; omega
                      have k3 : IntKind.i64.wrap ((3 : Int) - (d : Int) - 1) = 3 - ((d + 1 : Nat) : Int) := by rw [IntKind.wrap_i64]; omega
                      have HQ := Lib.hid hq2
                      clear hq hq2
                      go_wp2
                      go_round
                      case rel => exact ⟨d + 1, by omega, by rw [← HQ.out]; rfl, rfl⟩
                      case measure => simp [intOf] <;> omega
                    · obtain rfl : d = 3 - m4 := by omega
                      have k1 : decide ((3 : Int) - ((3 - m4 : Nat) : Int) > (m4 : Int)) = false := by simp; omega
                      have hst := HL.out.store t (q % 256)
                      rw [hq, HSET.out] at hst
                      have hlt := HL.out.lt
                      have fz := HL.out.frozen t
                      obtain ⟨z, hz⟩ : ∃ z, (outP s8 t)[t]? = some z := ⟨_, List.getElem?_eq_getElem (by rw [outP_length s8 t ht]; exact ht8)⟩
                      have hce2 := HL.out.cell hz
                      have ho2 := HOw.out.trans (setCells_off w11.heap.size [u8v (q % 256)] t w12) (fun k hk e => by omega)
                      have k4 : IntKind.u8.wrap ((q : Int) % 256) = ((q % 256 : Nat) : Int) := by rw [IntKind.wrap_u8]; omega
                      rw [← hq] at hst
                      have HST := Lib.hid hst
                      have HO2 := Lib.hid ho2
                      clear hst ho2 hq hq2 hz HL
                      go_wp2
                      refine ⟨⟨t + 1, by omega, rfl, HST.out, HO2.out⟩, ?_⟩
                      simp [intOf] <;> omega
                · obtain rfl : t = 32 := by omega
                  have i3 : decide (((32 : Nat) : Int) < 32) = false := by decide
                  rw [outP_full] at hL
                  obtain ⟨cs, hcs⟩ : ∃ cs, cs = ((outB s8).map u8v).toArray := ⟨_, rfl⟩
                  have hcz : cs.size = 32 := by rw [hcs]; rfl
                  have hi0 : (Tryd.prog.info? 25).map (·.size) = some 32 := by kernel_rfl
                  have hi1 : (Tryd.prog.info? 25).map (·.size) = some cs.size := by rw [hcz]; exact hi0
                  have hone : cs.all (·.oneCell') = true := by rw [hcs]; simp [Value.oneCell']
                  unfold ByBlk at hL
                  rw [← hcs] at hL
                  have hO1 : Off (fun _ => False) w1 wr := (HO9.out.trans HOO.out (fun _ _ c => c)).trans hO (fun _ _ c => c)
                  have hOw : Off (fun _ => False) w wr := H2.out.trans hO1 (fun _ _ c => c)
                  have hgR := hO1.heap HH1.out (fun c => c)
                  have hgw := hOw.size
                  have hrow := setRow_heap wr w.heap.size _ cs 25 (0, 0) hgR
                  have hgrown : wr.grownBy (wr.setRow w.heap.size cs) (some w.heap.size) := ⟨rfl, rfl, rfl, by simp, fun k _ hk => setRow_other wr w.heap.size k _ (fun e => hk (by simp [e]))⟩
                  have hOF : Off (fun _ => False) w (wr.setRow w.heap.size cs) := hOw.grown hgrown (fun j ej => by
                    cases ej
                    refine ⟨fun h => by omega, fun o ho => ?_⟩
                    rw [hgR] at ho; cases ho; rfl)
                  have HCS := Lib.hid hcs
                  have HL := Lib.hid hL
                  have HG := Lib.hid hgR
                  have HROW := Lib.hid hrow
                  have HF := Lib.hid hOF
                  have HI := Lib.hid hi1
                  have HZ := Lib.hid hcz
                  have HONE := Lib.hid hone
                  clear hL hgR hrow hOF hi1 hcz hone hcs hO hO1 hOw hgrown
                  go_wp2_with first | (refine wpList_load_row rfl _ _ rfl _ rfl _ cs (0, 0) _ HL.out Tryd.underlying25 rfl HI.out ?_) | (refine wpList_store_row rfl _ _ _ rfl _ cs rfl rfl _ _ HG.out HI.out (by rw [HZ.out]; rfl) HONE.out ?_) | fail
                  refine bodyPost_ret (v := .agg cs) (results_cell_row Tryd.results12 _ _ w.heap.size _ cs (0, 0) _ rfl HROW.out Tryd.underlying25 rfl HI.out) rfl ⟨by rw [HS.out, ← HCS.out], HF.out⟩
end Go.Proofs.YthjfhgnmaepafaaDoor
