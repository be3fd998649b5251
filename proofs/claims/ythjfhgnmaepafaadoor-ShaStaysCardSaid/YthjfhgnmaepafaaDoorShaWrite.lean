/-
  The contract of (*Hash).Write over this seat's translation. Conditions: the hash lies in memory, the bytes lie outside of it, the tables lie there.
-/
import Derived.Test.YthjfhgnmaepafaaDoorShaNew
namespace Go.Proofs.YthjfhgnmaepafaaDoor
open Go.RowKit
set_option maxRecDepth 100000
set_option maxHeartbeats 4000000
set_option linter.unusedSimpArgs false
/-- A block that is no table. -/
def NoTab (p : Nat) : Prop := 1 ≠ p ∧ 0 ≠ p
theorem TabAt.offp {w w' : World} {p : Nat} (h : TabAt w) (hp : NoTab p) (ho : Off (fun j => j = p) w w') : TabAt w' := ⟨fun i v hv => ho.cell (h.1 i v hv) hp.1, fun i v hv => ho.cell (h.2 i v hv) hp.2⟩
theorem NoTab.new {w : World} {p : Nat} (h : TabAt w) (hp : w.heap.size ≤ p) : NoTab p := by
  have h1 := World.block_lt_of_cell? w _ (h.1 0 _ rfl)
  have h2 := World.block_lt_of_cell? w _ (h.2 0 _ rfl)
  exact ⟨fun e => by rw [← e] at hp; exact absurd (Nat.lt_of_lt_of_le h1 hp) (Nat.lt_irrefl _), fun e => by rw [← e] at hp; exact absurd (Nat.lt_of_lt_of_le h2 hp) (Nat.lt_irrefl _)⟩
theorem sl_arr (p r : Nat) (hr : r < 64) (W : World) : (Instr.sliceAt 44 (.pointer (some ⟨p, 8, none⟩)) (some (.int .i64 (r : Int))) none none).run Tryd.prog W = .ok (.slice (some ⟨p, 8 + r, none⟩) (64 - r) (64 - r)) W := by
  have hl : Tryd.prog.arrayLen 44 = 64 := by kernel_rfl
  have he : Tryd.prog.elem 44 = 5 := by kernel_rfl
  rw [run_sliceAt_array_l W 44 _ (by rw [hl, he]; exact Tryd.underlying44) .i64 _ (by omega) (by rw [hl]; omega), hl, he, Tryd.sizeOf5]
  have h64 : ¬ 64 = r := by omega
  simp [Result.andThen, slicedAt, Addr.add_lit, h64]
theorem sl_tail (b o m cap c : Nat) (hc : c ≤ m) : ∃ a cap', cap' = cap - c ∧ (c < cap → a = some (⟨b, o + c, none⟩ : Addr)) ∧ ∀ W, (Instr.slice 22 (.slice (some ⟨b, o, none⟩) m cap) (some (.int .i64 (c : Int))) none none).run Tryd.prog W = .ok (.slice a (m - c) cap') W := by
  refine ⟨(if cap = c then some ⟨b, o, none⟩ else some ⟨b, o + c, none⟩), cap - c, rfl, fun h => by rw [if_neg (by omega)], fun W => ?_⟩
  have he : Tryd.prog.elem 22 = 5 := by simp [Program.elem, Tryd.underlying22]
  rw [run_slice_l W 22 _ _ _ (by rw [he]; exact Tryd.underlying22) .i64 _ (by omega) (by omega), he, Tryd.sizeOf5]
  by_cases h : cap = c
  · simp [Result.andThen, sliced, h]
  · simp [Result.andThen, sliced, Addr.add_lit, h]
/-- The copy of one round. -/
theorem copy_round {w : World} {p b o r m cap c : Nat} {s : W8} {blk zs ys : List Nat} {n : Nat} {ty : TypeId} (hR : Raw w p s blk n) (hz : ∀ j x, zs[j]? = some x → w.cell? ⟨b, o + j, none⟩ = some (u8v x)) (hzl : zs.length = m) (hr : r < 64) (hc : c = Nat.min m (64 - r)) (hys : ys = zs.take c) :
    ∃ w1, (Builtin.copy_ #[22, 22] ty #[.slice (some ⟨p, 8 + r, none⟩) (64 - r) (64 - r), .slice (some ⟨b, o, none⟩) m cap]).run Tryd.prog w = .ok (.int .i64 (c : Int)) w1 ∧ Raw w1 p s (blk.take r ++ ys ++ blk.drop (r + c)) n ∧ Off (fun j => j = p) w w1 := by
  have hs : (Tryd.prog.info? 5).map (·.size) = some 1 := by kernel_rfl
  have hcm : c ≤ m := by rw [hc]; exact Nat.min_le_left _ _
  have hcr : c ≤ 64 - r := by rw [hc]; exact Nat.min_le_right _ _
  have hyl : ys.length = c := by rw [hys, List.length_take]; omega
  have hb := hR.1
  have hrun := run_copy_cells (P := Tryd.prog) w 22 22 ty 5 p (8 + r) (64 - r) (64 - r) ⟨b, o, none⟩ m cap (ys.map u8v) Tryd.underlying22 hs (by rw [List.length_map, hyl]; exact hc)
    (fun j u hj => by
      rw [List.getElem?_map] at hj
      obtain ⟨x, hx, rfl⟩ := Option.map_eq_some_iff.1 hj
      rw [Addr.add_lit]
      rw [hys, List.getElem?_take] at hx
      split at hx
      · exact hz j x hx
      · cases hx)
    (fun j hj => by
      rw [List.length_map, hyl] at hj
      rw [Nat.add_assoc, hR.byte (List.getElem?_eq_getElem (show r + j < blk.length by omega))]; rfl)
    (fun j _ => frozen_of_heap hR.2 _)
    (fun u hu' => by obtain ⟨x, _, rfl⟩ := List.mem_map.1 hu'; rfl)
  rw [List.length_map, hyl] at hrun
  refine ⟨_, hrun, ?_, setCells_off p _ (8 + r) w⟩
  have := hR.fill r ys (by omega)
  rw [hyl] at this
  exact this
theorem write_any (p : Nat) (bs cs : List Nat) (a : Option Addr) (n cap : Nat) (S : Nat → Prop) (w : World) (hH : HashAt w p bs) (hb : BsAt w a cs S) (hS : ¬ S p) (hn : n = cs.length) (hc : n ≤ cap) (hs : Sm cs) (hlen : bs.length + n ≤ 1000000) (hT : TabAt w) (hp : NoTab p) :
    Calls Tryd.prog 15 #[.pointer (some ⟨p, 0, none⟩), .slice a n cap] w fun e w' => e = .returned (.tuple #[]) ∧ HashAt w' p (bs ++ cs) ∧ Off (fun j => j = p) w w' := by
  have HH := Lib.hid hH
  have HB := Lib.hid hb
  have HSp := Lib.hid hS
  have HN := Lib.hid hn
  have HC := Lib.hid hc
  have HS := Lib.hid hs
  have HL := Lib.hid hlen
  have HT := Lib.hid hT
  have HP := Lib.hid hp
  clear hH hb hS hn hc hs hlen hT hp
  go_enter Tryd.func15, Tryd.ntmps15
  go_wp2
  go_loopw [1] (fun v wr => ∃ (k : Nat) (a' : Option Addr) (cap' : Nat), k ≤ n ∧ v = .slice a' (n - k) cap' ∧ n - k ≤ cap' ∧ BsAt wr a' (cs.drop k) S ∧ HashAt wr p (bs ++ cs.take k) ∧ Off (fun j => j = p) w wr) (fun v _ => match v with | .slice _ m _ => m | _ => 0)
  case atStart => exact ⟨0, a, cap, Nat.zero_le _, rfl, HC.out, HB.out, by rw [List.take_zero, List.append_nil]; exact HH.out, Off.refl _ w⟩
  case round =>
    obtain ⟨k, a', cap', hk, rfl, hcap, hB, hA, hO⟩ := hrel
    by_cases hlt : k < n
    · obtain ⟨b, o, rfl, hSb, hcell⟩ := hB (by rw [List.length_drop]; have := HN.out; omega)
      obtain ⟨hsm, blk, hblk, hraw, htl⟩ := hA
      have hL : (bs ++ cs.take k).length = bs.length + k := by rw [List.length_append, List.length_take]; have := HN.out; omega
      obtain ⟨m, hm⟩ : ∃ m, m = n - k := ⟨_, rfl⟩
      obtain ⟨L, hLd⟩ : ∃ L, L = (bs ++ cs.take k).length := ⟨_, rfl⟩
      obtain ⟨r, hr⟩ : ∃ r, r = L % 64 := ⟨_, rfl⟩
      obtain ⟨q, hq⟩ : ∃ q, q = L / 64 := ⟨_, rfl⟩
      obtain ⟨c, hc⟩ : ∃ c, c = Nat.min m (64 - r) := ⟨_, rfl⟩
      have hr64 : r < 64 := by omega
      have hcm : c ≤ m := by rw [hc]; exact Nat.min_le_left _ _
      have hcr : c ≤ 64 - r := by rw [hc]; exact Nat.min_le_right _ _
      have hc0 : 0 < c := by rw [hc]; exact Nat.lt_min.2 ⟨by omega, by omega⟩
      obtain ⟨ys, hys⟩ : ∃ ys, ys = (cs.drop k).take c := ⟨_, rfl⟩
      have hzl : (cs.drop k).length = m := by rw [List.length_drop]; have := HN.out; omega
      have hyl : ys.length = c := by rw [hys, List.length_take]; omega
      have hbb : bs ++ cs.take (k + c) = (bs ++ cs.take k) ++ ys := by rw [List.take_add, hys, List.append_assoc]
      rw [← hLd] at hL hraw
      obtain ⟨w1, hcp, hr1, ho1⟩ := copy_round (cap := cap') (ty := 3) (w := wr.drew) (hraw.off (Off.refl (fun _ => False) wr).drew (fun c => c)) (fun j x hj => by exact hcell j x hj) hzl hr64 hc hys
      obtain ⟨a2, cap2, hcap2, ha2, hsl2⟩ := sl_tail b o m cap' c hcm
      have hsl := sl_arr p r hr64
      have c72 := hraw.len
      have c72' := hr1.len
      have f72' := frozen_of_heap hr1.2 72
      have lt1 := heap_lt hr1.2
      have e1 : (L : Int) % 64 = (r : Int) := by omega
      have e2 : (L : Int).tmod 64 = (r : Int) := by rw [Int.tmod_eq_emod_of_nonneg (by omega)]; exact e1
      have lL : L ≤ 1000000 := by have := HL.out; omega
      obtain ⟨L2, hL2⟩ : ∃ L2, L2 = L + c := ⟨_, rfl⟩
      have e3 : IntKind.i64.wrap ((L : Int) + (c : Int)) = (L2 : Int) := by rw [IntKind.wrap_i64]; omega
      have i1 : decide ((m : Int) > 0) = true := by simp; omega
      have i2 : (0 : Int) < (m : Int) := by omega
      have i3 : (0 : Int) ≤ (r : Int) := by omega
      have i4 : (r : Int) ≤ 64 := by omega
      have i5 : (c : Int) ≤ (m : Int) := by omega
      rw [← hm]
      have HCell := Lib.hid hcell
      have HR1 := Lib.hid hr1
      have HO1b := Lib.hid ((Off.refl (fun j => j = p) wr).drew.trans ho1 (fun _ _ c => c))
      have HO1 := Lib.hid (hO.trans ((Off.refl (fun j => j = p) wr).drew.trans ho1 (fun _ _ c => c)) (fun _ _ c => c))
      have HLk := Lib.hid hL
      have HLd := Lib.hid hLd
      have Hr := Lib.hid hr
      have Hq := Lib.hid hq
      have Hm := Lib.hid hm
      have Hys := Lib.hid hys
      have Hyl := Lib.hid hyl
      have Hbb := Lib.hid hbb
      have HL2 := Lib.hid hL2
      have Hcap2 := Lib.hid hcap2
      have Ha2 := Lib.hid ha2
      have Hcr := Lib.hid hcr
      have Hc := Lib.hid hc
      have Hblk := Lib.hid hblk
      have Htl := Lib.hid htl
      have Hsm := Lib.hid hsm
      have Hbl := Lib.hid hraw.1
      clear hcell hraw hr1 ho1 hO hB hL hLd hr hq hm hc hys hyl hbb hL2 hcap2 ha2 hzl hcr hblk htl hsm
      go_upto_region 2 with fail
      go_region
      clear hcp hsl c72 lL e1 e2 i1 i2 i3 i4
      have HOW := Lib.hid (fun W (h : Off (fun j => j = p) w1 W) => HO1.out.trans h (fun _ _ c => c))
      have hmk : n - (k + c) = m - c := by have := Hm.out; omega
      have Hbn := Lib.hid (show ∀ W, Off (fun j => j = p) w1 W → BsAt W a2 (cs.drop (k + c)) S from fun W h => by
        intro hp
        rw [List.length_drop] at hp
        have hn := HN.out
        have hm' := Hm.out
        refine ⟨b, o + c, Ha2.out (by omega), hSb, fun j x hj => ?_⟩
        rw [List.getElem?_drop, Nat.add_assoc] at hj
        rw [Nat.add_assoc]
        have h0 := HCell.out (c + j) x (by rw [List.getElem?_drop]; exact hj)
        have h1 : w1.cell? ⟨b, o + (c + j), none⟩ = some (u8v x) := HO1b.out.cell h0 (fun e => HSp.out (e ▸ hSb))
        exact h.cell h1 (fun e => HSp.out (e ▸ hSb)))
      have Hmk := Lib.hid hmk
      clear hmk
      have hyl := Hyl.out
      obtain ⟨blk1, hb1⟩ : ∃ blk1, blk1 = blk.take r ++ ys ++ blk.drop (r + c) := ⟨_, rfl⟩
      have hR1 := HR1.out
      rw [← hb1] at hR1
      have hR2 := hR1.setLen L2
      have ho2 : Off (fun j => j = p) w1 (w1.setCell ⟨p, 72, none⟩ (.int .i64 (L2 : Int))) := (Off.refl (fun j => j = p) w1).setCell (fun _ => rfl) _
      have hsmy : Sm ys := by rw [Hys.out]; exact (HS.out.drop k).take c
      have hsm1 : Sm blk1 := by
        rw [hb1]
        exact Sm.app (Sm.app (Hblk.out.take r) hsmy) (Hblk.out.drop _)
      by_cases hf : r + c = 64
      · have e4 : (L2 : Int) % 64 = 0 := by have := HL2.out; have := Hr.out; omega
        have e5 : ((L2 : Int) % 64 == 0) = true := by rw [e4]; rfl
        have hff := fill_full (bs := bs ++ cs.take k) (blk := blk) (ys := ys) (r := r) (q := q) (by rw [Hr.out, HLd.out]) (by rw [Hq.out, HLd.out]) Hbl.out (by rw [Hr.out, Hq.out, HLd.out]; exact Htl.out) (by rw [hyl]; exact hf)
        rw [hyl, ← hb1] at hff
        obtain ⟨w2, hw2⟩ : ∃ w2, w2 = w1.setCell ⟨p, 72, none⟩ (.int .i64 (L2 : Int)) := ⟨_, rfl⟩
        rw [← hw2] at hR2 ho2
        have hR2 := hR2.off (Off.refl (fun _ => False) w2).drew (fun c => c)
        have ho2 := ho2.drew
        have hT2 := HT.out.offp HP.out (HOW.out w2.drew ho2)
        have hmix := mix_any (stV (bs ++ cs.take k)) blk1 (blk1.map u8v ++ [.int .i64 (L2 : Int)]) 46 p p 8 w2.drew (stV_ok _) hsm1 hR2.1 hT2 hR2.2 (fun j x hj => hR2.byte hj)
        have HM := Lib.hid hmix
        have HFF := Lib.hid hff
        have HW2 := Lib.hid hw2
        have HO2 := Lib.hid ho2
        have Hlen1 := Lib.hid hR2.1
        have Hsm1 := Lib.hid hsm1
        have Hsmy := Lib.hid hsmy
        have Hc2 := Lib.hid hcm
        have Hc0 := Lib.hid hc0
        clear hmix hff hw2 ho2 hR1 hR2 hsm1 hsmy hT2 hb1 hyl hf hcm hc0 i5
        go_upto_region 6 with fail
        rw [← HW2.out]
        go_region_with (go_at_call 22; refine (HM.out).mono ?_; rintro e w3 ⟨rfl, hG3, ho3⟩)
        have HB2 := Lib.hid (Hbn.out _ (HO2.out.trans ho3 (fun _ _ c => c)))
        have HO3 := Lib.hid (HOW.out _ (HO2.out.trans ho3 (fun _ _ c => c)))
        have HA2 := Lib.hid (show HashAt w3 p (bs ++ cs.take (k + c)) by
          rw [Hbb.out]
          refine ⟨Sm.app Hsm.out Hsmy.out, blk1, Hsm1.out, ⟨Hlen1.out, ?_⟩, ?_⟩
          · rw [HFF.out.1, List.length_append, ← HLd.out, Hyl.out, ← HL2.out]
            exact hG3
          · rw [HFF.out.2.1, HFF.out.2.2]; rfl)
        clear hG3 ho3 HM HW2
        go_wp2_with fail
        go_roundw
        case rel => exact ⟨k + c, a2, cap2, by have := Hm.out; have := Hc2.out; omega, by rw [Hmk.out], by rw [Hmk.out, Hcap2.out]; have := Hm.out; omega, HB2.out, HA2.out, HO3.out⟩
        case measure => have := Hm.out; have := Hc2.out; have := Hc0.out; simp <;> omega
      · have e4 : ((L2 : Int) % 64 == 0) = false := by have := HL2.out; have := Hr.out; have := Hcr.out; simp; omega
        have hff := fill_part (bs := bs ++ cs.take k) (blk := blk) (ys := ys) (r := r) (q := q) (by rw [Hr.out, HLd.out]) (by rw [Hq.out, HLd.out]) Hbl.out (by rw [Hr.out, Hq.out, HLd.out]; exact Htl.out) (by rw [hyl]; have := Hcr.out; omega)
        rw [hyl, ← hb1] at hff
        have HA2 := Lib.hid (show HashAt (w1.setCell ⟨p, 72, none⟩ (.int .i64 (L2 : Int))) p (bs ++ cs.take (k + c)) by
          rw [Hbb.out]
          refine ⟨Sm.app Hsm.out hsmy, blk1, hsm1, ?_, hff.2⟩
          rw [hff.1, List.length_append, ← HLd.out, hyl, ← HL2.out]
          exact hR2)
        have HB2 := Lib.hid (Hbn.out _ ho2)
        have HO2 := Lib.hid (HOW.out _ ho2)
        clear hff ho2 hR1 hR2 hsm1 hsmy hb1 hyl hf i5
        go_wp2_with fail
        go_roundw
        case rel => exact ⟨k + c, a2, cap2, by have := Hm.out; omega, by rw [Hmk.out], by rw [Hmk.out, Hcap2.out]; have := Hm.out; omega, HB2.out, HA2.out, HO2.out⟩
        case measure => have := Hm.out; simp <;> omega
    · obtain rfl : k = n := by omega
      have e0 : k - k = 0 := Nat.sub_self k
      rw [e0]
      have hA := Lib.hid (show HashAt wr p (bs ++ cs) by
        have h := hA
        rw [List.take_of_length_le (by rw [← HN.out]; exact Nat.le_refl _)] at h
        exact h)
      have HO := Lib.hid hO
      clear hO hB hcap e0
      go_wp2_with fail
      go_end0
      exact ⟨rfl, hA.out, HO.out⟩
end Go.Proofs.YthjfhgnmaepafaaDoor
