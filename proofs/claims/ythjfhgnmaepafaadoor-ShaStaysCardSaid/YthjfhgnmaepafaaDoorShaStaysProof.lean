/-
  For all bytes in two parts, the examples of the chapter hold, Sum of a hash returns the sum of the reference of what was written and does not change the hash, and later changes of the written bytes do not either: the statement of P12.2. No condition but the row's own (the tables of the constants and of the first state lie in memory as the program's text lays them).
-/
import Derived.Test.YthjfhgnmaepafaaDoorRows
import Derived.Test.YthjfhgnmaepafaaDoorTie
import Derived.Test.YthjfhgnmaepafaaDoorCards
import Derived.LaidMore
import Derived.LaidHandle
import Derived.SevenTiedAt
import Derived.Stop.Joined
import Derived.JoinedOf
import Derived.Test.YthjfhgnmaepafaaDoorBytOpen
import Derived.Test.YthjfhgnmaepafaaDoorBytMax
import Derived.Test.YthjfhgnmaepafaaDoorShaTabs
import Derived.Test.YthjfhgnmaepafaaDoorShaAlive
import Derived.WalkKit
import Derived.ProofKit
import Derived.OpenShut
import Derived.ShutString
import Derived.ChangeOld
import Derived.Below
namespace Go.Proofs.YthjfhgnmaepafaaDoor.shaStays
open Go.ChangeShapes Go.WideShapes Go.ChangeAt Go.RowKit
set_option linter.unusedVariables false

theorem own : ownKnob Tryd.prog.godebug = none := by kernel_rfl
theorem laidOut : laidOutB Tryd.prog = true := by kernel_rfl

set_option linter.unusedSimpArgs false
theorem upd_lit {l : Nat → Bool} {i k : Nat} (h : (k == i) = false) : upd l i k = l k := upd_ne _ (fun e => by subst e; simp at h)
set_option maxRecDepth 100000 in
set_option maxHeartbeats 4000000 in
theorem walk (a0 : Option Addr) (n0 cap0 : Nat) (bs0 : List Nat) (a1 : Option Addr) (n1 cap1 : Nat) (bs1 : List Nat) (w : World) (hm0 : n0 ≤ reachBytes) (hn0 : n0 = bs0.length) (hc0 : n0 ≤ cap0) (hs0 : Small bs0) (w0 : BsAt w a0 bs0 (fun k => k < w.heap.size)) (hm1 : n1 ≤ reachBytes) (hn1 : n1 = bs1.length) (hc1 : n1 ≤ cap1) (hs1 : Small bs1) (w1 : BsAt w a1 bs1 (fun k => k < w.heap.size)) (hT : TabAt w) :
    Calls Tryd.prog 5 #[.slice a0 n0 cap0, .slice a1 n1 cap1] w fun e w' => e = .returned (.bool true) ∧ Off (fun _ => False) w w' := by
  have FAL := Lib.hid (fun W (h : Off (fun _ => False) w W) => alive_any W (hT.off h))
  have j0 : reachBytes < 140737488355328 := by decide
  have s1 : IntKind.i64.wrap ((n0 : Int) + (n1 : Int)) = ((n0 + n1 : Nat) : Int) := by rw [IntKind.wrap_i64]; omega
  obtain ⟨m, hm⟩ : ∃ m, m = n0 + n1 := ⟨_, rfl⟩
  rw [← hm] at s1
  clear j0 hm0 hm1
  by_cases hbig : 2000 < m
  · have i1 : (2000 : Int) < (m : Int) := by omega
    have i2 : decide ((2000 : Int) < (m : Int)) = true := by simp; omega
    clear hn0 hc0 hs0 w0 hn1 hc1 hs1 w1 hT hm hbig
    go_enter Tryd.func5, Tryd.ntmps5
    go_wp2_with fail
    refine (FAL.out _ (Off.refl _ w)).mono ?_
    rintro e u0 ⟨rfl, hO⟩
    have HO := Lib.hid hO
    clear hO FAL
    go_wp2_with fail
    go_ret
    exact ⟨rfl, HO.out⟩
  · have i1 : ¬ ((2000 : Int) < (m : Int)) := by omega
    have i2 : decide ((2000 : Int) < (m : Int)) = false := by simp; omega
    have FNW := Lib.hid (new_any w hT)
    have FR0 := Lib.hid (fun W (h : Off (fun _ => False) w W) => refsum_any a0 n0 cap0 bs0 (fun _ => True) W ((w0.off h (fun _ _ _ c => c)).mono (fun _ _ _ => trivial)) hn0 hs0 (by omega))
    have FR2 : Hid (∀ (W : World) (bb : Nat) (v : Value), RowB bb W v ([] ++ bs0 ++ bs1) → Calls Tryd.prog 12 #[v] W fun e w' => e = .returned (.agg ((shaN (bs0 ++ bs1)).map u8v).toArray) ∧ Off (fun _ => False) W w') := Lib.hid (fun W bb v hr => by
      rw [List.nil_append] at hr
      obtain ⟨a9, c9, h9, _, hb9⟩ := hr.at
      subst h9
      exact refsum_any a9 _ c9 (bs0 ++ bs1) _ W hb9 rfl (Sm.app (show Sm bs0 from hs0) hs1) (by rw [List.length_append]; omega))
    obtain ⟨A, hA⟩ : ∃ A, A = ((shaN bs0).map u8v).toArray := ⟨_, rfl⟩
    obtain ⟨B, hB⟩ : ∃ B, B = ((shaN (bs0 ++ bs1)).map u8v).toArray := ⟨_, rfl⟩
    rw [← hB] at FR2
    rw [← hA] at FR0
    have e1 : ∀ W, (Op.equalIn 10000 25 (.agg A) (.agg A)).run Tryd.prog W = .ok true W := fun W => by
      rw [hA, equalIn_32 _ _ (shaN_length _) (shaN_length _)]; simp
    have e2 : ∀ W, (Op.equalIn 10000 25 (.agg B) (.agg B)).run Tryd.prog W = .ok true W := fun W => by
      rw [hB, equalIn_32 _ _ (shaN_length _) (shaN_length _)]; simp
    have hi32 : (Tryd.prog.info? 25).map (·.size) = some 32 := by kernel_rfl
    have hAz : A.size = 32 := by rw [hA]; rfl
    have HAI := Lib.hid (show (Tryd.prog.info? 25).map (·.size) = some A.size by rw [hAz]; exact hi32)
    have HAO := Lib.hid (show A.all (·.oneCell') = true by rw [hA]; simp [Value.oneCell'])
    have HZA := Lib.hid (show Array.size (#[.int .u8 0, .int .u8 0, .int .u8 0, .int .u8 0, .int .u8 0, .int .u8 0, .int .u8 0, .int .u8 0, .int .u8 0, .int .u8 0, .int .u8 0, .int .u8 0, .int .u8 0, .int .u8 0, .int .u8 0, .int .u8 0, .int .u8 0, .int .u8 0, .int .u8 0, .int .u8 0, .int .u8 0, .int .u8 0, .int .u8 0, .int .u8 0, .int .u8 0, .int .u8 0, .int .u8 0, .int .u8 0, .int .u8 0, .int .u8 0, .int .u8 0, .int .u8 0] : Array Value) = A.size by rw [hAz]; rfl)
    have HA := Lib.hid hA
    have HB := Lib.hid hB
    have HT := Lib.hid hT
    have HN0 := Lib.hid hn0
    have HN1 := Lib.hid hn1
    have HC0 := Lib.hid hc0
    have HC1 := Lib.hid hc1
    have HS0 := Lib.hid hs0
    have HS1 := Lib.hid hs1
    have HW0 := Lib.hid w0
    have HW1 := Lib.hid w1
    have HBG := Lib.hid (show n0 + n1 ≤ 2000 by omega)
    clear hA hB hi32 hAz hT hn0 hn1 hc0 hc1 hs0 hs1 w0 w1 hbig hm
    go_enter Tryd.func5, Tryd.ntmps5
    go_wp2_with fail
    refine (FNW.out).mono ?_
    rintro e u0 ⟨p, rfl, hh, ho, hp⟩
    have HH0 := Lib.hid hh
    have HO0 := Lib.hid ho
    have HT0 := Lib.hid (HT.out.off ho)
    have HNT := Lib.hid (NoTab.new HT.out (Nat.le_of_eq hp.symm))
    have HPW := Lib.hid hp
    clear hh ho hp FNW
    have HPL := Lib.hid HH0.out.lt
    have FC := Lib.hid (clone_by a0 n0 cap0 bs0 _ u0 (HW0.out.off HO0.out (fun _ _ _ c => c)) HN0.out (by have := HBG.out; omega))
    go_wp2_with fail
    refine (FC.out).mono ?_
    rintro e u1 ⟨v, rfl, hrow, ho⟩
    obtain ⟨a', cap', hv, hcap', hb'⟩ := hrow.at
    have HROW := Lib.hid hrow
    have HO1 := Lib.hid (HO0.out.trans ho (fun _ _ c => c))
    have HT1 := Lib.hid (HT0.out.off ho)
    have HH1 := Lib.hid (HH0.out.off ho (fun c => c))
    have HB' := Lib.hid hb'
    rw [← HN0.out] at hv hcap'
    have HCP := Lib.hid hcap'
    subst hv
    clear hrow ho hb' hcap' FC
    go_wp2_with fail
    refine (write_any p ([]) (bs0) a' (n0) (cap') (fun k => u0.heap.size ≤ k ∧ k < u1.heap.size) u1 HH1.out (HB'.out) (by have := HPL.out; omega) (HN0.out) (HCP.out) (HS0.out) (by have := HBG.out; simp; omega) HT1.out HNT.out).mono ?_
    rintro e u2 ⟨rfl, hh, ho⟩
    have HH2 := Lib.hid hh
    have HS2 := Lib.hid ho
    have HT2 := Lib.hid (HT1.out.offp HNT.out ho)
    have HO2 := Lib.hid (show Off (fun _ => False) w u2 from HO1.out.trans ho (fun k hk e => by have := HPW.out; omega))
    rw [List.nil_append] at hh
    have HHf := Lib.hid hh
    clear hh ho
    have HR2 := Lib.hid (show RowB u0.heap.size u2 (.slice a' n0 cap') bs0 from RowT.off HROW.out HS2.out (fun k hk e => by
      have := (World.ownsRow.lt HROW.out k hk).1
      have := HPL.out
      omega))
    go_wp2_with fail
    go_loopw [27] (fun i wr => ∃ t : Nat, t ≤ n0 ∧ i = .int .i64 (t : Int) ∧ (∃ cs, cs.length = n0 ∧ RowB u0.heap.size wr (.slice a' n0 cap') cs) ∧ HashAt wr p bs0 ∧ Off (fun _ => False) w wr) (fun i _ => n0 - (intOf i).toNat)
    case atStart => exact ⟨0, Nat.zero_le _, rfl, ⟨bs0, HN0.out.symm, HR2.out⟩, HHf.out, HO2.out⟩
    case round =>
      obtain ⟨t, ht, rfl, ⟨cs, hcl, hr⟩, hh, hO⟩ := hrel
      by_cases hlt : t < n0
      · have k1 : decide ((t : Int) < (n0 : Int)) = true := by simp; omega
        have k2 : (t : Int) < (n0 : Int) := by omega
        have k3 : IntKind.i64.wrap ((t : Int) + 1) = ((t + 1 : Nat) : Int) := by rw [IntKind.wrap_i64]; have := HBG.out; omega
        obtain ⟨g, cap2, hv, _, hB0, hg, hxs⟩ := hr.form (by omega)
        rw [hcl] at hv
        cases hv
        obtain ⟨x, hx⟩ : ∃ x, cs[t]? = some x := ⟨_, List.getElem?_eq_getElem (by omega)⟩
        have hc := hxs t x hx
        have hr' := hr
        unfold RowB RowT at hr'
        rw [hcl] at hr'
        have fz := World.ownsRow.frozenAt hr' t
        have hst := (World.ownsRow.stored hr' t (u8v ((x + 1) % 256))).1
        have k4 : IntKind.u8.wrap ((x : Int) + 1) = (((x + 1) % 256 : Nat) : Int) := by rw [IntKind.wrap_u8]; omega
        have HST := Lib.hid (show ∃ cs', cs'.length = n0 ∧ RowB u0.heap.size (wr.setCell ⟨g, t, none⟩ (u8v ((x + 1) % 256))) (.slice (some ⟨g, 0, none⟩) n0 cap') cs' from ⟨cs.set t ((x + 1) % 256), by rw [List.length_set, hcl], by
          unfold RowB RowT
          rw [List.map_set, List.length_set, hcl]
          exact hst⟩)
        obtain ⟨z, hz⟩ : ∃ z, z = (x + 1) % 256 := ⟨_, rfl⟩
        rw [← hz] at k4 HST
        have HHn := Lib.hid (hh.off ((Off.refl (fun j => j = g) wr).setCell (p := ⟨g, t, none⟩) (fun _ => rfl) (u8v z)) (fun e => by have := HPL.out; omega))
        have HOn := Lib.hid (hO.setCell (p := ⟨g, t, none⟩) (fun h => by have := HO0.out.size; simp at h; omega) (u8v z))
        clear hst hz hr hr' hh hO hxs hx hB0 hcl
        go_wp2_with fail
        go_roundw
        case rel => exact ⟨t + 1, by omega, rfl, HST.out, HHn.out, HOn.out⟩
        case measure => simp [intOf] <;> omega
      · obtain rfl : n0 = t := by omega
        have k1 : decide ((n0 : Int) < (n0 : Int)) = false := by simp
        have HH3 := Lib.hid hh
        have HO3 := Lib.hid hO
        have HT3 := Lib.hid (HT.out.off hO)
        clear hr hh hO hcl
        obtain ⟨u3, rfl⟩ : ∃ u3, u3 = wr := ⟨_, rfl⟩
        go_wp2_with fail
        refine (hsum_any p bs0 u3 HH3.out (by have := HBG.out; have := HN0.out; omega) HT3.out).mono ?_
        rw [← HA.out]
        rintro e u4 ⟨rfl, ho⟩
        have HO4 := Lib.hid (HO3.out.trans ho (fun _ _ c => c))
        have HH4 := Lib.hid (HH3.out.off ho (fun c => c))
        have HT4 := Lib.hid (HT3.out.off ho)
        clear ho
        go_wp2_with fail
        refine (hsum_any p bs0 u4 HH4.out (by have := HBG.out; have := HN0.out; omega) HT4.out).mono ?_
        rw [← HA.out]
        rintro e u5 ⟨rfl, ho⟩
        have HO5 := Lib.hid (HO4.out.trans ho (fun _ _ c => c))
        have HH5 := Lib.hid (HH4.out.off ho (fun c => c))
        have HT5 := Lib.hid (HT4.out.off ho)
        clear ho
        go_upto_region 14 with first | (refine wpList_store_row rfl _ _ _ rfl _ A rfl rfl _ _ (heap_old' (heap_new' rfl _) _) HAI.out HZA.out HAO.out ?_) | (refine wpList_store_row rfl _ _ _ rfl _ A rfl rfl _ _ ((setRow_other _ _ _ _ (by omega)).trans (heap_new' (World.size_alloc _ _) _)) HAI.out HZA.out HAO.out ?_) | fail
        have h6 := @two_rows u5 #[.int .u8 0, .int .u8 0, .int .u8 0, .int .u8 0, .int .u8 0, .int .u8 0, .int .u8 0, .int .u8 0, .int .u8 0, .int .u8 0, .int .u8 0, .int .u8 0, .int .u8 0, .int .u8 0, .int .u8 0, .int .u8 0, .int .u8 0, .int .u8 0, .int .u8 0, .int .u8 0, .int .u8 0, .int .u8 0, .int .u8 0, .int .u8 0, .int .u8 0, .int .u8 0, .int .u8 0, .int .u8 0, .int .u8 0, .int .u8 0, .int .u8 0, .int .u8 0] A A 25
        obtain ⟨u6, hu6⟩ : ∃ u6, u6 = (((u5.alloc (.cells #[.int .u8 0, .int .u8 0, .int .u8 0, .int .u8 0, .int .u8 0, .int .u8 0, .int .u8 0, .int .u8 0, .int .u8 0, .int .u8 0, .int .u8 0, .int .u8 0, .int .u8 0, .int .u8 0, .int .u8 0, .int .u8 0, .int .u8 0, .int .u8 0, .int .u8 0, .int .u8 0, .int .u8 0, .int .u8 0, .int .u8 0, .int .u8 0, .int .u8 0, .int .u8 0, .int .u8 0, .int .u8 0, .int .u8 0, .int .u8 0, .int .u8 0, .int .u8 0] 25)).alloc (.cells #[.int .u8 0, .int .u8 0, .int .u8 0, .int .u8 0, .int .u8 0, .int .u8 0, .int .u8 0, .int .u8 0, .int .u8 0, .int .u8 0, .int .u8 0, .int .u8 0, .int .u8 0, .int .u8 0, .int .u8 0, .int .u8 0, .int .u8 0, .int .u8 0, .int .u8 0, .int .u8 0, .int .u8 0, .int .u8 0, .int .u8 0, .int .u8 0, .int .u8 0, .int .u8 0, .int .u8 0, .int .u8 0, .int .u8 0, .int .u8 0, .int .u8 0, .int .u8 0] 25)).setRow u5.heap.size A).setRow (u5.heap.size + 1) A := ⟨_, rfl⟩
        rw [← hu6] at h6 ⊢
        obtain ⟨ga, hga⟩ : ∃ g, g = u5.heap.size := ⟨_, rfl⟩
        rw [← hga] at h6 ⊢
        have HH6 := Lib.hid (HH5.out.off h6.2.2 (fun c => c))
        have HT6 := Lib.hid (HT5.out.off h6.2.2)
        have HO6 := Lib.hid (HO5.out.trans h6.2.2 (fun _ _ c => c))
        have HA6 := Lib.hid h6.1
        have HB6 := Lib.hid h6.2.1
        have HGA := Lib.hid (show ga ≠ p ∧ ga + 1 ≠ p by have := HH5.out.lt; omega)
        clear h6 hu6 hga
        go_wp2_with fail
        refine (write_any p (bs0) (bs1) a1 (n1) (cap1) (fun k => k < w.heap.size) u6 HH6.out (HW1.out.off HO6.out (fun _ _ _ c => c)) (by have := HPW.out; omega) (HN1.out) (HC1.out) (HS1.out) (by have := HBG.out; have := HN0.out; omega) HT6.out HNT.out).mono ?_
        rintro e u7 ⟨rfl, hh, ho⟩
        have HH7 := Lib.hid hh
        have HS7 := Lib.hid ho
        have HT7 := Lib.hid (HT6.out.offp HNT.out ho)
        have HO7 := Lib.hid (show Off (fun _ => False) w u7 from HO6.out.trans ho (fun k hk e => by have := HPW.out; omega))
        clear hh ho
        obtain ⟨wq, rfl⟩ : ∃ wq, wq = u7 := ⟨_, rfl⟩
        have HA4 := Lib.hid (HS7.out.heap HA6.out HGA.out.1)
        have HB4 := Lib.hid (HS7.out.heap HB6.out HGA.out.2)
        have FAL1 := Lib.hid (fun W (h : Off (fun _ => False) wq W) => FAL.out W (HO7.out.trans h (fun _ _ c => c)))
        have FRA := Lib.hid (fun W (h : Off (fun _ => False) wq W) => FR0.out W (HO7.out.trans h (fun _ _ c => c)))
        have FS2 := Lib.hid (fun W (h : Off (fun _ => False) wq W) => hsum_any p (bs0 ++ bs1) W (HH7.out.off h (fun c => c)) (by have := HBG.out; have := HN0.out; have := HN1.out; simp; omega) (HT7.out.off h))
        rw [← HB.out] at FS2
        have HBA := Lib.hid (fun W (h : Off (fun _ => False) wq W) => HW0.out.off (HO7.out.trans h (fun _ _ c => c)) (fun _ _ _ c => c))
        have HBB := Lib.hid (fun W (h : Off (fun _ => False) wq W) => HW1.out.off (HO7.out.trans h (fun _ _ c => c)) (fun _ _ _ c => c))
        clear FAL FR0 HH7 HT7 HS7 HA6 HB6 HH6 HT6 HO6 HH5 HT5 HO5
        go_upto_region 15 with fail
        obtain ⟨x44, hx⟩ : ∃ vv : Value, vv = .bool true := ⟨_, rfl⟩
        have X44 := Lib.hid hx
        clear hx
        obtain ⟨x45, hx⟩ : ∃ vv : Value, vv = .bool true := ⟨_, rfl⟩
        have X45 := Lib.hid hx
        clear hx
        obtain ⟨x46, hx⟩ : ∃ vv : Value, vv = .agg A := ⟨_, rfl⟩
        have X46 := Lib.hid hx
        clear hx
        obtain ⟨x47, hx⟩ : ∃ vv : Value, vv = .slice a0 n0 cap0 := ⟨_, rfl⟩
        have X47 := Lib.hid hx
        clear hx
        obtain ⟨x48, hx⟩ : ∃ vv : Value, vv = .agg A := ⟨_, rfl⟩
        have X48 := Lib.hid hx
        clear hx
        obtain ⟨x49, hx⟩ : ∃ vv : Value, vv = .bool true := ⟨_, rfl⟩
        have X49 := Lib.hid hx
        clear hx
        obtain ⟨x50, hx⟩ : ∃ vv : Value, vv = .bool true := ⟨_, rfl⟩
        have X50 := Lib.hid hx
        clear hx
        obtain ⟨x51, hx⟩ : ∃ vv : Value, vv = .bool true := ⟨_, rfl⟩
        have X51 := Lib.hid hx
        clear hx
        obtain ⟨x52, hx⟩ : ∃ vv : Value, vv = .agg A := ⟨_, rfl⟩
        have X52 := Lib.hid hx
        clear hx
        obtain ⟨x53, hx⟩ : ∃ vv : Value, vv = .agg A := ⟨_, rfl⟩
        have X53 := Lib.hid hx
        clear hx
        obtain ⟨x54, hx⟩ : ∃ vv : Value, vv = .bool true := ⟨_, rfl⟩
        have X54 := Lib.hid hx
        clear hx
        obtain ⟨x55, hx⟩ : ∃ vv : Value, vv = .bool true := ⟨_, rfl⟩
        have X55 := Lib.hid hx
        clear hx
        obtain ⟨x56, hx⟩ : ∃ vv : Value, vv = .bool true := ⟨_, rfl⟩
        have X56 := Lib.hid hx
        clear hx
        obtain ⟨x57, hx⟩ : ∃ vv : Value, vv = .pointer (some ⟨p, 0, none⟩) := ⟨_, rfl⟩
        have X57 := Lib.hid hx
        clear hx
        obtain ⟨x58, hx⟩ : ∃ vv : Value, vv = .agg B := ⟨_, rfl⟩
        have X58 := Lib.hid hx
        clear hx
        obtain ⟨x60, hx⟩ : ∃ vv : Value, vv = .slice a0 n0 cap0 := ⟨_, rfl⟩
        have X60 := Lib.hid hx
        clear hx
        obtain ⟨x62, hx⟩ : ∃ vv : Value, vv = .slice a1 n1 cap1 := ⟨_, rfl⟩
        have X62 := Lib.hid hx
        clear hx
        obtain ⟨x64, hx⟩ : ∃ vv : Value, vv = .agg B := ⟨_, rfl⟩
        have X64 := Lib.hid hx
        clear hx
        obtain ⟨x65, hx⟩ : ∃ vv : Value, vv = .bool true := ⟨_, rfl⟩
        have X65 := Lib.hid hx
        clear hx
        obtain ⟨x66, hx⟩ : ∃ vv : Value, vv = .bool true := ⟨_, rfl⟩
        have X66 := Lib.hid hx
        clear hx
        obtain ⟨x4, hx⟩ : ∃ vv : Value, vv = .bool true := ⟨_, rfl⟩
        have X4 := Lib.hid hx
        clear hx
        refine wp_region_clo (fun a0 l a' w' => ∃ (u'59 : Value) (u'61 : Value) (u'63 : Value), a' = (Act.put (fill a0 44 [sel (l 0) x44 undef, sel (l 1) x45 undef, sel (l 2) x46 undef, sel (l 3) x47 undef, sel (l 4) x48 undef, sel (l 5) x49 undef, sel (l 6) x50 undef, sel (l 7) x51 undef, sel (l 8) x52 undef, sel (l 9) x53 undef, sel (l 10) x54 undef, sel (l 11) x55 undef, sel (l 12) x56 undef, sel (l 13) x57 undef, sel (l 14) x58 undef, sel (l 15) u'59 undef, sel (l 16) x60 undef, sel (l 17) u'61 undef, sel (l 18) x62 undef, sel (l 19) u'63 undef, sel (l 20) x64 undef, sel (l 21) x65 undef, sel (l 22) x66 undef]) (some 4) (sel (l 23) x4 (.bool false))) ∧ Off (fun _ => False) wq w' ∧ (l 15 = true → l 17 = false → RowB wq.heap.size w' u'59 ([])) ∧ (l 17 = true → l 19 = false → RowB wq.heap.size w' u'61 ([] ++ bs0)) ∧ (l 19 = true → RowB wq.heap.size w' u'63 ([] ++ bs0 ++ bs1))) (by kernel_rfl) (by kernel_rfl) ?_ ⟨?_, ?_, ?_, ?_, ?_, ?_, ?_, ?_, ?_, ?_, ?_, ?_, ?_, ?_, ?_, ?_, ?_, ?_, ?_, ?_, ?_, ?_, ?_, ?_, trivial⟩ ?_
        · refine ⟨undef, undef, undef, ?_, (Off.refl _ wq).drew, (fun h => by cases h), (fun h => by cases h), (fun h => by cases h)⟩
          simp only [fill_eq, List.take_succ_cons, List.take_zero, List.cons_append, List.nil_append, Act.put, List.setIfInBounds_toArray, List.set_cons_zero, List.set_cons_succ, sel_start]
          try rfl
        · as_aux_lemma =>
            rintro l a wr ⟨u'59, u'61, u'63, ha, hO, R15, R17, R19⟩ hc hl hd K' hK
            have hx := X44.out; subst hx
            simp only [fill_eq, List.take_succ_cons, List.take_zero, List.cons_append, List.nil_append, Act.put, List.setIfInBounds_toArray, List.set_cons_zero, List.set_cons_succ] at ha
            subst ha
            have g15 := Lib.hid (hc.not (i := 15) hl 24 (by kernel_rfl))
            have g17 := Lib.hid (hc.not (i := 17) hl 24 (by kernel_rfl))
            have g19 := Lib.hid (hc.not (i := 19) hl 24 (by kernel_rfl))
            rw [if_pos (by rfl)]
            go_simp
            refine (FAL1.out wr hO).mono ?_
            rintro e w1 ⟨rfl, hOW⟩
            go_wp2_with fail
            refine Shut.out hK _ _ ⟨u'59, u'61, u'63, ?_, (hO.trans hOW (fun _ _ c => c)), (fun h1 h2 => RowT.off (R15 h1 h2) hOW (fun _ _ c => c)), (fun h1 h2 => RowT.off (R17 h1 h2) hOW (fun _ _ c => c)), (fun h1 => RowT.off (R19 h1) hOW (fun _ _ c => c))⟩
            simp only [fill_eq, List.take_succ_cons, List.take_zero, List.cons_append, List.nil_append, Act.put, List.setIfInBounds_toArray, List.set_cons_zero, List.set_cons_succ, Nat.reduceAdd, Nat.reduceBEq, upd_lit, sel_new]
            try with_reducible rfl
        · as_aux_lemma =>
            rintro l a wr ⟨u'59, u'61, u'63, ha, hO, R15, R17, R19⟩ hc hl hd K' hK
            have d0 := hd 0 (by decide)
            have hx := X44.out; subst hx
            have hx := X45.out; subst hx
            simp only [fill_eq, List.take_succ_cons, List.take_zero, List.cons_append, List.nil_append, Act.put, List.setIfInBounds_toArray, List.set_cons_zero, List.set_cons_succ, sel_of d0] at ha
            subst ha
            have g15 := Lib.hid (hc.not (i := 15) hl 24 (by kernel_rfl))
            have g17 := Lib.hid (hc.not (i := 17) hl 24 (by kernel_rfl))
            have g19 := Lib.hid (hc.not (i := 19) hl 24 (by kernel_rfl))
            rw [if_pos (by rfl)]
            go_simp
            refine Shut.out hK _ _ ⟨u'59, u'61, u'63, ?_, hO, (fun h1 h2 => RowT.off (R15 h1 h2) (Off.refl (fun _ => False) wr) (fun _ _ c => c)), (fun h1 h2 => RowT.off (R17 h1 h2) (Off.refl (fun _ => False) wr) (fun _ _ c => c)), (fun h1 => RowT.off (R19 h1) (Off.refl (fun _ => False) wr) (fun _ _ c => c))⟩
            simp only [fill_eq, List.take_succ_cons, List.take_zero, List.cons_append, List.nil_append, Act.put, List.setIfInBounds_toArray, List.set_cons_zero, List.set_cons_succ, Nat.reduceAdd, Nat.reduceBEq, upd_lit, sel_new, sel_dep d0, sel_of d0]
            try with_reducible rfl
        · as_aux_lemma =>
            rintro l a wr ⟨u'59, u'61, u'63, ha, hO, R15, R17, R19⟩ hc hl hd K' hK
            have d1 := hd 1 (by decide)
            have hx := X45.out; subst hx
            have hx := X46.out; subst hx
            simp only [fill_eq, List.take_succ_cons, List.take_zero, List.cons_append, List.nil_append, Act.put, List.setIfInBounds_toArray, List.set_cons_zero, List.set_cons_succ, sel_of d1] at ha
            subst ha
            have g15 := Lib.hid (hc.not (i := 15) hl 24 (by kernel_rfl))
            have g17 := Lib.hid (hc.not (i := 17) hl 24 (by kernel_rfl))
            have g19 := Lib.hid (hc.not (i := 19) hl 24 (by kernel_rfl))
            rw [if_pos (by rfl)]
            refine wp_load_row _ _ rfl _ rfl _ A (0, 0) _ (hO.heap HA4.out (fun c => c)) Tryd.underlying25 rfl HAI.out ?_
            refine Shut.out hK _ _ ⟨u'59, u'61, u'63, ?_, hO, (fun h1 h2 => RowT.off (R15 h1 h2) (Off.refl (fun _ => False) wr) (fun _ _ c => c)), (fun h1 h2 => RowT.off (R17 h1 h2) (Off.refl (fun _ => False) wr) (fun _ _ c => c)), (fun h1 => RowT.off (R19 h1) (Off.refl (fun _ => False) wr) (fun _ _ c => c))⟩
            simp only [fill_eq, List.take_succ_cons, List.take_zero, List.cons_append, List.nil_append, Act.put, List.setIfInBounds_toArray, List.set_cons_zero, List.set_cons_succ, Nat.reduceAdd, Nat.reduceBEq, upd_lit, sel_new, sel_dep d1, sel_of d1]
            try with_reducible rfl
        · as_aux_lemma =>
            rintro l a wr ⟨u'59, u'61, u'63, ha, hO, R15, R17, R19⟩ hc hl hd K' hK
            have d1 := hd 1 (by decide)
            have hx := X45.out; subst hx
            have hx := X47.out; subst hx
            simp only [fill_eq, List.take_succ_cons, List.take_zero, List.cons_append, List.nil_append, Act.put, List.setIfInBounds_toArray, List.set_cons_zero, List.set_cons_succ, sel_of d1] at ha
            subst ha
            have g15 := Lib.hid (hc.not (i := 15) hl 24 (by kernel_rfl))
            have g17 := Lib.hid (hc.not (i := 17) hl 24 (by kernel_rfl))
            have g19 := Lib.hid (hc.not (i := 19) hl 24 (by kernel_rfl))
            rw [if_pos (by rfl)]
            go_simp
            refine Shut.out hK _ _ ⟨u'59, u'61, u'63, ?_, hO, (fun h1 h2 => RowT.off (R15 h1 h2) (Off.refl (fun _ => False) wr) (fun _ _ c => c)), (fun h1 h2 => RowT.off (R17 h1 h2) (Off.refl (fun _ => False) wr) (fun _ _ c => c)), (fun h1 => RowT.off (R19 h1) (Off.refl (fun _ => False) wr) (fun _ _ c => c))⟩
            simp only [fill_eq, List.take_succ_cons, List.take_zero, List.cons_append, List.nil_append, Act.put, List.setIfInBounds_toArray, List.set_cons_zero, List.set_cons_succ, Nat.reduceAdd, Nat.reduceBEq, upd_lit, sel_new, sel_dep d1, sel_of d1]
            try with_reducible rfl
        · as_aux_lemma =>
            rintro l a wr ⟨u'59, u'61, u'63, ha, hO, R15, R17, R19⟩ hc hl hd K' hK
            have d1 := hd 1 (by decide)
            have d3 := hd 3 (by decide)
            have hx := X45.out; subst hx
            have hx := X47.out; subst hx
            have hx := X48.out; subst hx
            simp only [fill_eq, List.take_succ_cons, List.take_zero, List.cons_append, List.nil_append, Act.put, List.setIfInBounds_toArray, List.set_cons_zero, List.set_cons_succ, sel_of d1, sel_of d3] at ha
            subst ha
            have g15 := Lib.hid (hc.not (i := 15) hl 24 (by kernel_rfl))
            have g17 := Lib.hid (hc.not (i := 17) hl 24 (by kernel_rfl))
            have g19 := Lib.hid (hc.not (i := 19) hl 24 (by kernel_rfl))
            rw [if_pos (by rfl)]
            go_simp
            refine (FRA.out wr hO).mono ?_
            rintro e w1 ⟨rfl, hOW⟩
            go_wp2_with fail
            refine Shut.out hK _ _ ⟨u'59, u'61, u'63, ?_, (hO.trans hOW (fun _ _ c => c)), (fun h1 h2 => RowT.off (R15 h1 h2) hOW (fun _ _ c => c)), (fun h1 h2 => RowT.off (R17 h1 h2) hOW (fun _ _ c => c)), (fun h1 => RowT.off (R19 h1) hOW (fun _ _ c => c))⟩
            simp only [fill_eq, List.take_succ_cons, List.take_zero, List.cons_append, List.nil_append, Act.put, List.setIfInBounds_toArray, List.set_cons_zero, List.set_cons_succ, Nat.reduceAdd, Nat.reduceBEq, upd_lit, sel_new, sel_dep d1, sel_of d1, sel_dep d3, sel_of d3]
            try with_reducible rfl
        · as_aux_lemma =>
            rintro l a wr ⟨u'59, u'61, u'63, ha, hO, R15, R17, R19⟩ hc hl hd K' hK
            have d1 := hd 1 (by decide)
            have d2 := hd 2 (by decide)
            have d4 := hd 4 (by decide)
            have hx := X45.out; subst hx
            have hx := X46.out; subst hx
            have hx := X48.out; subst hx
            have hx := X49.out; subst hx
            simp only [fill_eq, List.take_succ_cons, List.take_zero, List.cons_append, List.nil_append, Act.put, List.setIfInBounds_toArray, List.set_cons_zero, List.set_cons_succ, sel_of d1, sel_of d2, sel_of d4] at ha
            subst ha
            have g15 := Lib.hid (hc.not (i := 15) hl 24 (by kernel_rfl))
            have g17 := Lib.hid (hc.not (i := 17) hl 24 (by kernel_rfl))
            have g19 := Lib.hid (hc.not (i := 19) hl 24 (by kernel_rfl))
            rw [if_pos (by rfl)]
            go_simp
            refine Shut.out hK _ _ ⟨u'59, u'61, u'63, ?_, hO, (fun h1 h2 => RowT.off (R15 h1 h2) (Off.refl (fun _ => False) wr) (fun _ _ c => c)), (fun h1 h2 => RowT.off (R17 h1 h2) (Off.refl (fun _ => False) wr) (fun _ _ c => c)), (fun h1 => RowT.off (R19 h1) (Off.refl (fun _ => False) wr) (fun _ _ c => c))⟩
            simp only [fill_eq, List.take_succ_cons, List.take_zero, List.cons_append, List.nil_append, Act.put, List.setIfInBounds_toArray, List.set_cons_zero, List.set_cons_succ, Nat.reduceAdd, Nat.reduceBEq, upd_lit, sel_new, sel_dep d1, sel_of d1, sel_dep d2, sel_of d2, sel_dep d4, sel_of d4]
            try with_reducible rfl
        · as_aux_lemma =>
            rintro l a wr ⟨u'59, u'61, u'63, ha, hO, R15, R17, R19⟩ hc hl hd K' hK
            have d1 := hd 1 (by decide)
            have d5 := hd 5 (by decide)
            have hx := X45.out; subst hx
            have hx := X49.out; subst hx
            have hx := X50.out; subst hx
            simp only [fill_eq, List.take_succ_cons, List.take_zero, List.cons_append, List.nil_append, Act.put, List.setIfInBounds_toArray, List.set_cons_zero, List.set_cons_succ, sel_of d1, sel_of d5] at ha
            subst ha
            have g15 := Lib.hid (hc.not (i := 15) hl 24 (by kernel_rfl))
            have g17 := Lib.hid (hc.not (i := 17) hl 24 (by kernel_rfl))
            have g19 := Lib.hid (hc.not (i := 19) hl 24 (by kernel_rfl))
            rw [if_pos (by rfl)]
            go_simp
            refine Shut.out hK _ _ ⟨u'59, u'61, u'63, ?_, hO, (fun h1 h2 => RowT.off (R15 h1 h2) (Off.refl (fun _ => False) wr) (fun _ _ c => c)), (fun h1 h2 => RowT.off (R17 h1 h2) (Off.refl (fun _ => False) wr) (fun _ _ c => c)), (fun h1 => RowT.off (R19 h1) (Off.refl (fun _ => False) wr) (fun _ _ c => c))⟩
            simp only [fill_eq, List.take_succ_cons, List.take_zero, List.cons_append, List.nil_append, Act.put, List.setIfInBounds_toArray, List.set_cons_zero, List.set_cons_succ, Nat.reduceAdd, Nat.reduceBEq, upd_lit, sel_new, sel_dep d1, sel_of d1, sel_dep d5, sel_of d5]
            try with_reducible rfl
        · as_aux_lemma =>
            rintro l a wr ⟨u'59, u'61, u'63, ha, hO, R15, R17, R19⟩ hc hl hd K' hK
            have d6 := hd 6 (by decide)
            have hx := X50.out; subst hx
            have hx := X51.out; subst hx
            simp only [fill_eq, List.take_succ_cons, List.take_zero, List.cons_append, List.nil_append, Act.put, List.setIfInBounds_toArray, List.set_cons_zero, List.set_cons_succ, sel_of d6] at ha
            subst ha
            have g15 := Lib.hid (hc.not (i := 15) hl 24 (by kernel_rfl))
            have g17 := Lib.hid (hc.not (i := 17) hl 24 (by kernel_rfl))
            have g19 := Lib.hid (hc.not (i := 19) hl 24 (by kernel_rfl))
            rw [if_pos (by rfl)]
            go_simp
            refine Shut.out hK _ _ ⟨u'59, u'61, u'63, ?_, hO, (fun h1 h2 => RowT.off (R15 h1 h2) (Off.refl (fun _ => False) wr) (fun _ _ c => c)), (fun h1 h2 => RowT.off (R17 h1 h2) (Off.refl (fun _ => False) wr) (fun _ _ c => c)), (fun h1 => RowT.off (R19 h1) (Off.refl (fun _ => False) wr) (fun _ _ c => c))⟩
            simp only [fill_eq, List.take_succ_cons, List.take_zero, List.cons_append, List.nil_append, Act.put, List.setIfInBounds_toArray, List.set_cons_zero, List.set_cons_succ, Nat.reduceAdd, Nat.reduceBEq, upd_lit, sel_new, sel_dep d6, sel_of d6]
            try with_reducible rfl
        · as_aux_lemma =>
            rintro l a wr ⟨u'59, u'61, u'63, ha, hO, R15, R17, R19⟩ hc hl hd K' hK
            have d7 := hd 7 (by decide)
            have hx := X51.out; subst hx
            have hx := X52.out; subst hx
            simp only [fill_eq, List.take_succ_cons, List.take_zero, List.cons_append, List.nil_append, Act.put, List.setIfInBounds_toArray, List.set_cons_zero, List.set_cons_succ, sel_of d7] at ha
            subst ha
            have g15 := Lib.hid (hc.not (i := 15) hl 24 (by kernel_rfl))
            have g17 := Lib.hid (hc.not (i := 17) hl 24 (by kernel_rfl))
            have g19 := Lib.hid (hc.not (i := 19) hl 24 (by kernel_rfl))
            rw [if_pos (by rfl)]
            refine wp_load_row _ _ rfl _ rfl _ A (0, 0) _ (hO.heap HB4.out (fun c => c)) Tryd.underlying25 rfl HAI.out ?_
            refine Shut.out hK _ _ ⟨u'59, u'61, u'63, ?_, hO, (fun h1 h2 => RowT.off (R15 h1 h2) (Off.refl (fun _ => False) wr) (fun _ _ c => c)), (fun h1 h2 => RowT.off (R17 h1 h2) (Off.refl (fun _ => False) wr) (fun _ _ c => c)), (fun h1 => RowT.off (R19 h1) (Off.refl (fun _ => False) wr) (fun _ _ c => c))⟩
            simp only [fill_eq, List.take_succ_cons, List.take_zero, List.cons_append, List.nil_append, Act.put, List.setIfInBounds_toArray, List.set_cons_zero, List.set_cons_succ, Nat.reduceAdd, Nat.reduceBEq, upd_lit, sel_new, sel_dep d7, sel_of d7]
            try with_reducible rfl
        · as_aux_lemma =>
            rintro l a wr ⟨u'59, u'61, u'63, ha, hO, R15, R17, R19⟩ hc hl hd K' hK
            have d7 := hd 7 (by decide)
            have hx := X51.out; subst hx
            have hx := X53.out; subst hx
            simp only [fill_eq, List.take_succ_cons, List.take_zero, List.cons_append, List.nil_append, Act.put, List.setIfInBounds_toArray, List.set_cons_zero, List.set_cons_succ, sel_of d7] at ha
            subst ha
            have g15 := Lib.hid (hc.not (i := 15) hl 24 (by kernel_rfl))
            have g17 := Lib.hid (hc.not (i := 17) hl 24 (by kernel_rfl))
            have g19 := Lib.hid (hc.not (i := 19) hl 24 (by kernel_rfl))
            rw [if_pos (by rfl)]
            refine wp_load_row _ _ rfl _ rfl _ A (0, 0) _ (hO.heap HA4.out (fun c => c)) Tryd.underlying25 rfl HAI.out ?_
            refine Shut.out hK _ _ ⟨u'59, u'61, u'63, ?_, hO, (fun h1 h2 => RowT.off (R15 h1 h2) (Off.refl (fun _ => False) wr) (fun _ _ c => c)), (fun h1 h2 => RowT.off (R17 h1 h2) (Off.refl (fun _ => False) wr) (fun _ _ c => c)), (fun h1 => RowT.off (R19 h1) (Off.refl (fun _ => False) wr) (fun _ _ c => c))⟩
            simp only [fill_eq, List.take_succ_cons, List.take_zero, List.cons_append, List.nil_append, Act.put, List.setIfInBounds_toArray, List.set_cons_zero, List.set_cons_succ, Nat.reduceAdd, Nat.reduceBEq, upd_lit, sel_new, sel_dep d7, sel_of d7]
            try with_reducible rfl
        · as_aux_lemma =>
            rintro l a wr ⟨u'59, u'61, u'63, ha, hO, R15, R17, R19⟩ hc hl hd K' hK
            have d7 := hd 7 (by decide)
            have d8 := hd 8 (by decide)
            have d9 := hd 9 (by decide)
            have hx := X51.out; subst hx
            have hx := X52.out; subst hx
            have hx := X53.out; subst hx
            have hx := X54.out; subst hx
            simp only [fill_eq, List.take_succ_cons, List.take_zero, List.cons_append, List.nil_append, Act.put, List.setIfInBounds_toArray, List.set_cons_zero, List.set_cons_succ, sel_of d7, sel_of d8, sel_of d9] at ha
            subst ha
            have g15 := Lib.hid (hc.not (i := 15) hl 24 (by kernel_rfl))
            have g17 := Lib.hid (hc.not (i := 17) hl 24 (by kernel_rfl))
            have g19 := Lib.hid (hc.not (i := 19) hl 24 (by kernel_rfl))
            rw [if_pos (by rfl)]
            go_simp
            refine Shut.out hK _ _ ⟨u'59, u'61, u'63, ?_, hO, (fun h1 h2 => RowT.off (R15 h1 h2) (Off.refl (fun _ => False) wr) (fun _ _ c => c)), (fun h1 h2 => RowT.off (R17 h1 h2) (Off.refl (fun _ => False) wr) (fun _ _ c => c)), (fun h1 => RowT.off (R19 h1) (Off.refl (fun _ => False) wr) (fun _ _ c => c))⟩
            simp only [fill_eq, List.take_succ_cons, List.take_zero, List.cons_append, List.nil_append, Act.put, List.setIfInBounds_toArray, List.set_cons_zero, List.set_cons_succ, Nat.reduceAdd, Nat.reduceBEq, upd_lit, sel_new, sel_dep d7, sel_of d7, sel_dep d8, sel_of d8, sel_dep d9, sel_of d9]
            try with_reducible rfl
        · as_aux_lemma =>
            rintro l a wr ⟨u'59, u'61, u'63, ha, hO, R15, R17, R19⟩ hc hl hd K' hK
            have d7 := hd 7 (by decide)
            have d10 := hd 10 (by decide)
            have hx := X51.out; subst hx
            have hx := X54.out; subst hx
            have hx := X55.out; subst hx
            simp only [fill_eq, List.take_succ_cons, List.take_zero, List.cons_append, List.nil_append, Act.put, List.setIfInBounds_toArray, List.set_cons_zero, List.set_cons_succ, sel_of d7, sel_of d10] at ha
            subst ha
            have g15 := Lib.hid (hc.not (i := 15) hl 24 (by kernel_rfl))
            have g17 := Lib.hid (hc.not (i := 17) hl 24 (by kernel_rfl))
            have g19 := Lib.hid (hc.not (i := 19) hl 24 (by kernel_rfl))
            rw [if_pos (by rfl)]
            go_simp
            refine Shut.out hK _ _ ⟨u'59, u'61, u'63, ?_, hO, (fun h1 h2 => RowT.off (R15 h1 h2) (Off.refl (fun _ => False) wr) (fun _ _ c => c)), (fun h1 h2 => RowT.off (R17 h1 h2) (Off.refl (fun _ => False) wr) (fun _ _ c => c)), (fun h1 => RowT.off (R19 h1) (Off.refl (fun _ => False) wr) (fun _ _ c => c))⟩
            simp only [fill_eq, List.take_succ_cons, List.take_zero, List.cons_append, List.nil_append, Act.put, List.setIfInBounds_toArray, List.set_cons_zero, List.set_cons_succ, Nat.reduceAdd, Nat.reduceBEq, upd_lit, sel_new, sel_dep d7, sel_of d7, sel_dep d10, sel_of d10]
            try with_reducible rfl
        · as_aux_lemma =>
            rintro l a wr ⟨u'59, u'61, u'63, ha, hO, R15, R17, R19⟩ hc hl hd K' hK
            have d11 := hd 11 (by decide)
            have hx := X55.out; subst hx
            have hx := X56.out; subst hx
            simp only [fill_eq, List.take_succ_cons, List.take_zero, List.cons_append, List.nil_append, Act.put, List.setIfInBounds_toArray, List.set_cons_zero, List.set_cons_succ, sel_of d11] at ha
            subst ha
            have g15 := Lib.hid (hc.not (i := 15) hl 24 (by kernel_rfl))
            have g17 := Lib.hid (hc.not (i := 17) hl 24 (by kernel_rfl))
            have g19 := Lib.hid (hc.not (i := 19) hl 24 (by kernel_rfl))
            rw [if_pos (by rfl)]
            go_simp
            refine Shut.out hK _ _ ⟨u'59, u'61, u'63, ?_, hO, (fun h1 h2 => RowT.off (R15 h1 h2) (Off.refl (fun _ => False) wr) (fun _ _ c => c)), (fun h1 h2 => RowT.off (R17 h1 h2) (Off.refl (fun _ => False) wr) (fun _ _ c => c)), (fun h1 => RowT.off (R19 h1) (Off.refl (fun _ => False) wr) (fun _ _ c => c))⟩
            simp only [fill_eq, List.take_succ_cons, List.take_zero, List.cons_append, List.nil_append, Act.put, List.setIfInBounds_toArray, List.set_cons_zero, List.set_cons_succ, Nat.reduceAdd, Nat.reduceBEq, upd_lit, sel_new, sel_dep d11, sel_of d11]
            try with_reducible rfl
        · as_aux_lemma =>
            rintro l a wr ⟨u'59, u'61, u'63, ha, hO, R15, R17, R19⟩ hc hl hd K' hK
            have d12 := hd 12 (by decide)
            have hx := X56.out; subst hx
            have hx := X57.out; subst hx
            simp only [fill_eq, List.take_succ_cons, List.take_zero, List.cons_append, List.nil_append, Act.put, List.setIfInBounds_toArray, List.set_cons_zero, List.set_cons_succ, sel_of d12] at ha
            subst ha
            rw [if_pos (by rfl)]
            go_simp
            refine Shut.out hK _ _ ⟨u'59, u'61, u'63, ?_, hO, (fun h1 h2 => RowT.off (R15 h1 h2) (Off.refl (fun _ => False) wr) (fun _ _ c => c)), (fun h1 h2 => RowT.off (R17 h1 h2) (Off.refl (fun _ => False) wr) (fun _ _ c => c)), (fun h1 => RowT.off (R19 h1) (Off.refl (fun _ => False) wr) (fun _ _ c => c))⟩
            simp only [fill_eq, List.take_succ_cons, List.take_zero, List.cons_append, List.nil_append, Act.put, List.setIfInBounds_toArray, List.set_cons_zero, List.set_cons_succ, Nat.reduceAdd, Nat.reduceBEq, upd_lit, sel_new, sel_dep d12, sel_of d12]
            try with_reducible rfl
        · as_aux_lemma =>
            rintro l a wr ⟨u'59, u'61, u'63, ha, hO, R15, R17, R19⟩ hc hl hd K' hK
            have d12 := hd 12 (by decide)
            have d13 := hd 13 (by decide)
            have hx := X56.out; subst hx
            have hx := X57.out; subst hx
            have hx := X58.out; subst hx
            simp only [fill_eq, List.take_succ_cons, List.take_zero, List.cons_append, List.nil_append, Act.put, List.setIfInBounds_toArray, List.set_cons_zero, List.set_cons_succ, sel_of d12, sel_of d13] at ha
            subst ha
            rw [if_pos (by rfl)]
            go_simp
            refine (FS2.out wr hO).mono ?_
            rintro e w1 ⟨rfl, hOW⟩
            go_wp2_with fail
            refine Shut.out hK _ _ ⟨u'59, u'61, u'63, ?_, (hO.trans hOW (fun _ _ c => c)), (fun h1 h2 => RowT.off (R15 h1 h2) hOW (fun _ _ c => c)), (fun h1 h2 => RowT.off (R17 h1 h2) hOW (fun _ _ c => c)), (fun h1 => RowT.off (R19 h1) hOW (fun _ _ c => c))⟩
            simp only [fill_eq, List.take_succ_cons, List.take_zero, List.cons_append, List.nil_append, Act.put, List.setIfInBounds_toArray, List.set_cons_zero, List.set_cons_succ, Nat.reduceAdd, Nat.reduceBEq, upd_lit, sel_new, sel_dep d12, sel_of d12, sel_dep d13, sel_of d13]
            try with_reducible rfl
        · as_aux_lemma =>
            rintro l a wr ⟨u'59, u'61, u'63, ha, hO, R15, R17, R19⟩ hc hl hd K' hK
            have d12 := hd 12 (by decide)
            have hx := X56.out; subst hx
            simp only [fill_eq, List.take_succ_cons, List.take_zero, List.cons_append, List.nil_append, Act.put, List.setIfInBounds_toArray, List.set_cons_zero, List.set_cons_succ, sel_of d12] at ha
            subst ha
            have g17 := Lib.hid (hc.not (i := 17) hl 24 (by kernel_rfl))
            have g19 := Lib.hid (hc.not (i := 19) hl 24 (by kernel_rfl))
            rw [if_pos (by rfl)]
            go_simp
            refine Shut.out hK _ _ ⟨.slice (some ⟨wr.heap.size, 0, none⟩) 0 0, u'61, u'63, ?_, hO.alloc _, (fun _ => fun _ => World.ownsRow_lit wr #[] 0 hO.size (by decide) rfl), (fun h1 h2 => RowT.off (R17 h1 h2) ((Off.refl (fun _ => False) wr).alloc _) (fun _ _ c => c)), (fun h1 => RowT.off (R19 h1) ((Off.refl (fun _ => False) wr).alloc _) (fun _ _ c => c))⟩
            simp only [fill_eq, List.take_succ_cons, List.take_zero, List.cons_append, List.nil_append, Act.put, List.setIfInBounds_toArray, List.set_cons_zero, List.set_cons_succ, Nat.reduceAdd, Nat.reduceBEq, upd_lit, sel_new, sel_dep d12, sel_of d12]
            try with_reducible rfl
        · as_aux_lemma =>
            rintro l a wr ⟨u'59, u'61, u'63, ha, hO, R15, R17, R19⟩ hc hl hd K' hK
            have d12 := hd 12 (by decide)
            have hx := X56.out; subst hx
            have hx := X60.out; subst hx
            simp only [fill_eq, List.take_succ_cons, List.take_zero, List.cons_append, List.nil_append, Act.put, List.setIfInBounds_toArray, List.set_cons_zero, List.set_cons_succ, sel_of d12] at ha
            subst ha
            have g17 := Lib.hid (hc.not (i := 17) hl 24 (by kernel_rfl))
            have g19 := Lib.hid (hc.not (i := 19) hl 24 (by kernel_rfl))
            rw [if_pos (by rfl)]
            go_simp
            refine Shut.out hK _ _ ⟨u'59, u'61, u'63, ?_, hO, (fun h1 h2 => RowT.off (R15 h1 h2) (Off.refl (fun _ => False) wr) (fun _ _ c => c)), (fun h1 h2 => RowT.off (R17 h1 h2) (Off.refl (fun _ => False) wr) (fun _ _ c => c)), (fun h1 => RowT.off (R19 h1) (Off.refl (fun _ => False) wr) (fun _ _ c => c))⟩
            simp only [fill_eq, List.take_succ_cons, List.take_zero, List.cons_append, List.nil_append, Act.put, List.setIfInBounds_toArray, List.set_cons_zero, List.set_cons_succ, Nat.reduceAdd, Nat.reduceBEq, upd_lit, sel_new, sel_dep d12, sel_of d12]
            try with_reducible rfl
        · as_aux_lemma =>
            rintro l a wr ⟨u'59, u'61, u'63, ha, hO, R15, R17, R19⟩ hc hl hd K' hK
            have d12 := hd 12 (by decide)
            have d15 := hd 15 (by decide)
            have d16 := hd 16 (by decide)
            have hx := X56.out; subst hx
            have hx := X60.out; subst hx
            simp only [fill_eq, List.take_succ_cons, List.take_zero, List.cons_append, List.nil_append, Act.put, List.setIfInBounds_toArray, List.set_cons_zero, List.set_cons_succ, sel_of d12, sel_of d15, sel_of d16] at ha
            subst ha
            have g19 := Lib.hid (hc.not (i := 19) hl 24 (by kernel_rfl))
            have hr := R15 d15 hl
            obtain ⟨v', w1, hrun, hrow, hO1⟩ := app_any hO hr (cap := cap0) (HBA.out wr hO) (HN0.out) (by have := HBG.out; simp; omega)
            rw [if_pos (by rfl)]
            refine append_oper rfl rfl rfl hrun ?_
            refine Shut.out hK _ _ ⟨u'59, v', u'63, ?_, hO1, (fun _ h => absurd h (by rw [upd_same]; decide)), (fun _ => fun _ => hrow), (fun h => absurd (g19.out.symm.trans h) (by decide))⟩
            simp only [fill_eq, List.take_succ_cons, List.take_zero, List.cons_append, List.nil_append, Act.put, List.setIfInBounds_toArray, List.set_cons_zero, List.set_cons_succ, Nat.reduceAdd, Nat.reduceBEq, upd_lit, sel_new, sel_dep d12, sel_of d12, sel_dep d15, sel_of d15, sel_dep d16, sel_of d16]
            try with_reducible rfl
        · as_aux_lemma =>
            rintro l a wr ⟨u'59, u'61, u'63, ha, hO, R15, R17, R19⟩ hc hl hd K' hK
            have d12 := hd 12 (by decide)
            have hx := X56.out; subst hx
            have hx := X62.out; subst hx
            simp only [fill_eq, List.take_succ_cons, List.take_zero, List.cons_append, List.nil_append, Act.put, List.setIfInBounds_toArray, List.set_cons_zero, List.set_cons_succ, sel_of d12] at ha
            subst ha
            have g19 := Lib.hid (hc.not (i := 19) hl 24 (by kernel_rfl))
            rw [if_pos (by rfl)]
            go_simp
            refine Shut.out hK _ _ ⟨u'59, u'61, u'63, ?_, hO, (fun h1 h2 => RowT.off (R15 h1 h2) (Off.refl (fun _ => False) wr) (fun _ _ c => c)), (fun h1 h2 => RowT.off (R17 h1 h2) (Off.refl (fun _ => False) wr) (fun _ _ c => c)), (fun h1 => RowT.off (R19 h1) (Off.refl (fun _ => False) wr) (fun _ _ c => c))⟩
            simp only [fill_eq, List.take_succ_cons, List.take_zero, List.cons_append, List.nil_append, Act.put, List.setIfInBounds_toArray, List.set_cons_zero, List.set_cons_succ, Nat.reduceAdd, Nat.reduceBEq, upd_lit, sel_new, sel_dep d12, sel_of d12]
            try with_reducible rfl
        · as_aux_lemma =>
            rintro l a wr ⟨u'59, u'61, u'63, ha, hO, R15, R17, R19⟩ hc hl hd K' hK
            have d12 := hd 12 (by decide)
            have d17 := hd 17 (by decide)
            have d18 := hd 18 (by decide)
            have hx := X56.out; subst hx
            have hx := X62.out; subst hx
            simp only [fill_eq, List.take_succ_cons, List.take_zero, List.cons_append, List.nil_append, Act.put, List.setIfInBounds_toArray, List.set_cons_zero, List.set_cons_succ, sel_of d12, sel_of d17, sel_of d18] at ha
            subst ha
            have hr := R17 d17 hl
            obtain ⟨v', w1, hrun, hrow, hO1⟩ := app_any hO hr (cap := cap1) (HBB.out wr hO) (HN1.out) (by have := HBG.out; have := HN0.out; simp; omega)
            rw [if_pos (by rfl)]
            refine append_oper rfl rfl rfl hrun ?_
            refine Shut.out hK _ _ ⟨u'59, u'61, v', ?_, hO1, (fun _ h => absurd (d17.symm.trans h) (by decide)), (fun _ h => absurd h (by rw [upd_same]; decide)), (fun _ => hrow)⟩
            simp only [fill_eq, List.take_succ_cons, List.take_zero, List.cons_append, List.nil_append, Act.put, List.setIfInBounds_toArray, List.set_cons_zero, List.set_cons_succ, Nat.reduceAdd, Nat.reduceBEq, upd_lit, sel_new, sel_dep d12, sel_of d12, sel_dep d17, sel_of d17, sel_dep d18, sel_of d18]
            try with_reducible rfl
        · as_aux_lemma =>
            rintro l a wr ⟨u'59, u'61, u'63, ha, hO, R15, R17, R19⟩ hc hl hd K' hK
            have d12 := hd 12 (by decide)
            have d19 := hd 19 (by decide)
            have hx := X56.out; subst hx
            have hx := X64.out; subst hx
            simp only [fill_eq, List.take_succ_cons, List.take_zero, List.cons_append, List.nil_append, Act.put, List.setIfInBounds_toArray, List.set_cons_zero, List.set_cons_succ, sel_of d12, sel_of d19] at ha
            subst ha
            rw [if_pos (by rfl)]
            go_simp
            refine (FR2.out wr _ _ (R19 d19)).mono ?_
            rintro e w1 ⟨rfl, hOW⟩
            go_wp2_with fail
            refine Shut.out hK _ _ ⟨u'59, u'61, u'63, ?_, (hO.trans hOW (fun _ _ c => c)), (fun h1 h2 => RowT.off (R15 h1 h2) hOW (fun _ _ c => c)), (fun h1 h2 => RowT.off (R17 h1 h2) hOW (fun _ _ c => c)), (fun h1 => RowT.off (R19 h1) hOW (fun _ _ c => c))⟩
            simp only [fill_eq, List.take_succ_cons, List.take_zero, List.cons_append, List.nil_append, Act.put, List.setIfInBounds_toArray, List.set_cons_zero, List.set_cons_succ, Nat.reduceAdd, Nat.reduceBEq, upd_lit, sel_new, sel_dep d12, sel_of d12, sel_dep d19, sel_of d19]
            try with_reducible rfl
        · as_aux_lemma =>
            rintro l a wr ⟨u'59, u'61, u'63, ha, hO, R15, R17, R19⟩ hc hl hd K' hK
            have d12 := hd 12 (by decide)
            have d14 := hd 14 (by decide)
            have d20 := hd 20 (by decide)
            have hx := X56.out; subst hx
            have hx := X58.out; subst hx
            have hx := X64.out; subst hx
            have hx := X65.out; subst hx
            simp only [fill_eq, List.take_succ_cons, List.take_zero, List.cons_append, List.nil_append, Act.put, List.setIfInBounds_toArray, List.set_cons_zero, List.set_cons_succ, sel_of d12, sel_of d14, sel_of d20] at ha
            subst ha
            rw [if_pos (by rfl)]
            go_simp
            refine Shut.out hK _ _ ⟨u'59, u'61, u'63, ?_, hO, (fun h1 h2 => RowT.off (R15 h1 h2) (Off.refl (fun _ => False) wr) (fun _ _ c => c)), (fun h1 h2 => RowT.off (R17 h1 h2) (Off.refl (fun _ => False) wr) (fun _ _ c => c)), (fun h1 => RowT.off (R19 h1) (Off.refl (fun _ => False) wr) (fun _ _ c => c))⟩
            simp only [fill_eq, List.take_succ_cons, List.take_zero, List.cons_append, List.nil_append, Act.put, List.setIfInBounds_toArray, List.set_cons_zero, List.set_cons_succ, Nat.reduceAdd, Nat.reduceBEq, upd_lit, sel_new, sel_dep d12, sel_of d12, sel_dep d14, sel_of d14, sel_dep d20, sel_of d20]
            try with_reducible rfl
        · as_aux_lemma =>
            rintro l a wr ⟨u'59, u'61, u'63, ha, hO, R15, R17, R19⟩ hc hl hd K' hK
            have d12 := hd 12 (by decide)
            have d21 := hd 21 (by decide)
            have hx := X56.out; subst hx
            have hx := X65.out; subst hx
            have hx := X66.out; subst hx
            simp only [fill_eq, List.take_succ_cons, List.take_zero, List.cons_append, List.nil_append, Act.put, List.setIfInBounds_toArray, List.set_cons_zero, List.set_cons_succ, sel_of d12, sel_of d21] at ha
            subst ha
            rw [if_pos (by rfl)]
            go_simp
            refine Shut.out hK _ _ ⟨u'59, u'61, u'63, ?_, hO, (fun h1 h2 => RowT.off (R15 h1 h2) (Off.refl (fun _ => False) wr) (fun _ _ c => c)), (fun h1 h2 => RowT.off (R17 h1 h2) (Off.refl (fun _ => False) wr) (fun _ _ c => c)), (fun h1 => RowT.off (R19 h1) (Off.refl (fun _ => False) wr) (fun _ _ c => c))⟩
            simp only [fill_eq, List.take_succ_cons, List.take_zero, List.cons_append, List.nil_append, Act.put, List.setIfInBounds_toArray, List.set_cons_zero, List.set_cons_succ, Nat.reduceAdd, Nat.reduceBEq, upd_lit, sel_new, sel_dep d12, sel_of d12, sel_dep d21, sel_of d21]
            try with_reducible rfl
        · as_aux_lemma =>
            rintro l a wr ⟨u'59, u'61, u'63, ha, hO, R15, R17, R19⟩ hc hl hd K' hK
            have d22 := hd 22 (by decide)
            have hx := X66.out; subst hx
            have hx := X4.out; subst hx
            simp only [fill_eq, List.take_succ_cons, List.take_zero, List.cons_append, List.nil_append, Act.put, List.setIfInBounds_toArray, List.set_cons_zero, List.set_cons_succ, sel_of d22] at ha
            subst ha
            rw [if_pos (by rfl)]
            go_simp
            refine Shut.out hK _ _ ⟨u'59, u'61, u'63, ?_, hO, (fun h1 h2 => RowT.off (R15 h1 h2) (Off.refl (fun _ => False) wr) (fun _ _ c => c)), (fun h1 h2 => RowT.off (R17 h1 h2) (Off.refl (fun _ => False) wr) (fun _ _ c => c)), (fun h1 => RowT.off (R19 h1) (Off.refl (fun _ => False) wr) (fun _ _ c => c))⟩
            simp only [fill_eq, List.take_succ_cons, List.take_zero, List.cons_append, List.nil_append, Act.put, List.setIfInBounds_toArray, List.set_cons_zero, List.set_cons_succ, Nat.reduceAdd, Nat.reduceBEq, upd_lit, sel_new, sel_dep d22, sel_of d22]
            try with_reducible rfl
        · rintro l a wc ⟨u'59, u'61, u'63, ha, hO, R15, R17, R19⟩ hd
          simp only [fill_eq, List.take_succ_cons, List.take_zero, List.cons_append, List.nil_append, Act.put, List.setIfInBounds_toArray, List.set_cons_zero, List.set_cons_succ, sel_of (hd 0 (by decide)), sel_of (hd 1 (by decide)), sel_of (hd 2 (by decide)), sel_of (hd 3 (by decide)), sel_of (hd 4 (by decide)), sel_of (hd 5 (by decide)), sel_of (hd 6 (by decide)), sel_of (hd 7 (by decide)), sel_of (hd 8 (by decide)), sel_of (hd 9 (by decide)), sel_of (hd 10 (by decide)), sel_of (hd 11 (by decide)), sel_of (hd 12 (by decide)), sel_of (hd 13 (by decide)), sel_of (hd 14 (by decide)), sel_of (hd 15 (by decide)), sel_of (hd 16 (by decide)), sel_of (hd 17 (by decide)), sel_of (hd 18 (by decide)), sel_of (hd 19 (by decide)), sel_of (hd 20 (by decide)), sel_of (hd 21 (by decide)), sel_of (hd 22 (by decide)), sel_of (hd 23 (by decide))] at ha
          subst ha
          have HOe := Lib.hid (HO7.out.trans hO (fun _ _ c => c))
          have hx := X4.out
          subst hx
          clear hO hd R15 R17 R19
          go_wp2_with fail
          go_ret
          exact ⟨rfl, HOe.out⟩

theorem door_met (os : Os) (args : Array Value) : laidMetH Tryd.prog [("sharecore/sha.constants", Rows.laid_sharecore_sha_constants), ("sharecore/sha.initial", Rows.laid_sharecore_sha_initial)] ((World.doorLaid Tryd.prog 400 os).forCall (fun _ _ => 0) ⟨#[], args, []⟩).memory :=
  laidMetH_of_parts3 (fuel := 8) (laidMet_of_run' 8 (by kernel_rfl) (by kernel_rfl)) (by kernel_rfl) (by kernel_rfl)

set_option maxRecDepth 100000 in
theorem lifted (os : Os) (started : os.Started) (H : Type) (enc : TypeId × Value → H) :
    ReturnsInHanded {} Tryd.checked os 5 .any (fun w args => (Rows.shaStaysSpec.pre enc Tryd.prog Tryd.f5 [] false w args ∧ laidMetH Tryd.prog [("sharecore/sha.constants", Rows.laid_sharecore_sha_constants), ("sharecore/sha.initial", Rows.laid_sharecore_sha_initial)] w) ∧ sizedMet enc Tryd.prog Tryd.f5 (OpenSpec.ofChange Rows.shaStaysSpec) false w args)
      (Rows.shaStaysSpec.post enc Tryd.prog Tryd.f5 false true false false) := by
  refine returnsInHanded_of_change_and (C := Tryd.checked) (X := fun w _ => laidMetH Tryd.prog [("sharecore/sha.constants", Rows.laid_sharecore_sha_constants), ("sharecore/sha.initial", Rows.laid_sharecore_sha_initial)] w) (fun _ _ _ hh h => h.of_heap hh) own started (by kernel_rfl) Tryd.func5
    (ChangeSpec.witness_shaped (enc := enc) (C := Tryd.checked) (os := os) (X := fun w _ => laidMetH Tryd.prog [("sharecore/sha.constants", Rows.laid_sharecore_sha_constants), ("sharecore/sha.initial", Rows.laid_sharecore_sha_initial)] w) false (World.doorLaid Tryd.prog 400 os) #[.slice none 0 0, .slice none 0 0] 8 rfl (World.shaped_of_RefB (by kernel_rfl) (by kernel_rfl)) (by kernel_rfl) (by kernel_rfl) (by kernel_rfl) (door_met os _)) ?_
  intro W base args ds gs before hval0 hW _ hsz hL _
  have hval : ∀ (j : Nat) t v, Tryd.f5.params[j]? = some t → args[j]? = some v → Value.okWide Tryd.prog W .any base t v := hval0
  have hW' := hW
  obtain ⟨p, q, hA0, hV, rfl, hfz, hnd⟩ := hW
  have hA : DataW.TrodAll enc Tryd.prog W 0 (fun _ => true) true Tryd.f5.params.toList args.toList ds p := hA0
  rw [Tryd.params5] at hA hval
  obtain ⟨v0, vs0, d0, ds0, p0, q0, hargs, rfl, rfl, h0, r0⟩ := trodAll_cons hA
  obtain ⟨v1, vs1, d1, ds1, p1, q1, rfl, rfl, rfl, h1, r1⟩ := trodAll_cons r0
  obtain ⟨rfl, rfl, rfl⟩ := trodAll_nil r1
  obtain rfl : args = #[v0, v1] := by cases args; simp_all
  obtain ⟨rfl, rfl⟩ := trodVars_none hV
  obtain ⟨a0, n0, cap0, rfl⟩ := okWide_slice Tryd.underlying22 (hval 0 22 v0 rfl rfl)
  have k0 := h0
  have lt0 : ∀ x ∈ p0, x.block < W.heap.size := by obtain ⟨m, hm⟩ := k0; exact DataW.trod_lt m _ _ _ hm
  obtain ⟨bs0, hn0, hc0, hs0, w0⟩ : ∃ bs, n0 = bs.length ∧ n0 ≤ cap0 ∧ Small bs ∧ BsAt W a0 bs (fun k => k < W.heap.size) := by
    obtain ⟨fuel, hf⟩ := h0
    exact bytes_of_trod hf
  obtain ⟨a1, n1, cap1, rfl⟩ := okWide_slice Tryd.underlying22 (hval 1 22 v1 rfl rfl)
  have k1 := h1
  have lt1 : ∀ x ∈ p1, x.block < W.heap.size := by obtain ⟨m, hm⟩ := k1; exact DataW.trod_lt m _ _ _ hm
  obtain ⟨bs1, hn1, hc1, hs1, w1⟩ : ∃ bs, n1 = bs.length ∧ n1 ≤ cap1 ∧ Small bs ∧ BsAt W a1 bs (fun k => k < W.heap.size) := by
    obtain ⟨fuel, hf⟩ := h1
    exact bytes_of_trod hf
  have hm0 : n0 ≤ reachBytes := by
    obtain ⟨fuel, hf⟩ := k0
    rcases slice_of_trod hf with h0 | ⟨el, sp, hd, hl⟩
    · rw [h0]; exact Nat.zero_le _
    · subst hd
      have h := sized_slice hsz (j := 0) (t := 22) (elems := el) (spare := sp) (by kernel_rfl) rfl Tryd.underlying22
      have hb : Tryd.checked.prog.bytesOf 5 = 1 := by kernel_rfl
      rw [hb] at h; omega
  have hm1 : n1 ≤ reachBytes := by
    obtain ⟨fuel, hf⟩ := k1
    rcases slice_of_trod hf with h0 | ⟨el, sp, hd, hl⟩
    · rw [h0]; exact Nat.zero_le _
    · subst hd
      have h := sized_slice hsz (j := 1) (t := 22) (elems := el) (spare := sp) (by kernel_rfl) rfl Tryd.underlying22
      have hb : Tryd.checked.prog.bytesOf 5 = 1 := by kernel_rfl
      rw [hb] at h; omega
  have hT := tab_of_laid hL
  clear hA0 hval0
  refine (walk a0 n0 cap0 bs0 a1 n1 cap1 bs1 W hm0 hn0 hc0 hs0 w0 hm1 hn1 hc1 hs1 w1 hT).mono fun e W' ⟨he, hoff⟩ => ?_
  have bel : Below W.heap.size W W' := hoff.below (Nat.le_refl _) (fun _ _ c => c)
  subst he
  exact ⟨_, rfl, _, _, _, [], _, [], hW', trodAll_mk1 (shut_bool Tryd.underlying4 _), (trodAll_cons_mk (Below.trod laidOut (by kernel_rfl) (of_decide_eq_true (by kernel_rfl)) k0 bel lt0) (trodAll_cons_mk (Below.trod laidOut (by kernel_rfl) (of_decide_eq_true (by kernel_rfl)) k1 bel lt1) trodAll_mk0)), rfl, bel.frame _, fun h => by cases h⟩

theorem over : Rows.shaStaysRow.holds Tryd.pinned (OpenSpec.ofChange Rows.shaStaysSpec) :=
  OpenClaim.holds_of_wide 5 Tryd.f5 rfl rfl rfl rfl rfl rfl rfl ⟨rfl, rfl, rfl, rfl, rfl⟩ rfl rfl rfl rfl rfl (by kernel_rfl) Tryd.func5 (by kernel_rfl)
    (of_decide_eq_true (by kernel_rfl)) (by unfold Func.isWrapper; first | (rw [if_pos (by decide +kernel)]; kernel_rfl) | (rw [if_neg (by decide +kernel)]; exact ⟨rfl, rfl⟩))
    (fun os started H enc _ => lifted os started H enc)

theorem proved : Rows.ShaStaysCardSaid :=
  Claim7.holds_tied_plain_at .later [] [.data, .data] true (true, "cea195b8e4b1cc889c1d1eca119c860888cfb8d83522847ae16b7d8c1e6b5c42") false
    over (fun _ h => by cases h) (by kernel_rfl) (fun _ h => by cases h) shaStays_row_tie rfl ⟨rfl, rfl⟩ (by kernel_rfl) rfl
    (fun f fn hf hfn => by
      obtain rfl : f = 5 := Option.some.inj ((show Tryd.prog.funcNamed "sharecore/sharecorelaw12.ShaStays" = some 5 by kernel_rfl).symm.trans hf) |>.symm
      obtain rfl : fn = Tryd.f5 := (Option.some.inj (Tryd.func5.symm.trans hfn)).symm
      exact ⟨by kernel_rfl, fun j t ht => by
        rw [Tryd.params5] at ht
        have hm : t ∈ [22] := by simpa using Array.mem_of_getElem? ht
        have hall : ([22].all fun u => !Tryd.prog.wantsStandIn u) = true := by kernel_rfl
        exact (show Tryd.prog.wantsStandIn t = false by simpa using List.all_eq_true.1 hall t hm)⟩)
    (by kernel_rfl)
#print axioms proved
end Go.Proofs.YthjfhgnmaepafaaDoor.shaStays
