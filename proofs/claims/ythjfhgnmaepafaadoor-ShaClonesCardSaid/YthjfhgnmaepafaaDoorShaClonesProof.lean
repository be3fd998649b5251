/-
  For all bytes in two parts, the examples of the chapter hold, and a clone has the same bytes, and writing to one of them does not change the other one: the statement of P12.2. No condition but the row's own (the tables of the constants and of the first state lie in memory as the program's text lays them).
-/
import Derived.Test.YthjfhgnmaepafaaDoorRows
import Derived.Test.YthjfhgnmaepafaaDoorTie
import Derived.Test.YthjfhgnmaepafaaDoorCards
import Derived.LaidMore
import Derived.LaidHandle
import Derived.SevenTiedAt
import Derived.Stop.Joined
import Derived.JoinedOf
import Derived.Test.YthjfhgnmaepafaaDoorBytOpen
import Derived.Test.YthjfhgnmaepafaaDoorBytMax
import Derived.Test.YthjfhgnmaepafaaDoorShaTabs
import Derived.Test.YthjfhgnmaepafaaDoorShaAlive
import Derived.WalkKit
import Derived.ProofKit
import Derived.OpenShut
import Derived.ShutString
import Derived.ChangeOld
import Derived.Below
namespace Go.Proofs.YthjfhgnmaepafaaDoor.shaClones
open Go.ChangeShapes Go.WideShapes Go.ChangeAt Go.RowKit
set_option linter.unusedVariables false

theorem own : ownKnob Tryd.prog.godebug = none := by kernel_rfl
theorem laidOut : laidOutB Tryd.prog = true := by kernel_rfl

set_option linter.unusedSimpArgs false
theorem upd_lit {l : Nat → Bool} {i k : Nat} (h : (k == i) = false) : upd l i k = l k := upd_ne _ (fun e => by subst e; simp at h)
set_option maxRecDepth 100000 in
set_option maxHeartbeats 4000000 in
theorem walk (a0 : Option Addr) (n0 cap0 : Nat) (bs0 : List Nat) (a1 : Option Addr) (n1 cap1 : Nat) (bs1 : List Nat) (w : World) (hm0 : n0 ≤ reachBytes) (hn0 : n0 = bs0.length) (hc0 : n0 ≤ cap0) (hs0 : Small bs0) (w0 : BsAt w a0 bs0 (fun k => k < w.heap.size)) (hm1 : n1 ≤ reachBytes) (hn1 : n1 = bs1.length) (hc1 : n1 ≤ cap1) (hs1 : Small bs1) (w1 : BsAt w a1 bs1 (fun k => k < w.heap.size)) (hT : TabAt w) :
    Calls Tryd.prog 6 #[.slice a0 n0 cap0, .slice a1 n1 cap1] w fun e w' => e = .returned (.bool true) ∧ Off (fun _ => False) w w' := by
  have FAL := Lib.hid (fun W (h : Off (fun _ => False) w W) => alive_any W (hT.off h))
  have j0 : reachBytes < 140737488355328 := by decide
  have s1 : IntKind.i64.wrap ((n0 : Int) + (n1 : Int)) = ((n0 + n1 : Nat) : Int) := by rw [IntKind.wrap_i64]; omega
  obtain ⟨m, hm⟩ : ∃ m, m = n0 + n1 := ⟨_, rfl⟩
  rw [← hm] at s1
  clear j0 hm0 hm1
  by_cases hbig : 2000 < m
  · have i1 : (2000 : Int) < (m : Int) := by omega
    have i2 : decide ((2000 : Int) < (m : Int)) = true := by simp; omega
    clear hn0 hc0 hs0 w0 hn1 hc1 hs1 w1 hT hm hbig
    go_enter Tryd.func6, Tryd.ntmps6
    go_wp2_with fail
    refine (FAL.out _ (Off.refl _ w)).mono ?_
    rintro e u0 ⟨rfl, hO⟩
    have HO := Lib.hid hO
    clear hO FAL
    go_wp2_with fail
    go_ret
    exact ⟨rfl, HO.out⟩
  · have i1 : ¬ ((2000 : Int) < (m : Int)) := by omega
    have i2 : decide ((2000 : Int) < (m : Int)) = false := by simp; omega
    have FNW := Lib.hid (new_any w hT)
    have FR0 := Lib.hid (fun W (h : Off (fun _ => False) w W) => refsum_any a0 n0 cap0 bs0 (fun _ => True) W ((w0.off h (fun _ _ _ c => c)).mono (fun _ _ _ => trivial)) hn0 hs0 (by omega))
    have FR2 : Hid (∀ (W : World) (bb : Nat) (v : Value), RowB bb W v ([] ++ bs0 ++ bs1) → Calls Tryd.prog 12 #[v] W fun e w' => e = .returned (.agg ((shaN (bs0 ++ bs1)).map u8v).toArray) ∧ Off (fun _ => False) W w') := Lib.hid (fun W bb v hr => by
      rw [List.nil_append] at hr
      obtain ⟨a9, c9, h9, _, hb9⟩ := hr.at
      subst h9
      exact refsum_any a9 _ c9 (bs0 ++ bs1) _ W hb9 rfl (Sm.app (show Sm bs0 from hs0) hs1) (by rw [List.length_append]; omega))
    obtain ⟨A, hA⟩ : ∃ A, A = ((shaN bs0).map u8v).toArray := ⟨_, rfl⟩
    obtain ⟨B, hB⟩ : ∃ B, B = ((shaN (bs0 ++ bs1)).map u8v).toArray := ⟨_, rfl⟩
    rw [← hB] at FR2
    rw [← hA] at FR0
    have e1 : ∀ W, (Op.equalIn 10000 25 (.agg A) (.agg A)).run Tryd.prog W = .ok true W := fun W => by
      rw [hA, equalIn_32 _ _ (shaN_length _) (shaN_length _)]; simp
    have e2 : ∀ W, (Op.equalIn 10000 25 (.agg B) (.agg B)).run Tryd.prog W = .ok true W := fun W => by
      rw [hB, equalIn_32 _ _ (shaN_length _) (shaN_length _)]; simp
    have hi32 : (Tryd.prog.info? 25).map (·.size) = some 32 := by kernel_rfl
    have hBz : B.size = 32 := by rw [hB]; rfl
    have HBI := Lib.hid (show (Tryd.prog.info? 25).map (·.size) = some B.size by rw [hBz]; exact hi32)
    have HBO := Lib.hid (show B.all (·.oneCell') = true by rw [hB]; simp [Value.oneCell'])
    have HZB := Lib.hid (show Array.size (#[.int .u8 0, .int .u8 0, .int .u8 0, .int .u8 0, .int .u8 0, .int .u8 0, .int .u8 0, .int .u8 0, .int .u8 0, .int .u8 0, .int .u8 0, .int .u8 0, .int .u8 0, .int .u8 0, .int .u8 0, .int .u8 0, .int .u8 0, .int .u8 0, .int .u8 0, .int .u8 0, .int .u8 0, .int .u8 0, .int .u8 0, .int .u8 0, .int .u8 0, .int .u8 0, .int .u8 0, .int .u8 0, .int .u8 0, .int .u8 0, .int .u8 0, .int .u8 0] : Array Value) = B.size by rw [hBz]; rfl)
    obtain ⟨d, hd⟩ : ∃ d, d = 2 * n1 := ⟨_, rfl⟩
    obtain ⟨L, hL⟩ : ∃ L, L = n0 + d := ⟨_, rfl⟩
    have k1 : IntKind.i64.wrap (2 * (n1 : Int)) = (d : Int) := by rw [IntKind.wrap_i64]; omega
    have k2 : IntKind.i64.wrap ((n0 : Int) + (d : Int)) = (L : Int) := by rw [IntKind.wrap_i64]; omega
    have HLL := Lib.hid (show L = bs0.length + bs1.length + bs1.length by omega)
    have HA := Lib.hid hA
    have HB := Lib.hid hB
    have HT := Lib.hid hT
    have HN0 := Lib.hid hn0
    have HN1 := Lib.hid hn1
    have HC0 := Lib.hid hc0
    have HC1 := Lib.hid hc1
    have HS0 := Lib.hid hs0
    have HSb := Lib.hid hs1
    have HW0 := Lib.hid w0
    have HW1 := Lib.hid w1
    have HBG := Lib.hid (show n0 + n1 ≤ 2000 by omega)
    clear hA hB hi32 hBz hT hn0 hn1 hc0 hc1 hs0 hs1 w0 w1 hbig hm hd hL
    go_enter Tryd.func6, Tryd.ntmps6
    go_wp2_with fail
    refine (FNW.out).mono ?_
    rintro e u0 ⟨p, rfl, hh, ho, hp⟩
    have HH0 := Lib.hid hh
    have HO0 := Lib.hid ho
    have HT0 := Lib.hid (HT.out.off ho)
    have HNT := Lib.hid (NoTab.new HT.out (Nat.le_of_eq hp.symm))
    have HPW := Lib.hid hp
    clear hh ho hp FNW
    go_wp2_with fail
    refine (write_any p ([]) (bs0) a0 (n0) (cap0) (fun k => k < w.heap.size) u0 HH0.out (HW0.out.off HO0.out (fun _ _ _ c => c)) (by have := HPW.out; omega) (HN0.out) (HC0.out) (HS0.out) (by have := HBG.out; simp; omega) HT0.out HNT.out).mono ?_
    rintro e u1 ⟨rfl, hh, ho⟩
    have HH1 := Lib.hid hh
    have HS1 := Lib.hid ho
    have HT1 := Lib.hid (HT0.out.offp HNT.out ho)
    have HO1 := Lib.hid (show Off (fun _ => False) w u1 from HO0.out.trans ho (fun k hk e => by have := HPW.out; omega))
    rw [List.nil_append] at hh
    have HP1 := Lib.hid hh
    clear hh ho
    go_wp2_with fail
    refine (clone_any p bs0 u1 HP1.out).mono ?_
    rintro e u2 ⟨q1, rfl, hq, ho, hq1⟩
    have HQ2 := Lib.hid hq
    have HP2 := Lib.hid (HP1.out.off ho (fun c => c))
    have HO2 := Lib.hid (HO1.out.trans ho (fun _ _ c => c))
    have HT2 := Lib.hid (HT1.out.off ho)
    have HE1 := Lib.hid (show w.heap.size ≤ q1 ∧ p < q1 by have := HP1.out.lt; have := HO1.out.size; omega)
    have HNQ := Lib.hid (NoTab.new HT1.out (Nat.le_of_eq hq1.symm))
    clear hq ho hq1
    go_wp2_with fail
    refine (clone_any p bs0 u2 HP2.out).mono ?_
    rintro e u3 ⟨q2, rfl, hq, ho, hq2⟩
    have HD3 := Lib.hid hq
    have HP3 := Lib.hid (HP2.out.off ho (fun c => c))
    have HQ3 := Lib.hid (HQ2.out.off ho (fun c => c))
    have HO3 := Lib.hid (HO2.out.trans ho (fun _ _ c => c))
    have HT3 := Lib.hid (HT2.out.off ho)
    have HE2 := Lib.hid (show q1 < q2 by have := HQ2.out.lt; omega)
    clear hq ho hq2
    go_wp2_with fail
    refine (write_any q1 bs0 bs1 a1 n1 cap1 (fun k => k < w.heap.size) u3 HQ3.out (HW1.out.off HO3.out (fun _ _ _ c => c)) (by have := HE1.out; omega) HN1.out HC1.out HSb.out (by have := HBG.out; have := HN0.out; omega) HT3.out HNQ.out).mono ?_
    rintro e u4 ⟨rfl, hh, ho⟩
    have HQ4 := Lib.hid hh
    have HP4 := Lib.hid (HP3.out.off ho (fun e => by have := HE1.out; omega))
    have HD4 := Lib.hid (HD3.out.off ho (fun e => by have := HE2.out; omega))
    have HT4 := Lib.hid (HT3.out.offp HNQ.out ho)
    have HO4 := Lib.hid (show Off (fun _ => False) w u4 from HO3.out.trans ho (fun k hk e => by have := HE1.out; omega))
    clear hh ho
    go_wp2_with fail
    refine (write_any q1 (bs0 ++ bs1) bs1 a1 n1 cap1 (fun k => k < w.heap.size) u4 HQ4.out (HW1.out.off HO4.out (fun _ _ _ c => c)) (by have := HE1.out; omega) HN1.out HC1.out HSb.out (by have := HBG.out; have := HN0.out; have := HN1.out; simp; omega) HT4.out HNQ.out).mono ?_
    rintro e u5 ⟨rfl, hh, ho⟩
    have HQ5 := Lib.hid hh
    have HP5 := Lib.hid (HP4.out.off ho (fun e => by have := HE1.out; omega))
    have HD5 := Lib.hid (HD4.out.off ho (fun e => by have := HE2.out; omega))
    have HT5 := Lib.hid (HT4.out.offp HNQ.out ho)
    have HO5 := Lib.hid (show Off (fun _ => False) w u5 from HO4.out.trans ho (fun k hk e => by have := HE1.out; omega))
    clear hh ho
    go_wp2_with fail
    refine (write_any p bs0 bs1 a1 n1 cap1 (fun k => k < w.heap.size) u5 HP5.out (HW1.out.off HO5.out (fun _ _ _ c => c)) (by have := HPW.out; omega) HN1.out HC1.out HSb.out (by have := HBG.out; have := HN0.out; omega) HT5.out HNT.out).mono ?_
    rintro e u6 ⟨rfl, hh, ho⟩
    have HP6 := Lib.hid hh
    have HQ6 := Lib.hid (HQ5.out.off ho (fun e => by have := HE1.out; omega))
    have HD6 := Lib.hid (HD5.out.off ho (fun e => by have := HE1.out; have := HE2.out; omega))
    have HT6 := Lib.hid (HT5.out.offp HNT.out ho)
    have HO6 := Lib.hid (show Off (fun _ => False) w u6 from HO5.out.trans ho (fun k hk e => by have := HPW.out; omega))
    clear hh ho HQ2 HP2 HO2 HT2 HQ3 HP3 HO3 HT3 HD3 HQ4 HP4 HO4 HT4 HD4 HQ5 HP5 HO5 HT5 HD5 HP1 HO1 HT1 HO0 HT0 HH0 HH1 HSb
    obtain ⟨X1, hX1⟩ : ∃ X1, X1 = u6.alloc (.cells #[] 5) := ⟨_, rfl⟩
    have hoX : Off (fun _ => False) u6 X1 := by rw [hX1]; exact (Off.refl _ u6).alloc _
    have r1 : RowB u6.heap.size X1 (.slice (some ⟨u6.heap.size, 0, none⟩) 0 0) [] := by rw [hX1]; exact World.ownsRow_lit u6 #[] 0 (Nat.le_refl _) (by decide) rfl
    obtain ⟨v5, x5, hr5, r5, o5⟩ := app_any hoX r1 (cap := cap0) (HW0.out.off (HO6.out.trans hoX (fun _ _ c => c)) (fun _ _ _ c => c)) HN0.out (by have := HBG.out; simp; omega)
    obtain ⟨v6, x6, hr6, r6, o6⟩ := app_any o5 r5 (cap := cap1) (HW1.out.off (HO6.out.trans o5 (fun _ _ c => c)) (fun _ _ _ c => c)) HN1.out (by have := HBG.out; have := HN0.out; simp; omega)
    have HX1 := Lib.hid hX1
    have HR5 := Lib.hid hr5
    have HR6 := Lib.hid hr6
    have HV6 := Lib.hid r6
    have HO7 := Lib.hid o6
    clear hX1 hoX r1 hr5 r5 o5 hr6 r6 o6
    go_wp2_with first | (at_builtin; rw [← HX1.out]; refine Go.Lib.wpList_append_run _ rfl _ _ _ _ rfl _ _ rfl rfl _ _ HR5.out ?_) | (at_builtin; refine Go.Lib.wpList_append_run _ rfl _ _ _ _ rfl _ _ rfl rfl _ _ HR6.out ?_) | fail
    refine (FR2.out x6 _ v6 HV6.out).mono ?_
    rintro e u7 ⟨rfl, ho⟩
    have HO8 := Lib.hid (HO7.out.trans ho (fun _ _ c => c))
    clear ho HX1 HR5 HR6 HV6 FR2
    go_upto_region 14 with first | (refine wpList_store_row rfl _ _ _ rfl _ B rfl rfl _ _ (heap_new' rfl _) HBI.out HZB.out HBO.out ?_) | fail
    have h9 := @new_row u7 #[.int .u8 0, .int .u8 0, .int .u8 0, .int .u8 0, .int .u8 0, .int .u8 0, .int .u8 0, .int .u8 0, .int .u8 0, .int .u8 0, .int .u8 0, .int .u8 0, .int .u8 0, .int .u8 0, .int .u8 0, .int .u8 0, .int .u8 0, .int .u8 0, .int .u8 0, .int .u8 0, .int .u8 0, .int .u8 0, .int .u8 0, .int .u8 0, .int .u8 0, .int .u8 0, .int .u8 0, .int .u8 0, .int .u8 0, .int .u8 0, .int .u8 0, .int .u8 0] B 25
    obtain ⟨wq, hwq⟩ : ∃ wq, wq = (u7.alloc (.cells #[.int .u8 0, .int .u8 0, .int .u8 0, .int .u8 0, .int .u8 0, .int .u8 0, .int .u8 0, .int .u8 0, .int .u8 0, .int .u8 0, .int .u8 0, .int .u8 0, .int .u8 0, .int .u8 0, .int .u8 0, .int .u8 0, .int .u8 0, .int .u8 0, .int .u8 0, .int .u8 0, .int .u8 0, .int .u8 0, .int .u8 0, .int .u8 0, .int .u8 0, .int .u8 0, .int .u8 0, .int .u8 0, .int .u8 0, .int .u8 0, .int .u8 0, .int .u8 0] 25)).setRow u7.heap.size B := ⟨_, rfl⟩
    rw [← hwq] at h9 ⊢
    obtain ⟨gb, hgb⟩ : ∃ g, g = u7.heap.size := ⟨_, rfl⟩
    rw [← hgb] at h9 ⊢
    have hoq := HO8.out.trans h9.2 (fun _ _ c => c)
    have HB8 := Lib.hid h9.1
    have HOq := Lib.hid (HO6.out.trans hoq (fun _ _ c => c))
    have FAL1 := Lib.hid (fun W (h : Off (fun _ => False) wq W) => FAL.out W (HOq.out.trans h (fun _ _ c => c)))
    have FRA := Lib.hid (fun W (h : Off (fun _ => False) wq W) => FR0.out W (HOq.out.trans h (fun _ _ c => c)))
    have FSP := Lib.hid (fun W (h : Off (fun _ => False) wq W) => hsum_any p (bs0 ++ bs1) W (HP6.out.off (hoq.trans h (fun _ _ c => c)) (fun c => c)) (by have := HBG.out; have := HN0.out; have := HN1.out; simp; omega) (HT6.out.off (hoq.trans h (fun _ _ c => c))))
    have FSQ := Lib.hid (fun W (h : Off (fun _ => False) wq W) => hsum_any q2 bs0 W (HD6.out.off (hoq.trans h (fun _ _ c => c)) (fun c => c)) (by have := HBG.out; have := HN0.out; omega) (HT6.out.off (hoq.trans h (fun _ _ c => c))))
    rw [← HB.out] at FSP
    rw [← HA.out] at FSQ
    have FL1 := Lib.hid (fun W (h : Off (fun _ => False) wq W) => show Calls Tryd.prog 17 #[.pointer (some ⟨q1, 0, none⟩)] W fun e w' => e = .returned (.int .i64 (L : Int)) ∧ Off (fun _ => False) W w' from
      (len_any q1 (bs0 ++ bs1 ++ bs1) W (HQ6.out.off (hoq.trans h (fun _ _ c => c)) (fun c => c))).mono fun e w' ⟨h1, h2⟩ => ⟨by rw [h1, HLL.out, List.length_append, List.length_append], by rw [h2]; exact Off.refl _ W⟩)
    have FL2 := Lib.hid (fun W (h : Off (fun _ => False) wq W) => show Calls Tryd.prog 17 #[.pointer (some ⟨q2, 0, none⟩)] W fun e w' => e = .returned (.int .i64 (n0 : Int)) ∧ Off (fun _ => False) W w' from
      (len_any q2 bs0 W (HD6.out.off (hoq.trans h (fun _ _ c => c)) (fun c => c))).mono fun e w' ⟨h1, h2⟩ => ⟨by rw [h1, HN0.out], by rw [h2]; exact Off.refl _ W⟩)
    clear h9 hwq hgb hoq FAL FR0 HP6 HQ6 HD6 HT6
    obtain ⟨x47, hx⟩ : ∃ vv : Value, vv = .bool true := ⟨_, rfl⟩
    have X47 := Lib.hid hx
    clear hx
    obtain ⟨x48, hx⟩ : ∃ vv : Value, vv = .bool true := ⟨_, rfl⟩
    have X48 := Lib.hid hx
    clear hx
    obtain ⟨x49, hx⟩ : ∃ vv : Value, vv = .pointer (some ⟨p, 0, none⟩) := ⟨_, rfl⟩
    have X49 := Lib.hid hx
    clear hx
    obtain ⟨x50, hx⟩ : ∃ vv : Value, vv = .agg B := ⟨_, rfl⟩
    have X50 := Lib.hid hx
    clear hx
    obtain ⟨x51, hx⟩ : ∃ vv : Value, vv = .agg B := ⟨_, rfl⟩
    have X51 := Lib.hid hx
    clear hx
    obtain ⟨x52, hx⟩ : ∃ vv : Value, vv = .bool true := ⟨_, rfl⟩
    have X52 := Lib.hid hx
    clear hx
    obtain ⟨x53, hx⟩ : ∃ vv : Value, vv = .bool true := ⟨_, rfl⟩
    have X53 := Lib.hid hx
    clear hx
    obtain ⟨x54, hx⟩ : ∃ vv : Value, vv = .bool true := ⟨_, rfl⟩
    have X54 := Lib.hid hx
    clear hx
    obtain ⟨x55, hx⟩ : ∃ vv : Value, vv = .pointer (some ⟨q2, 0, none⟩) := ⟨_, rfl⟩
    have X55 := Lib.hid hx
    clear hx
    obtain ⟨x56, hx⟩ : ∃ vv : Value, vv = .agg A := ⟨_, rfl⟩
    have X56 := Lib.hid hx
    clear hx
    obtain ⟨x57, hx⟩ : ∃ vv : Value, vv = .slice a0 n0 cap0 := ⟨_, rfl⟩
    have X57 := Lib.hid hx
    clear hx
    obtain ⟨x58, hx⟩ : ∃ vv : Value, vv = .agg A := ⟨_, rfl⟩
    have X58 := Lib.hid hx
    clear hx
    obtain ⟨x59, hx⟩ : ∃ vv : Value, vv = .bool true := ⟨_, rfl⟩
    have X59 := Lib.hid hx
    clear hx
    obtain ⟨x60, hx⟩ : ∃ vv : Value, vv = .bool true := ⟨_, rfl⟩
    have X60 := Lib.hid hx
    clear hx
    obtain ⟨x61, hx⟩ : ∃ vv : Value, vv = .bool true := ⟨_, rfl⟩
    have X61 := Lib.hid hx
    clear hx
    obtain ⟨x62, hx⟩ : ∃ vv : Value, vv = .pointer (some ⟨q1, 0, none⟩) := ⟨_, rfl⟩
    have X62 := Lib.hid hx
    clear hx
    obtain ⟨x63, hx⟩ : ∃ vv : Value, vv = .int .i64 (L : Int) := ⟨_, rfl⟩
    have X63 := Lib.hid hx
    clear hx
    obtain ⟨x64, hx⟩ : ∃ vv : Value, vv = .slice a0 n0 cap0 := ⟨_, rfl⟩
    have X64 := Lib.hid hx
    clear hx
    obtain ⟨x65, hx⟩ : ∃ vv : Value, vv = .int .i64 (n0 : Int) := ⟨_, rfl⟩
    have X65 := Lib.hid hx
    clear hx
    obtain ⟨x66, hx⟩ : ∃ vv : Value, vv = .slice a1 n1 cap1 := ⟨_, rfl⟩
    have X66 := Lib.hid hx
    clear hx
    obtain ⟨x67, hx⟩ : ∃ vv : Value, vv = .int .i64 (n1 : Int) := ⟨_, rfl⟩
    have X67 := Lib.hid hx
    clear hx
    obtain ⟨x68, hx⟩ : ∃ vv : Value, vv = .int .i64 (d : Int) := ⟨_, rfl⟩
    have X68 := Lib.hid hx
    clear hx
    obtain ⟨x69, hx⟩ : ∃ vv : Value, vv = .int .i64 (L : Int) := ⟨_, rfl⟩
    have X69 := Lib.hid hx
    clear hx
    obtain ⟨x70, hx⟩ : ∃ vv : Value, vv = .bool true := ⟨_, rfl⟩
    have X70 := Lib.hid hx
    clear hx
    obtain ⟨x71, hx⟩ : ∃ vv : Value, vv = .bool true := ⟨_, rfl⟩
    have X71 := Lib.hid hx
    clear hx
    obtain ⟨x72, hx⟩ : ∃ vv : Value, vv = .bool true := ⟨_, rfl⟩
    have X72 := Lib.hid hx
    clear hx
    obtain ⟨x73, hx⟩ : ∃ vv : Value, vv = .pointer (some ⟨q2, 0, none⟩) := ⟨_, rfl⟩
    have X73 := Lib.hid hx
    clear hx
    obtain ⟨x74, hx⟩ : ∃ vv : Value, vv = .int .i64 (n0 : Int) := ⟨_, rfl⟩
    have X74 := Lib.hid hx
    clear hx
    obtain ⟨x75, hx⟩ : ∃ vv : Value, vv = .slice a0 n0 cap0 := ⟨_, rfl⟩
    have X75 := Lib.hid hx
    clear hx
    obtain ⟨x76, hx⟩ : ∃ vv : Value, vv = .int .i64 (n0 : Int) := ⟨_, rfl⟩
    have X76 := Lib.hid hx
    clear hx
    obtain ⟨x77, hx⟩ : ∃ vv : Value, vv = .bool true := ⟨_, rfl⟩
    have X77 := Lib.hid hx
    clear hx
    obtain ⟨x78, hx⟩ : ∃ vv : Value, vv = .bool true := ⟨_, rfl⟩
    have X78 := Lib.hid hx
    clear hx
    obtain ⟨x4, hx⟩ : ∃ vv : Value, vv = .bool true := ⟨_, rfl⟩
    have X4 := Lib.hid hx
    clear hx
    refine wp_region_clo (fun a0 l a' w' => a' = (Act.put (fill a0 47 [sel (l 0) x47 undef, sel (l 1) x48 undef, sel (l 2) x49 undef, sel (l 3) x50 undef, sel (l 4) x51 undef, sel (l 5) x52 undef, sel (l 6) x53 undef, sel (l 7) x54 undef, sel (l 8) x55 undef, sel (l 9) x56 undef, sel (l 10) x57 undef, sel (l 11) x58 undef, sel (l 12) x59 undef, sel (l 13) x60 undef, sel (l 14) x61 undef, sel (l 15) x62 undef, sel (l 16) x63 undef, sel (l 17) x64 undef, sel (l 18) x65 undef, sel (l 19) x66 undef, sel (l 20) x67 undef, sel (l 21) x68 undef, sel (l 22) x69 undef, sel (l 23) x70 undef, sel (l 24) x71 undef, sel (l 25) x72 undef, sel (l 26) x73 undef, sel (l 27) x74 undef, sel (l 28) x75 undef, sel (l 29) x76 undef, sel (l 30) x77 undef, sel (l 31) x78 undef]) (some 4) (sel (l 32) x4 (.bool false))) ∧ Off (fun _ => False) wq w') (by kernel_rfl) (by kernel_rfl) ?_ ⟨?_, ?_, ?_, ?_, ?_, ?_, ?_, ?_, ?_, ?_, ?_, ?_, ?_, ?_, ?_, ?_, ?_, ?_, ?_, ?_, ?_, ?_, ?_, ?_, ?_, ?_, ?_, ?_, ?_, ?_, ?_, ?_, ?_, trivial⟩ ?_
    · refine ⟨?_, (Off.refl _ wq).drew⟩
      simp only [fill_eq, List.take_succ_cons, List.take_zero, List.cons_append, List.nil_append, Act.put, List.setIfInBounds_toArray, List.set_cons_zero, List.set_cons_succ, sel_start]
      try rfl
    · as_aux_lemma =>
        rintro l a wr ⟨ha, hO⟩ hc hl hd K' hK
        have hx := X47.out; subst hx
        simp only [fill_eq, List.take_succ_cons, List.take_zero, List.cons_append, List.nil_append, Act.put, List.setIfInBounds_toArray, List.set_cons_zero, List.set_cons_succ] at ha
        subst ha
        rw [if_pos (by rfl)]
        go_simp
        refine (FAL1.out wr hO).mono ?_
        rintro e w1 ⟨rfl, hOW⟩
        go_wp2_with fail
        refine Shut.out hK _ _ ⟨?_, (hO.trans hOW (fun _ _ c => c))⟩
        simp only [fill_eq, List.take_succ_cons, List.take_zero, List.cons_append, List.nil_append, Act.put, List.setIfInBounds_toArray, List.set_cons_zero, List.set_cons_succ, Nat.reduceAdd, Nat.reduceBEq, upd_lit, sel_new]
        try with_reducible rfl
    · as_aux_lemma =>
        rintro l a wr ⟨ha, hO⟩ hc hl hd K' hK
        have d0 := hd 0 (by decide)
        have hx := X47.out; subst hx
        have hx := X48.out; subst hx
        simp only [fill_eq, List.take_succ_cons, List.take_zero, List.cons_append, List.nil_append, Act.put, List.setIfInBounds_toArray, List.set_cons_zero, List.set_cons_succ, sel_of d0] at ha
        subst ha
        rw [if_pos (by rfl)]
        go_simp
        refine Shut.out hK _ _ ⟨?_, hO⟩
        simp only [fill_eq, List.take_succ_cons, List.take_zero, List.cons_append, List.nil_append, Act.put, List.setIfInBounds_toArray, List.set_cons_zero, List.set_cons_succ, Nat.reduceAdd, Nat.reduceBEq, upd_lit, sel_new, sel_dep d0, sel_of d0]
        try with_reducible rfl
    · as_aux_lemma =>
        rintro l a wr ⟨ha, hO⟩ hc hl hd K' hK
        have d1 := hd 1 (by decide)
        have hx := X48.out; subst hx
        have hx := X49.out; subst hx
        simp only [fill_eq, List.take_succ_cons, List.take_zero, List.cons_append, List.nil_append, Act.put, List.setIfInBounds_toArray, List.set_cons_zero, List.set_cons_succ, sel_of d1] at ha
        subst ha
        rw [if_pos (by rfl)]
        go_simp
        refine Shut.out hK _ _ ⟨?_, hO⟩
        simp only [fill_eq, List.take_succ_cons, List.take_zero, List.cons_append, List.nil_append, Act.put, List.setIfInBounds_toArray, List.set_cons_zero, List.set_cons_succ, Nat.reduceAdd, Nat.reduceBEq, upd_lit, sel_new, sel_dep d1, sel_of d1]
        try with_reducible rfl
    · as_aux_lemma =>
        rintro l a wr ⟨ha, hO⟩ hc hl hd K' hK
        have d1 := hd 1 (by decide)
        have d2 := hd 2 (by decide)
        have hx := X48.out; subst hx
        have hx := X49.out; subst hx
        have hx := X50.out; subst hx
        simp only [fill_eq, List.take_succ_cons, List.take_zero, List.cons_append, List.nil_append, Act.put, List.setIfInBounds_toArray, List.set_cons_zero, List.set_cons_succ, sel_of d1, sel_of d2] at ha
        subst ha
        rw [if_pos (by rfl)]
        go_simp
        refine (FSP.out wr hO).mono ?_
        rintro e w1 ⟨rfl, hOW⟩
        go_wp2_with fail
        refine Shut.out hK _ _ ⟨?_, (hO.trans hOW (fun _ _ c => c))⟩
        simp only [fill_eq, List.take_succ_cons, List.take_zero, List.cons_append, List.nil_append, Act.put, List.setIfInBounds_toArray, List.set_cons_zero, List.set_cons_succ, Nat.reduceAdd, Nat.reduceBEq, upd_lit, sel_new, sel_dep d1, sel_of d1, sel_dep d2, sel_of d2]
        try with_reducible rfl
    · as_aux_lemma =>
        rintro l a wr ⟨ha, hO⟩ hc hl hd K' hK
        have d1 := hd 1 (by decide)
        have hx := X48.out; subst hx
        have hx := X51.out; subst hx
        simp only [fill_eq, List.take_succ_cons, List.take_zero, List.cons_append, List.nil_append, Act.put, List.setIfInBounds_toArray, List.set_cons_zero, List.set_cons_succ, sel_of d1] at ha
        subst ha
        rw [if_pos (by rfl)]
        refine wp_load_row _ _ rfl _ rfl _ B (0, 0) _ (hO.heap HB8.out (fun c => c)) Tryd.underlying25 rfl HBI.out ?_
        refine Shut.out hK _ _ ⟨?_, hO⟩
        simp only [fill_eq, List.take_succ_cons, List.take_zero, List.cons_append, List.nil_append, Act.put, List.setIfInBounds_toArray, List.set_cons_zero, List.set_cons_succ, Nat.reduceAdd, Nat.reduceBEq, upd_lit, sel_new, sel_dep d1, sel_of d1]
        try with_reducible rfl
    · as_aux_lemma =>
        rintro l a wr ⟨ha, hO⟩ hc hl hd K' hK
        have d1 := hd 1 (by decide)
        have d3 := hd 3 (by decide)
        have d4 := hd 4 (by decide)
        have hx := X48.out; subst hx
        have hx := X50.out; subst hx
        have hx := X51.out; subst hx
        have hx := X52.out; subst hx
        simp only [fill_eq, List.take_succ_cons, List.take_zero, List.cons_append, List.nil_append, Act.put, List.setIfInBounds_toArray, List.set_cons_zero, List.set_cons_succ, sel_of d1, sel_of d3, sel_of d4] at ha
        subst ha
        rw [if_pos (by rfl)]
        go_simp
        refine Shut.out hK _ _ ⟨?_, hO⟩
        simp only [fill_eq, List.take_succ_cons, List.take_zero, List.cons_append, List.nil_append, Act.put, List.setIfInBounds_toArray, List.set_cons_zero, List.set_cons_succ, Nat.reduceAdd, Nat.reduceBEq, upd_lit, sel_new, sel_dep d1, sel_of d1, sel_dep d3, sel_of d3, sel_dep d4, sel_of d4]
        try with_reducible rfl
    · as_aux_lemma =>
        rintro l a wr ⟨ha, hO⟩ hc hl hd K' hK
        have d1 := hd 1 (by decide)
        have d5 := hd 5 (by decide)
        have hx := X48.out; subst hx
        have hx := X52.out; subst hx
        have hx := X53.out; subst hx
        simp only [fill_eq, List.take_succ_cons, List.take_zero, List.cons_append, List.nil_append, Act.put, List.setIfInBounds_toArray, List.set_cons_zero, List.set_cons_succ, sel_of d1, sel_of d5] at ha
        subst ha
        rw [if_pos (by rfl)]
        go_simp
        refine Shut.out hK _ _ ⟨?_, hO⟩
        simp only [fill_eq, List.take_succ_cons, List.take_zero, List.cons_append, List.nil_append, Act.put, List.setIfInBounds_toArray, List.set_cons_zero, List.set_cons_succ, Nat.reduceAdd, Nat.reduceBEq, upd_lit, sel_new, sel_dep d1, sel_of d1, sel_dep d5, sel_of d5]
        try with_reducible rfl
    · as_aux_lemma =>
        rintro l a wr ⟨ha, hO⟩ hc hl hd K' hK
        have d6 := hd 6 (by decide)
        have hx := X53.out; subst hx
        have hx := X54.out; subst hx
        simp only [fill_eq, List.take_succ_cons, List.take_zero, List.cons_append, List.nil_append, Act.put, List.setIfInBounds_toArray, List.set_cons_zero, List.set_cons_succ, sel_of d6] at ha
        subst ha
        rw [if_pos (by rfl)]
        go_simp
        refine Shut.out hK _ _ ⟨?_, hO⟩
        simp only [fill_eq, List.take_succ_cons, List.take_zero, List.cons_append, List.nil_append, Act.put, List.setIfInBounds_toArray, List.set_cons_zero, List.set_cons_succ, Nat.reduceAdd, Nat.reduceBEq, upd_lit, sel_new, sel_dep d6, sel_of d6]
        try with_reducible rfl
    · as_aux_lemma =>
        rintro l a wr ⟨ha, hO⟩ hc hl hd K' hK
        have d7 := hd 7 (by decide)
        have hx := X54.out; subst hx
        have hx := X55.out; subst hx
        simp only [fill_eq, List.take_succ_cons, List.take_zero, List.cons_append, List.nil_append, Act.put, List.setIfInBounds_toArray, List.set_cons_zero, List.set_cons_succ, sel_of d7] at ha
        subst ha
        rw [if_pos (by rfl)]
        go_simp
        refine Shut.out hK _ _ ⟨?_, hO⟩
        simp only [fill_eq, List.take_succ_cons, List.take_zero, List.cons_append, List.nil_append, Act.put, List.setIfInBounds_toArray, List.set_cons_zero, List.set_cons_succ, Nat.reduceAdd, Nat.reduceBEq, upd_lit, sel_new, sel_dep d7, sel_of d7]
        try with_reducible rfl
    · as_aux_lemma =>
        rintro l a wr ⟨ha, hO⟩ hc hl hd K' hK
        have d7 := hd 7 (by decide)
        have d8 := hd 8 (by decide)
        have hx := X54.out; subst hx
        have hx := X55.out; subst hx
        have hx := X56.out; subst hx
        simp only [fill_eq, List.take_succ_cons, List.take_zero, List.cons_append, List.nil_append, Act.put, List.setIfInBounds_toArray, List.set_cons_zero, List.set_cons_succ, sel_of d7, sel_of d8] at ha
        subst ha
        rw [if_pos (by rfl)]
        go_simp
        refine (FSQ.out wr hO).mono ?_
        rintro e w1 ⟨rfl, hOW⟩
        go_wp2_with fail
        refine Shut.out hK _ _ ⟨?_, (hO.trans hOW (fun _ _ c => c))⟩
        simp only [fill_eq, List.take_succ_cons, List.take_zero, List.cons_append, List.nil_append, Act.put, List.setIfInBounds_toArray, List.set_cons_zero, List.set_cons_succ, Nat.reduceAdd, Nat.reduceBEq, upd_lit, sel_new, sel_dep d7, sel_of d7, sel_dep d8, sel_of d8]
        try with_reducible rfl
    · as_aux_lemma =>
        rintro l a wr ⟨ha, hO⟩ hc hl hd K' hK
        have d7 := hd 7 (by decide)
        have hx := X54.out; subst hx
        have hx := X57.out; subst hx
        simp only [fill_eq, List.take_succ_cons, List.take_zero, List.cons_append, List.nil_append, Act.put, List.setIfInBounds_toArray, List.set_cons_zero, List.set_cons_succ, sel_of d7] at ha
        subst ha
        rw [if_pos (by rfl)]
        go_simp
        refine Shut.out hK _ _ ⟨?_, hO⟩
        simp only [fill_eq, List.take_succ_cons, List.take_zero, List.cons_append, List.nil_append, Act.put, List.setIfInBounds_toArray, List.set_cons_zero, List.set_cons_succ, Nat.reduceAdd, Nat.reduceBEq, upd_lit, sel_new, sel_dep d7, sel_of d7]
        try with_reducible rfl
    · as_aux_lemma =>
        rintro l a wr ⟨ha, hO⟩ hc hl hd K' hK
        have d7 := hd 7 (by decide)
        have d10 := hd 10 (by decide)
        have hx := X54.out; subst hx
        have hx := X57.out; subst hx
        have hx := X58.out; subst hx
        simp only [fill_eq, List.take_succ_cons, List.take_zero, List.cons_append, List.nil_append, Act.put, List.setIfInBounds_toArray, List.set_cons_zero, List.set_cons_succ, sel_of d7, sel_of d10] at ha
        subst ha
        rw [if_pos (by rfl)]
        go_simp
        refine (FRA.out wr hO).mono ?_
        rintro e w1 ⟨rfl, hOW⟩
        go_wp2_with fail
        refine Shut.out hK _ _ ⟨?_, (hO.trans hOW (fun _ _ c => c))⟩
        simp only [fill_eq, List.take_succ_cons, List.take_zero, List.cons_append, List.nil_append, Act.put, List.setIfInBounds_toArray, List.set_cons_zero, List.set_cons_succ, Nat.reduceAdd, Nat.reduceBEq, upd_lit, sel_new, sel_dep d7, sel_of d7, sel_dep d10, sel_of d10]
        try with_reducible rfl
    · as_aux_lemma =>
        rintro l a wr ⟨ha, hO⟩ hc hl hd K' hK
        have d7 := hd 7 (by decide)
        have d9 := hd 9 (by decide)
        have d11 := hd 11 (by decide)
        have hx := X54.out; subst hx
        have hx := X56.out; subst hx
        have hx := X58.out; subst hx
        have hx := X59.out; subst hx
        simp only [fill_eq, List.take_succ_cons, List.take_zero, List.cons_append, List.nil_append, Act.put, List.setIfInBounds_toArray, List.set_cons_zero, List.set_cons_succ, sel_of d7, sel_of d9, sel_of d11] at ha
        subst ha
        rw [if_pos (by rfl)]
        go_simp
        refine Shut.out hK _ _ ⟨?_, hO⟩
        simp only [fill_eq, List.take_succ_cons, List.take_zero, List.cons_append, List.nil_append, Act.put, List.setIfInBounds_toArray, List.set_cons_zero, List.set_cons_succ, Nat.reduceAdd, Nat.reduceBEq, upd_lit, sel_new, sel_dep d7, sel_of d7, sel_dep d9, sel_of d9, sel_dep d11, sel_of d11]
        try with_reducible rfl
    · as_aux_lemma =>
        rintro l a wr ⟨ha, hO⟩ hc hl hd K' hK
        have d7 := hd 7 (by decide)
        have d12 := hd 12 (by decide)
        have hx := X54.out; subst hx
        have hx := X59.out; subst hx
        have hx := X60.out; subst hx
        simp only [fill_eq, List.take_succ_cons, List.take_zero, List.cons_append, List.nil_append, Act.put, List.setIfInBounds_toArray, List.set_cons_zero, List.set_cons_succ, sel_of d7, sel_of d12] at ha
        subst ha
        rw [if_pos (by rfl)]
        go_simp
        refine Shut.out hK _ _ ⟨?_, hO⟩
        simp only [fill_eq, List.take_succ_cons, List.take_zero, List.cons_append, List.nil_append, Act.put, List.setIfInBounds_toArray, List.set_cons_zero, List.set_cons_succ, Nat.reduceAdd, Nat.reduceBEq, upd_lit, sel_new, sel_dep d7, sel_of d7, sel_dep d12, sel_of d12]
        try with_reducible rfl
    · as_aux_lemma =>
        rintro l a wr ⟨ha, hO⟩ hc hl hd K' hK
        have d13 := hd 13 (by decide)
        have hx := X60.out; subst hx
        have hx := X61.out; subst hx
        simp only [fill_eq, List.take_succ_cons, List.take_zero, List.cons_append, List.nil_append, Act.put, List.setIfInBounds_toArray, List.set_cons_zero, List.set_cons_succ, sel_of d13] at ha
        subst ha
        rw [if_pos (by rfl)]
        go_simp
        refine Shut.out hK _ _ ⟨?_, hO⟩
        simp only [fill_eq, List.take_succ_cons, List.take_zero, List.cons_append, List.nil_append, Act.put, List.setIfInBounds_toArray, List.set_cons_zero, List.set_cons_succ, Nat.reduceAdd, Nat.reduceBEq, upd_lit, sel_new, sel_dep d13, sel_of d13]
        try with_reducible rfl
    · as_aux_lemma =>
        rintro l a wr ⟨ha, hO⟩ hc hl hd K' hK
        have d14 := hd 14 (by decide)
        have hx := X61.out; subst hx
        have hx := X62.out; subst hx
        simp only [fill_eq, List.take_succ_cons, List.take_zero, List.cons_append, List.nil_append, Act.put, List.setIfInBounds_toArray, List.set_cons_zero, List.set_cons_succ, sel_of d14] at ha
        subst ha
        rw [if_pos (by rfl)]
        go_simp
        refine Shut.out hK _ _ ⟨?_, hO⟩
        simp only [fill_eq, List.take_succ_cons, List.take_zero, List.cons_append, List.nil_append, Act.put, List.setIfInBounds_toArray, List.set_cons_zero, List.set_cons_succ, Nat.reduceAdd, Nat.reduceBEq, upd_lit, sel_new, sel_dep d14, sel_of d14]
        try with_reducible rfl
    · as_aux_lemma =>
        rintro l a wr ⟨ha, hO⟩ hc hl hd K' hK
        have d14 := hd 14 (by decide)
        have d15 := hd 15 (by decide)
        have hx := X61.out; subst hx
        have hx := X62.out; subst hx
        have hx := X63.out; subst hx
        simp only [fill_eq, List.take_succ_cons, List.take_zero, List.cons_append, List.nil_append, Act.put, List.setIfInBounds_toArray, List.set_cons_zero, List.set_cons_succ, sel_of d14, sel_of d15] at ha
        subst ha
        rw [if_pos (by rfl)]
        go_simp
        refine (FL1.out wr hO).mono ?_
        rintro e w1 ⟨rfl, hOW⟩
        go_wp2_with fail
        refine Shut.out hK _ _ ⟨?_, (hO.trans hOW (fun _ _ c => c))⟩
        simp only [fill_eq, List.take_succ_cons, List.take_zero, List.cons_append, List.nil_append, Act.put, List.setIfInBounds_toArray, List.set_cons_zero, List.set_cons_succ, Nat.reduceAdd, Nat.reduceBEq, upd_lit, sel_new, sel_dep d14, sel_of d14, sel_dep d15, sel_of d15]
        try with_reducible rfl
    · as_aux_lemma =>
        rintro l a wr ⟨ha, hO⟩ hc hl hd K' hK
        have d14 := hd 14 (by decide)
        have hx := X61.out; subst hx
        have hx := X64.out; subst hx
        simp only [fill_eq, List.take_succ_cons, List.take_zero, List.cons_append, List.nil_append, Act.put, List.setIfInBounds_toArray, List.set_cons_zero, List.set_cons_succ, sel_of d14] at ha
        subst ha
        rw [if_pos (by rfl)]
        go_simp
        refine Shut.out hK _ _ ⟨?_, hO⟩
        simp only [fill_eq, List.take_succ_cons, List.take_zero, List.cons_append, List.nil_append, Act.put, List.setIfInBounds_toArray, List.set_cons_zero, List.set_cons_succ, Nat.reduceAdd, Nat.reduceBEq, upd_lit, sel_new, sel_dep d14, sel_of d14]
        try with_reducible rfl
    · as_aux_lemma =>
        rintro l a wr ⟨ha, hO⟩ hc hl hd K' hK
        have d14 := hd 14 (by decide)
        have d17 := hd 17 (by decide)
        have hx := X61.out; subst hx
        have hx := X64.out; subst hx
        have hx := X65.out; subst hx
        simp only [fill_eq, List.take_succ_cons, List.take_zero, List.cons_append, List.nil_append, Act.put, List.setIfInBounds_toArray, List.set_cons_zero, List.set_cons_succ, sel_of d14, sel_of d17] at ha
        subst ha
        rw [if_pos (by rfl)]
        go_simp
        refine Shut.out hK _ _ ⟨?_, hO⟩
        simp only [fill_eq, List.take_succ_cons, List.take_zero, List.cons_append, List.nil_append, Act.put, List.setIfInBounds_toArray, List.set_cons_zero, List.set_cons_succ, Nat.reduceAdd, Nat.reduceBEq, upd_lit, sel_new, sel_dep d14, sel_of d14, sel_dep d17, sel_of d17]
        try with_reducible rfl
    · as_aux_lemma =>
        rintro l a wr ⟨ha, hO⟩ hc hl hd K' hK
        have d14 := hd 14 (by decide)
        have hx := X61.out; subst hx
        have hx := X66.out; subst hx
        simp only [fill_eq, List.take_succ_cons, List.take_zero, List.cons_append, List.nil_append, Act.put, List.setIfInBounds_toArray, List.set_cons_zero, List.set_cons_succ, sel_of d14] at ha
        subst ha
        rw [if_pos (by rfl)]
        go_simp
        refine Shut.out hK _ _ ⟨?_, hO⟩
        simp only [fill_eq, List.take_succ_cons, List.take_zero, List.cons_append, List.nil_append, Act.put, List.setIfInBounds_toArray, List.set_cons_zero, List.set_cons_succ, Nat.reduceAdd, Nat.reduceBEq, upd_lit, sel_new, sel_dep d14, sel_of d14]
        try with_reducible rfl
    · as_aux_lemma =>
        rintro l a wr ⟨ha, hO⟩ hc hl hd K' hK
        have d14 := hd 14 (by decide)
        have d19 := hd 19 (by decide)
        have hx := X61.out; subst hx
        have hx := X66.out; subst hx
        have hx := X67.out; subst hx
        simp only [fill_eq, List.take_succ_cons, List.take_zero, List.cons_append, List.nil_append, Act.put, List.setIfInBounds_toArray, List.set_cons_zero, List.set_cons_succ, sel_of d14, sel_of d19] at ha
        subst ha
        rw [if_pos (by rfl)]
        go_simp
        refine Shut.out hK _ _ ⟨?_, hO⟩
        simp only [fill_eq, List.take_succ_cons, List.take_zero, List.cons_append, List.nil_append, Act.put, List.setIfInBounds_toArray, List.set_cons_zero, List.set_cons_succ, Nat.reduceAdd, Nat.reduceBEq, upd_lit, sel_new, sel_dep d14, sel_of d14, sel_dep d19, sel_of d19]
        try with_reducible rfl
    · as_aux_lemma =>
        rintro l a wr ⟨ha, hO⟩ hc hl hd K' hK
        have d14 := hd 14 (by decide)
        have d20 := hd 20 (by decide)
        have hx := X61.out; subst hx
        have hx := X67.out; subst hx
        have hx := X68.out; subst hx
        simp only [fill_eq, List.take_succ_cons, List.take_zero, List.cons_append, List.nil_append, Act.put, List.setIfInBounds_toArray, List.set_cons_zero, List.set_cons_succ, sel_of d14, sel_of d20] at ha
        subst ha
        rw [if_pos (by rfl)]
        go_simp
        refine Shut.out hK _ _ ⟨?_, hO⟩
        simp only [fill_eq, List.take_succ_cons, List.take_zero, List.cons_append, List.nil_append, Act.put, List.setIfInBounds_toArray, List.set_cons_zero, List.set_cons_succ, Nat.reduceAdd, Nat.reduceBEq, upd_lit, sel_new, sel_dep d14, sel_of d14, sel_dep d20, sel_of d20]
        try with_reducible rfl
    · as_aux_lemma =>
        rintro l a wr ⟨ha, hO⟩ hc hl hd K' hK
        have d14 := hd 14 (by decide)
        have d18 := hd 18 (by decide)
        have d21 := hd 21 (by decide)
        have hx := X61.out; subst hx
        have hx := X65.out; subst hx
        have hx := X68.out; subst hx
        have hx := X69.out; subst hx
        simp only [fill_eq, List.take_succ_cons, List.take_zero, List.cons_append, List.nil_append, Act.put, List.setIfInBounds_toArray, List.set_cons_zero, List.set_cons_succ, sel_of d14, sel_of d18, sel_of d21] at ha
        subst ha
        rw [if_pos (by rfl)]
        go_simp
        refine Shut.out hK _ _ ⟨?_, hO⟩
        simp only [fill_eq, List.take_succ_cons, List.take_zero, List.cons_append, List.nil_append, Act.put, List.setIfInBounds_toArray, List.set_cons_zero, List.set_cons_succ, Nat.reduceAdd, Nat.reduceBEq, upd_lit, sel_new, sel_dep d14, sel_of d14, sel_dep d18, sel_of d18, sel_dep d21, sel_of d21]
        try with_reducible rfl
    · as_aux_lemma =>
        rintro l a wr ⟨ha, hO⟩ hc hl hd K' hK
        have d14 := hd 14 (by decide)
        have d16 := hd 16 (by decide)
        have d22 := hd 22 (by decide)
        have hx := X61.out; subst hx
        have hx := X63.out; subst hx
        have hx := X69.out; subst hx
        have hx := X70.out; subst hx
        simp only [fill_eq, List.take_succ_cons, List.take_zero, List.cons_append, List.nil_append, Act.put, List.setIfInBounds_toArray, List.set_cons_zero, List.set_cons_succ, sel_of d14, sel_of d16, sel_of d22] at ha
        subst ha
        rw [if_pos (by rfl)]
        go_simp
        refine Shut.out hK _ _ ⟨?_, hO⟩
        simp only [fill_eq, List.take_succ_cons, List.take_zero, List.cons_append, List.nil_append, Act.put, List.setIfInBounds_toArray, List.set_cons_zero, List.set_cons_succ, Nat.reduceAdd, Nat.reduceBEq, upd_lit, sel_new, sel_dep d14, sel_of d14, sel_dep d16, sel_of d16, sel_dep d22, sel_of d22]
        try with_reducible rfl
    · as_aux_lemma =>
        rintro l a wr ⟨ha, hO⟩ hc hl hd K' hK
        have d14 := hd 14 (by decide)
        have d23 := hd 23 (by decide)
        have hx := X61.out; subst hx
        have hx := X70.out; subst hx
        have hx := X71.out; subst hx
        simp only [fill_eq, List.take_succ_cons, List.take_zero, List.cons_append, List.nil_append, Act.put, List.setIfInBounds_toArray, List.set_cons_zero, List.set_cons_succ, sel_of d14, sel_of d23] at ha
        subst ha
        rw [if_pos (by rfl)]
        go_simp
        refine Shut.out hK _ _ ⟨?_, hO⟩
        simp only [fill_eq, List.take_succ_cons, List.take_zero, List.cons_append, List.nil_append, Act.put, List.setIfInBounds_toArray, List.set_cons_zero, List.set_cons_succ, Nat.reduceAdd, Nat.reduceBEq, upd_lit, sel_new, sel_dep d14, sel_of d14, sel_dep d23, sel_of d23]
        try with_reducible rfl
    · as_aux_lemma =>
        rintro l a wr ⟨ha, hO⟩ hc hl hd K' hK
        have d24 := hd 24 (by decide)
        have hx := X71.out; subst hx
        have hx := X72.out; subst hx
        simp only [fill_eq, List.take_succ_cons, List.take_zero, List.cons_append, List.nil_append, Act.put, List.setIfInBounds_toArray, List.set_cons_zero, List.set_cons_succ, sel_of d24] at ha
        subst ha
        rw [if_pos (by rfl)]
        go_simp
        refine Shut.out hK _ _ ⟨?_, hO⟩
        simp only [fill_eq, List.take_succ_cons, List.take_zero, List.cons_append, List.nil_append, Act.put, List.setIfInBounds_toArray, List.set_cons_zero, List.set_cons_succ, Nat.reduceAdd, Nat.reduceBEq, upd_lit, sel_new, sel_dep d24, sel_of d24]
        try with_reducible rfl
    · as_aux_lemma =>
        rintro l a wr ⟨ha, hO⟩ hc hl hd K' hK
        have d25 := hd 25 (by decide)
        have hx := X72.out; subst hx
        have hx := X73.out; subst hx
        simp only [fill_eq, List.take_succ_cons, List.take_zero, List.cons_append, List.nil_append, Act.put, List.setIfInBounds_toArray, List.set_cons_zero, List.set_cons_succ, sel_of d25] at ha
        subst ha
        rw [if_pos (by rfl)]
        go_simp
        refine Shut.out hK _ _ ⟨?_, hO⟩
        simp only [fill_eq, List.take_succ_cons, List.take_zero, List.cons_append, List.nil_append, Act.put, List.setIfInBounds_toArray, List.set_cons_zero, List.set_cons_succ, Nat.reduceAdd, Nat.reduceBEq, upd_lit, sel_new, sel_dep d25, sel_of d25]
        try with_reducible rfl
    · as_aux_lemma =>
        rintro l a wr ⟨ha, hO⟩ hc hl hd K' hK
        have d25 := hd 25 (by decide)
        have d26 := hd 26 (by decide)
        have hx := X72.out; subst hx
        have hx := X73.out; subst hx
        have hx := X74.out; subst hx
        simp only [fill_eq, List.take_succ_cons, List.take_zero, List.cons_append, List.nil_append, Act.put, List.setIfInBounds_toArray, List.set_cons_zero, List.set_cons_succ, sel_of d25, sel_of d26] at ha
        subst ha
        rw [if_pos (by rfl)]
        go_simp
        refine (FL2.out wr hO).mono ?_
        rintro e w1 ⟨rfl, hOW⟩
        go_wp2_with fail
        refine Shut.out hK _ _ ⟨?_, (hO.trans hOW (fun _ _ c => c))⟩
        simp only [fill_eq, List.take_succ_cons, List.take_zero, List.cons_append, List.nil_append, Act.put, List.setIfInBounds_toArray, List.set_cons_zero, List.set_cons_succ, Nat.reduceAdd, Nat.reduceBEq, upd_lit, sel_new, sel_dep d25, sel_of d25, sel_dep d26, sel_of d26]
        try with_reducible rfl
    · as_aux_lemma =>
        rintro l a wr ⟨ha, hO⟩ hc hl hd K' hK
        have d25 := hd 25 (by decide)
        have hx := X72.out; subst hx
        have hx := X75.out; subst hx
        simp only [fill_eq, List.take_succ_cons, List.take_zero, List.cons_append, List.nil_append, Act.put, List.setIfInBounds_toArray, List.set_cons_zero, List.set_cons_succ, sel_of d25] at ha
        subst ha
        rw [if_pos (by rfl)]
        go_simp
        refine Shut.out hK _ _ ⟨?_, hO⟩
        simp only [fill_eq, List.take_succ_cons, List.take_zero, List.cons_append, List.nil_append, Act.put, List.setIfInBounds_toArray, List.set_cons_zero, List.set_cons_succ, Nat.reduceAdd, Nat.reduceBEq, upd_lit, sel_new, sel_dep d25, sel_of d25]
        try with_reducible rfl
    · as_aux_lemma =>
        rintro l a wr ⟨ha, hO⟩ hc hl hd K' hK
        have d25 := hd 25 (by decide)
        have d28 := hd 28 (by decide)
        have hx := X72.out; subst hx
        have hx := X75.out; subst hx
        have hx := X76.out; subst hx
        simp only [fill_eq, List.take_succ_cons, List.take_zero, List.cons_append, List.nil_append, Act.put, List.setIfInBounds_toArray, List.set_cons_zero, List.set_cons_succ, sel_of d25, sel_of d28] at ha
        subst ha
        rw [if_pos (by rfl)]
        go_simp
        refine Shut.out hK _ _ ⟨?_, hO⟩
        simp only [fill_eq, List.take_succ_cons, List.take_zero, List.cons_append, List.nil_append, Act.put, List.setIfInBounds_toArray, List.set_cons_zero, List.set_cons_succ, Nat.reduceAdd, Nat.reduceBEq, upd_lit, sel_new, sel_dep d25, sel_of d25, sel_dep d28, sel_of d28]
        try with_reducible rfl
    · as_aux_lemma =>
        rintro l a wr ⟨ha, hO⟩ hc hl hd K' hK
        have d25 := hd 25 (by decide)
        have d27 := hd 27 (by decide)
        have d29 := hd 29 (by decide)
        have hx := X72.out; subst hx
        have hx := X74.out; subst hx
        have hx := X76.out; subst hx
        have hx := X77.out; subst hx
        simp only [fill_eq, List.take_succ_cons, List.take_zero, List.cons_append, List.nil_append, Act.put, List.setIfInBounds_toArray, List.set_cons_zero, List.set_cons_succ, sel_of d25, sel_of d27, sel_of d29] at ha
        subst ha
        rw [if_pos (by rfl)]
        go_simp
        refine Shut.out hK _ _ ⟨?_, hO⟩
        simp only [fill_eq, List.take_succ_cons, List.take_zero, List.cons_append, List.nil_append, Act.put, List.setIfInBounds_toArray, List.set_cons_zero, List.set_cons_succ, Nat.reduceAdd, Nat.reduceBEq, upd_lit, sel_new, sel_dep d25, sel_of d25, sel_dep d27, sel_of d27, sel_dep d29, sel_of d29]
        try with_reducible rfl
    · as_aux_lemma =>
        rintro l a wr ⟨ha, hO⟩ hc hl hd K' hK
        have d25 := hd 25 (by decide)
        have d30 := hd 30 (by decide)
        have hx := X72.out; subst hx
        have hx := X77.out; subst hx
        have hx := X78.out; subst hx
        simp only [fill_eq, List.take_succ_cons, List.take_zero, List.cons_append, List.nil_append, Act.put, List.setIfInBounds_toArray, List.set_cons_zero, List.set_cons_succ, sel_of d25, sel_of d30] at ha
        subst ha
        rw [if_pos (by rfl)]
        go_simp
        refine Shut.out hK _ _ ⟨?_, hO⟩
        simp only [fill_eq, List.take_succ_cons, List.take_zero, List.cons_append, List.nil_append, Act.put, List.setIfInBounds_toArray, List.set_cons_zero, List.set_cons_succ, Nat.reduceAdd, Nat.reduceBEq, upd_lit, sel_new, sel_dep d25, sel_of d25, sel_dep d30, sel_of d30]
        try with_reducible rfl
    · as_aux_lemma =>
        rintro l a wr ⟨ha, hO⟩ hc hl hd K' hK
        have d31 := hd 31 (by decide)
        have hx := X78.out; subst hx
        have hx := X4.out; subst hx
        simp only [fill_eq, List.take_succ_cons, List.take_zero, List.cons_append, List.nil_append, Act.put, List.setIfInBounds_toArray, List.set_cons_zero, List.set_cons_succ, sel_of d31] at ha
        subst ha
        rw [if_pos (by rfl)]
        go_simp
        refine Shut.out hK _ _ ⟨?_, hO⟩
        simp only [fill_eq, List.take_succ_cons, List.take_zero, List.cons_append, List.nil_append, Act.put, List.setIfInBounds_toArray, List.set_cons_zero, List.set_cons_succ, Nat.reduceAdd, Nat.reduceBEq, upd_lit, sel_new, sel_dep d31, sel_of d31]
        try with_reducible rfl
    · rintro l a wc ⟨ha, hO⟩ hd
      simp only [fill_eq, List.take_succ_cons, List.take_zero, List.cons_append, List.nil_append, Act.put, List.setIfInBounds_toArray, List.set_cons_zero, List.set_cons_succ, sel_of (hd 0 (by decide)), sel_of (hd 1 (by decide)), sel_of (hd 2 (by decide)), sel_of (hd 3 (by decide)), sel_of (hd 4 (by decide)), sel_of (hd 5 (by decide)), sel_of (hd 6 (by decide)), sel_of (hd 7 (by decide)), sel_of (hd 8 (by decide)), sel_of (hd 9 (by decide)), sel_of (hd 10 (by decide)), sel_of (hd 11 (by decide)), sel_of (hd 12 (by decide)), sel_of (hd 13 (by decide)), sel_of (hd 14 (by decide)), sel_of (hd 15 (by decide)), sel_of (hd 16 (by decide)), sel_of (hd 17 (by decide)), sel_of (hd 18 (by decide)), sel_of (hd 19 (by decide)), sel_of (hd 20 (by decide)), sel_of (hd 21 (by decide)), sel_of (hd 22 (by decide)), sel_of (hd 23 (by decide)), sel_of (hd 24 (by decide)), sel_of (hd 25 (by decide)), sel_of (hd 26 (by decide)), sel_of (hd 27 (by decide)), sel_of (hd 28 (by decide)), sel_of (hd 29 (by decide)), sel_of (hd 30 (by decide)), sel_of (hd 31 (by decide)), sel_of (hd 32 (by decide))] at ha
      subst ha
      have HOe := Lib.hid (HOq.out.trans hO (fun _ _ c => c))
      have hx := X4.out
      subst hx
      clear hO hd
      go_wp2_with fail
      go_ret
      exact ⟨rfl, HOe.out⟩

theorem door_met (os : Os) (args : Array Value) : laidMetH Tryd.prog [("sharecore/sha.constants", Rows.laid_sharecore_sha_constants), ("sharecore/sha.initial", Rows.laid_sharecore_sha_initial)] ((World.doorLaid Tryd.prog 400 os).forCall (fun _ _ => 0) ⟨#[], args, []⟩).memory :=
  laidMetH_of_parts3 (fuel := 8) (laidMet_of_run' 8 (by kernel_rfl) (by kernel_rfl)) (by kernel_rfl) (by kernel_rfl)

set_option maxRecDepth 100000 in
theorem lifted (os : Os) (started : os.Started) (H : Type) (enc : TypeId × Value → H) :
    ReturnsInHanded {} Tryd.checked os 6 .any (fun w args => (Rows.shaClonesSpec.pre enc Tryd.prog Tryd.f6 [] false w args ∧ laidMetH Tryd.prog [("sharecore/sha.constants", Rows.laid_sharecore_sha_constants), ("sharecore/sha.initial", Rows.laid_sharecore_sha_initial)] w) ∧ sizedMet enc Tryd.prog Tryd.f6 (OpenSpec.ofChange Rows.shaClonesSpec) false w args)
      (Rows.shaClonesSpec.post enc Tryd.prog Tryd.f6 false true false false) := by
  refine returnsInHanded_of_change_and (C := Tryd.checked) (X := fun w _ => laidMetH Tryd.prog [("sharecore/sha.constants", Rows.laid_sharecore_sha_constants), ("sharecore/sha.initial", Rows.laid_sharecore_sha_initial)] w) (fun _ _ _ hh h => h.of_heap hh) own started (by kernel_rfl) Tryd.func6
    (ChangeSpec.witness_shaped (enc := enc) (C := Tryd.checked) (os := os) (X := fun w _ => laidMetH Tryd.prog [("sharecore/sha.constants", Rows.laid_sharecore_sha_constants), ("sharecore/sha.initial", Rows.laid_sharecore_sha_initial)] w) false (World.doorLaid Tryd.prog 400 os) #[.slice none 0 0, .slice none 0 0] 8 rfl (World.shaped_of_RefB (by kernel_rfl) (by kernel_rfl)) (by kernel_rfl) (by kernel_rfl) (by kernel_rfl) (door_met os _)) ?_
  intro W base args ds gs before hval0 hW _ hsz hL _
  have hval : ∀ (j : Nat) t v, Tryd.f6.params[j]? = some t → args[j]? = some v → Value.okWide Tryd.prog W .any base t v := hval0
  have hW' := hW
  obtain ⟨p, q, hA0, hV, rfl, hfz, hnd⟩ := hW
  have hA : DataW.TrodAll enc Tryd.prog W 0 (fun _ => true) true Tryd.f6.params.toList args.toList ds p := hA0
  rw [Tryd.params6] at hA hval
  obtain ⟨v0, vs0, d0, ds0, p0, q0, hargs, rfl, rfl, h0, r0⟩ := trodAll_cons hA
  obtain ⟨v1, vs1, d1, ds1, p1, q1, rfl, rfl, rfl, h1, r1⟩ := trodAll_cons r0
  obtain ⟨rfl, rfl, rfl⟩ := trodAll_nil r1
  obtain rfl : args = #[v0, v1] := by cases args; simp_all
  obtain ⟨rfl, rfl⟩ := trodVars_none hV
  obtain ⟨a0, n0, cap0, rfl⟩ := okWide_slice Tryd.underlying22 (hval 0 22 v0 rfl rfl)
  have k0 := h0
  have lt0 : ∀ x ∈ p0, x.block < W.heap.size := by obtain ⟨m, hm⟩ := k0; exact DataW.trod_lt m _ _ _ hm
  obtain ⟨bs0, hn0, hc0, hs0, w0⟩ : ∃ bs, n0 = bs.length ∧ n0 ≤ cap0 ∧ Small bs ∧ BsAt W a0 bs (fun k => k < W.heap.size) := by
    obtain ⟨fuel, hf⟩ := h0
    exact bytes_of_trod hf
  obtain ⟨a1, n1, cap1, rfl⟩ := okWide_slice Tryd.underlying22 (hval 1 22 v1 rfl rfl)
  have k1 := h1
  have lt1 : ∀ x ∈ p1, x.block < W.heap.size := by obtain ⟨m, hm⟩ := k1; exact DataW.trod_lt m _ _ _ hm
  obtain ⟨bs1, hn1, hc1, hs1, w1⟩ : ∃ bs, n1 = bs.length ∧ n1 ≤ cap1 ∧ Small bs ∧ BsAt W a1 bs (fun k => k < W.heap.size) := by
    obtain ⟨fuel, hf⟩ := h1
    exact bytes_of_trod hf
  have hm0 : n0 ≤ reachBytes := by
    obtain ⟨fuel, hf⟩ := k0
    rcases slice_of_trod hf with h0 | ⟨el, sp, hd, hl⟩
    · rw [h0]; exact Nat.zero_le _
    · subst hd
      have h := sized_slice hsz (j := 0) (t := 22) (elems := el) (spare := sp) (by kernel_rfl) rfl Tryd.underlying22
      have hb : Tryd.checked.prog.bytesOf 5 = 1 := by kernel_rfl
      rw [hb] at h; omega
  have hm1 : n1 ≤ reachBytes := by
    obtain ⟨fuel, hf⟩ := k1
    rcases slice_of_trod hf with h0 | ⟨el, sp, hd, hl⟩
    · rw [h0]; exact Nat.zero_le _
    · subst hd
      have h := sized_slice hsz (j := 1) (t := 22) (elems := el) (spare := sp) (by kernel_rfl) rfl Tryd.underlying22
      have hb : Tryd.checked.prog.bytesOf 5 = 1 := by kernel_rfl
      rw [hb] at h; omega
  have hT := tab_of_laid hL
  clear hA0 hval0
  refine (walk a0 n0 cap0 bs0 a1 n1 cap1 bs1 W hm0 hn0 hc0 hs0 w0 hm1 hn1 hc1 hs1 w1 hT).mono fun e W' ⟨he, hoff⟩ => ?_
  have bel : Below W.heap.size W W' := hoff.below (Nat.le_refl _) (fun _ _ c => c)
  subst he
  exact ⟨_, rfl, _, _, _, [], _, [], hW', trodAll_mk1 (shut_bool Tryd.underlying4 _), (trodAll_cons_mk (Below.trod laidOut (by kernel_rfl) (of_decide_eq_true (by kernel_rfl)) k0 bel lt0) (trodAll_cons_mk (Below.trod laidOut (by kernel_rfl) (of_decide_eq_true (by kernel_rfl)) k1 bel lt1) trodAll_mk0)), rfl, bel.frame _, fun h => by cases h⟩

theorem over : Rows.shaClonesRow.holds Tryd.pinned (OpenSpec.ofChange Rows.shaClonesSpec) :=
  OpenClaim.holds_of_wide 6 Tryd.f6 rfl rfl rfl rfl rfl rfl rfl ⟨rfl, rfl, rfl, rfl, rfl⟩ rfl rfl rfl rfl rfl (by kernel_rfl) Tryd.func6 (by kernel_rfl)
    (of_decide_eq_true (by kernel_rfl)) (by unfold Func.isWrapper; first | (rw [if_pos (by decide +kernel)]; kernel_rfl) | (rw [if_neg (by decide +kernel)]; exact ⟨rfl, rfl⟩))
    (fun os started H enc _ => lifted os started H enc)

theorem proved : Rows.ShaClonesCardSaid :=
  Claim7.holds_tied_plain_at .later [] [.data, .data] true (true, "cea195b8e4b1cc889c1d1eca119c860888cfb8d83522847ae16b7d8c1e6b5c42") false
    over (fun _ h => by cases h) (by kernel_rfl) (fun _ h => by cases h) shaClones_row_tie rfl ⟨rfl, rfl⟩ (by kernel_rfl) rfl
    (fun f fn hf hfn => by
      obtain rfl : f = 6 := Option.some.inj ((show Tryd.prog.funcNamed "sharecore/sharecorelaw12.ShaClones" = some 6 by kernel_rfl).symm.trans hf) |>.symm
      obtain rfl : fn = Tryd.f6 := (Option.some.inj (Tryd.func6.symm.trans hfn)).symm
      exact ⟨by kernel_rfl, fun j t ht => by
        rw [Tryd.params6] at ht
        have hm : t ∈ [22] := by simpa using Array.mem_of_getElem? ht
        have hall : ([22].all fun u => !Tryd.prog.wantsStandIn u) = true := by kernel_rfl
        exact (show Tryd.prog.wantsStandIn t = false by simpa using List.all_eq_true.1 hall t hm)⟩)
    (by kernel_rfl)
#print axioms proved
end Go.Proofs.YthjfhgnmaepafaaDoor.shaClones
