/-
  For all bytes, the examples of the chapter hold, and later changes of the bytes and of taken bytes change neither the source nor what is taken later: the statement of P14.1 and P14.2. No condition.
-/
import Derived.Test.YtpiialjnjfkfeaaDoorRows
import Derived.Test.YtpiialjnjfkfeaaDoorTie
import Derived.Test.YtpiialjnjfkfeaaDoorCards
import Derived.LaidMore
import Derived.LaidHandle
import Derived.SevenTiedAt
import Derived.Stop.Joined
import Derived.JoinedOf
import Derived.Test.YtpiialjnjfkfeaaDoorLimbOpen
import Derived.Test.YtpiialjnjfkfeaaDoorFieldTab
import Derived.Test.YtpiialjnjfkfeaaDoorFieldHeld
import Derived.Test.YtpiialjnjfkfeaaDoorBytOpen
import Derived.Test.YtpiialjnjfkfeaaDoorSrcAlive
import Derived.Test.YtpiialjnjfkfeaaDoorInvSel
import Derived.WalkKit
import Derived.ProofKit
import Derived.OpenShut
import Derived.ShutString
import Derived.ChangeOld
import Derived.Below
namespace Go.Proofs.YtpiialjnjfkfeaaDoor.sourceCopies
open Go.ChangeShapes Go.WideShapes Go.ChangeAt Go.RowKit
set_option linter.unusedVariables false

theorem own : ownKnob Tryd.prog.godebug = none := by kernel_rfl
theorem laidOut : laidOutB Tryd.prog = true := by kernel_rfl

theorem app_own {W : World} {B : Nat} {v : Value} {xs ys : List Nat} (hB : B ≤ W.heap.size) (h1 : RowY B W v xs) {a : Option Addr} {n cap : Nat} {S : Nat → Prop} (h2 : BsAt W a ys S) (hn : n = ys.length) (hp : 0 < n) (hk : xs.length + n ≤ 100000) :
    ∃ v' w', (Builtin.append_ #[22, 22] 22 #[v, .slice a n cap]).run Tryd.prog W = .ok v' w' ∧ RowY B w' v' (xs ++ ys) ∧ Off (fun j => v.ownBlock = some j) W w' := by
  obtain ⟨i0, hi, hz0, hz1, hz2⟩ := info_parts byte_info
  obtain ⟨b, off, rfl, _, hc⟩ := h2 (by omega)
  obtain ⟨v', w', hr, ho, hg, _, hb⟩ := run_append_own_at (P := Tryd.prog) W B 22 22 5 i0 _ 1 1 Tryd.underlying22 hi hz0 hz1 hz2 rfl (by decide) v xs.length _ h1 ⟨b, off, none⟩ n cap (ys.map u8v) (by rw [List.length_map]; omega) (fun j u hu => by
    rw [List.getElem?_map] at hu
    obtain ⟨y, hy, rfl⟩ := Option.map_eq_some_iff.1 hu
    rw [Addr.add_lit]; exact hc j y hy) (fun u hu => by
    obtain ⟨y, _, rfl⟩ := List.mem_map.1 hu
    rfl) (by unfold maxLen; omega) (by omega) hB
  refine ⟨v', w', hr, ?_, (Off.refl _ W).grown hg (fun j ej => ⟨fun _ => ej, fun o ho => ?_⟩)⟩
  · unfold RowY RowT
    rw [List.map_append, List.length_append, ← hn]
    exact ho
  · rcases h1.2 with ⟨rfl, _⟩ | ⟨g, cap, cur, rfl, _, hgb, _⟩
    · simp [Value.ownBlock] at ej
    · obtain rfl : g = j := by simpa [Value.ownBlock] using ej
      rw [hgb] at ho; cases ho; rfl
theorem wf_sm {d : Nat} (h : d ≤ 100000) : (Lit.int .i64 (d : Int)).wf = true := by
  simp [Lit.wf, IntKind.min, IntKind.max, IntKind.signed, IntKind.bits]
  omega
set_option maxRecDepth 100000 in
set_option maxHeartbeats 4000000 in
theorem walk (a0 : Option Addr) (n0 cap0 : Nat) (bs0 : List Nat) (w : World) (hn0 : n0 = bs0.length) (hc0 : n0 ≤ cap0) (hs0 : Small bs0) (w0 : BsAt w a0 bs0 (fun k => k < w.heap.size)) (hT : TabAt w) :
    Calls Tryd.prog 7 #[.slice a0 n0 cap0] w fun e w' => e = .returned (.bool true) ∧ Off (fun _ => False) w w' := by
  have FAL : Hid (∀ W, TabAt W → Calls Tryd.prog 9 #[] W fun e w' => e = .returned (.bool true) ∧ Off (fun _ => False) W w') := Lib.hid (fun W hT => alive14_any W hT)
  have HT := Lib.hid hT
  clear hT
  by_cases hbig : 2000 < n0
  · have j1 : (2000 : Int) < (n0 : Int) := by omega
    have j2 : decide ((2000 : Int) < (n0 : Int)) = true := by simp; omega
    go_enter Tryd.func7, Tryd.ntmps7
    go_wp2_with fail
    refine (FAL.out _ HT.out).mono ?_
    rintro e u ⟨rfl, hO⟩
    have HOf := Lib.hid hO
    clear hO
    go_wp2
    go_ret
    exact ⟨rfl, HOf.out⟩
  · have j1 : ¬ (2000 : Int) < (n0 : Int) := by omega
    have j2 : decide ((2000 : Int) < (n0 : Int)) = false := by simp; omega
    have FC := Lib.hid (clone_by a0 n0 cap0 bs0 _ w w0 hn0 (by omega))
    have HN0 := Lib.hid (show n0 = bs0.length ∧ n0 ≤ cap0 ∧ n0 ≤ 2000 from ⟨hn0, hc0, by omega⟩)
    have HB0 := Lib.hid w0
    have HSm := Lib.hid hs0
    clear w0 hn0 hc0 hs0 hbig
    go_enter Tryd.func7, Tryd.ntmps7
    go_wp2_with fail
    refine FC.out.mono ?_
    rintro e u1 ⟨v, rfl, hrow, hO⟩
    obtain ⟨a', cap', hv, hcap', hb'⟩ := hrow.at
    rw [← HN0.out.1] at hv hcap'
    have HROW := Lib.hid hrow
    have HO1 := Lib.hid hO
    have FN := Lib.hid (new_any a' n0 cap' bs0 _ u1 hb' HN0.out.1 hcap' HSm.out (by have := HN0.out; omega))
    subst hv
    clear hrow hO hb' hcap' FC
    go_wp2_with fail
    refine FN.out.mono ?_
    rintro e u2 ⟨b1, S1, rfl, hP, hS, hO⟩
    have HP2 := Lib.hid hP
    have HS1 := Lib.hid (show (∀ j, S1 j → u1.heap.size ≤ j) ∧ S1 b1 from ⟨hS, hP.mem⟩)
    have HR2 := Lib.hid (RowT.off HROW.out hO (fun _ _ c => c))
    have HG0 := Lib.hid (show w.heap.size ≤ u1.heap.size from HO1.out.size)
    have HG2 := Lib.hid (fun k (hk : (Value.slice a' n0 cap').ownBlock = some k) => (World.ownsRow.lt HROW.out k hk).2)
    have HO2 := Lib.hid (HO1.out.trans hO (fun _ _ c => c))
    clear hP hS hO FN HROW HO1
    go_wp2_with fail
    go_loopw [23] (fun i wr => ∃ t : Nat, t ≤ n0 ∧ i = .int .i64 (t : Int) ∧ (∃ cs, cs.length = n0 ∧ RowY w.heap.size wr (.slice a' n0 cap') cs) ∧ SrcP wr b1 bs0 S1 ∧ Off (fun _ => False) w wr) (fun i _ => n0 - (intOf i).toNat)
    case atStart => exact ⟨0, Nat.zero_le _, rfl, ⟨bs0, HN0.out.1.symm, HR2.out⟩, HP2.out, HO2.out⟩
    case round =>
      obtain ⟨t, ht, rfl, ⟨cs, hcl, hr⟩, hP, hO⟩ := hrel
      by_cases hlt : t < n0
      · have k1 : decide ((t : Int) < (n0 : Int)) = true := by simp; omega
        have k2 : (t : Int) < (n0 : Int) := by omega
        have k3 : IntKind.i64.wrap ((t : Int) + 1) = ((t + 1 : Nat) : Int) := by rw [IntKind.wrap_i64]; have := HN0.out; omega
        obtain ⟨g, cap2, hv, _, hB0, hg, hxs⟩ := hr.form (by omega)
        rw [hcl] at hv
        cases hv
        obtain ⟨x, hx⟩ : ∃ x, cs[t]? = some x := ⟨_, List.getElem?_eq_getElem (by omega)⟩
        have hc := hxs t x hx
        have hr' := hr
        unfold RowY RowT at hr'
        rw [hcl] at hr'
        have fz := World.ownsRow.frozenAt hr' t
        have hst := (World.ownsRow.stored hr' t (u8v ((x + 1) % 256))).1
        have k4 : IntKind.u8.wrap ((x : Int) + 1) = (((x + 1) % 256 : Nat) : Int) := by rw [IntKind.wrap_u8]; omega
        have HST := Lib.hid (show ∃ cs', cs'.length = n0 ∧ RowY w.heap.size (wr.setCell ⟨g, t, none⟩ (u8v ((x + 1) % 256))) (.slice (some ⟨g, 0, none⟩) n0 cap') cs' from ⟨cs.set t ((x + 1) % 256), by rw [List.length_set, hcl], by
          unfold RowY RowT
          rw [List.map_set, List.length_set, hcl]
          exact hst⟩)
        obtain ⟨z, hz⟩ : ∃ z, z = (x + 1) % 256 := ⟨_, rfl⟩
        rw [← hz] at k4 HST
        have HHn := Lib.hid (hP.off ((Off.refl (fun j => j = g) wr).setCell (p := ⟨g, t, none⟩) (fun _ => rfl) (u8v z)) (fun j _ h1 e => by have := HS1.out.1 j h1; have := HG2.out g rfl; omega))
        have HOn := Lib.hid (hO.setCell (p := ⟨g, t, none⟩) (fun h => by simp at h; omega) (u8v z))
        clear hst hz hr hr' hP hO hxs hx hB0 hcl
        go_wp2_with fail
        go_roundw
        case rel => exact ⟨t + 1, by omega, rfl, HST.out, HHn.out, HOn.out⟩
        case measure => simp [intOf] <;> omega
      · obtain rfl : n0 = t := by omega
        have k1 : decide ((n0 : Int) < (n0 : Int)) = false := by simp
        have hnb := HN0.out
        obtain ⟨h, hh⟩ : ∃ h, h = n0 / 2 := ⟨_, rfl⟩
        have q1 : Int.tdiv (n0 : Int) 2 = (h : Int) := by rw [Int.tdiv_eq_ediv_of_nonneg (by omega)]; omega
        have q2 : IntKind.i64.wrap (h : Int) = (h : Int) := by rw [IntKind.wrap_i64]; omega
        obtain ⟨d, hd0⟩ : ∃ d, d = n0 - h := ⟨_, rfl⟩
        have q3 : IntKind.i64.wrap ((n0 : Int) - (h : Int)) = (d : Int) := by rw [IntKind.wrap_i64]; omega
        have q4 : IntKind.i64.wrap ((h : Int) + 3 - 3) = (h : Int) := by rw [IntKind.wrap_i64]; omega
        have FT := Lib.hid (take_any b1 bs0 S1 (h : Int) (wf_sm (by omega)) wr hP (by omega))
        rw [takeV_ok (show h ≤ bs0.length by omega)] at FT
        have FT2 := Lib.hid (fun (W : World) (hq : SrcP W b1 (bs0.drop h) S1) => take_any b1 (bs0.drop h) S1 (d : Int) (wf_sm (by omega)) W hq (by rw [List.length_drop]; omega))
        rw [takeV_ok (show d ≤ (bs0.drop h).length by rw [List.length_drop]; omega), List.take_of_length_le (show (bs0.drop h).length ≤ d by rw [List.length_drop]; omega)] at FT2
        have HLh := Lib.hid (show h ≤ n0 ∧ (bs0.take h).length = h ∧ (bs0.drop h).length = d ∧ d = n0 - h by rw [List.length_take, List.length_drop]; omega)
        have HPl := Lib.hid (hP.lt)
        have HO3 := Lib.hid hO
        have HSz := Lib.hid (show w.heap.size ≤ wr.heap.size ∧ w.heap.size ≤ b1 from ⟨hO.size, by have := HS1.out.1 b1 HS1.out.2; have := HG0.out; omega⟩)
        have HHh := Lib.hid hh
        clear hP hO hr hcl hh hd0 hnb
        go_wp2_with fail
        try rw [show (n0 : Int) / 2 = (h : Int) by have := HHh.out; omega]
        refine FT.out.mono ?_
        rintro e u3 ⟨xv, rfl, hx3, hP3, hO3⟩
        try dsimp only at hx3 hP3
        have hA : (u3.alloc (.cells #[.int .u8 1, .int .u8 2, .int .u8 3] 5)).heap[u3.heap.size]? = some (.cells (([1, 2, 3] : List Nat).map u8v).toArray 5 (0, 0)) := heap_new' rfl _
        obtain ⟨xw, w5, hrun, hr5, hO5⟩ := app_own (B := wr.heap.size) (by have := hO3.size; simp; omega) (RowT.off hx3 ((Off.refl (fun _ => False) u3).alloc (.cells #[.int .u8 1, .int .u8 2, .int .u8 3] 5)) (fun _ _ c => c)) (cap := 3) (lit_by hA) rfl (by decide) (by have := HLh.out; have := HN0.out; simp; omega)
        have hown : ∀ j, xv.ownBlock = some j → wr.heap.size ≤ j := fun j ej => (World.ownsRow.lt hx3 j ej).1
        have HP5 := Lib.hid ((hP3.keep ((Off.refl (fun _ => False) u3).alloc (.cells #[.int .u8 1, .int .u8 2, .int .u8 3] 5))).off hO5 (fun j _ h1 ej => by have := hown j ej; have := HPl.out j h1; omega))
        have HO5 := Lib.hid (((HO3.out.trans hO3 (fun j hj e => by have := HSz.out; omega)).trans ((Off.refl (fun _ => False) u3).alloc (.cells #[.int .u8 1, .int .u8 2, .int .u8 3] 5)) (fun _ _ c => c)).trans hO5 (fun j hj ej => by have := hown j ej; have := HSz.out; omega))
        have HRun := Lib.hid hrun
        have HR5 := Lib.hid hr5
        have HB1 := Lib.hid (show b1 < wr.heap.size ∧ wr.heap.size ≤ w5.heap.size from ⟨HPl.out b1 HS1.out.2, by have := hO3.size; have := hO5.size; simp at this; omega⟩)
        clear hA hrun hr5 hO5 hown hx3 hP3 hO3 FT
        go_wp2_with first | (at_builtin; refine Go.Lib.wpList_append_run _ rfl _ _ _ _ rfl _ _ rfl rfl _ _ HRun.out ?_) | fail
        refine (FT2.out _ HP5.out).mono ?_
        rintro e u6 ⟨yv, rfl, hy6, hP6, hO6⟩
        try dsimp only at hy6 hP6
        obtain ⟨wq, hwq⟩ : ∃ wq, wq = u6 := ⟨_, rfl⟩
        rw [← hwq] at hy6 hP6 hO6 ⊢
        obtain ⟨xa, xc, hxv, hxc, hxb⟩ := (RowT.offB HR5.out hO6 (fun j h1 e => by have := HB1.out; omega)).at
        obtain ⟨ya, yc, hyv, hyc, hyb⟩ := hy6.at
        have hxl : (bs0.take h ++ [1, 2, 3]).length = h + 3 := by rw [List.length_append, HLh.out.2.1]; rfl
        rw [hxl] at hxv hxc
        rw [HLh.out.2.2.1] at hyv hyc
        subst hxv hyv
        obtain ⟨a5, hs5, hb5⟩ := part_h xa (h + 3) xc h (bs0.take h ++ [1, 2, 3]) hxl.symm (by omega) hxc
        obtain ⟨a6, hs6, hb6⟩ := part_h a0 n0 cap0 h bs0 HN0.out.1 HLh.out.1 HN0.out.2.1
        obtain ⟨a7, hs7, hb7⟩ := part_l a0 n0 cap0 h bs0 HN0.out.1 HLh.out.1 HN0.out.2.1
        have hxt : (bs0.take h ++ [1, 2, 3]).take h = bs0.take h := by rw [List.take_append_of_le_length (by rw [HLh.out.2.1]; exact Nat.le_refl _), List.take_of_length_le (by rw [HLh.out.2.1]; exact Nat.le_refl _)]
        have HOq := Lib.hid (HO5.out.trans hO6 (fun j hj e => by have := HSz.out; omega))
        have FAl := Lib.hid (fun (W : World) (hw : Off (fun _ => False) wq W) => FAL.out W (HT.out.off (HOq.out.trans hw (fun _ _ c => c))))
        have FE1 := Lib.hid (fun (W : World) (hw : Off (fun _ => False) wq W) => bequal_any (c := xc) (c' := cap0) (hxt ▸ hb5 _ _ (hxb.off hw (fun _ _ _ c => c))) HLh.out.2.1.symm (hb6 _ _ (HB0.out.off (HOq.out.trans hw (fun _ _ c => c)) (fun _ _ _ c => c))) HLh.out.2.1.symm)
        have FE2 := Lib.hid (fun (W : World) (hw : Off (fun _ => False) wq W) => bequal_any (c := yc) (c' := cap0 - h) (hyb.off hw (fun _ _ _ c => c)) HLh.out.2.2.1.symm (hb7 _ _ (HB0.out.off (HOq.out.trans hw (fun _ _ c => c)) (fun _ _ _ c => c))) (show n0 - h = (bs0.drop h).length by have := HLh.out; omega))
        have q5 : IntKind.i64.wrap ((h : Int) + 3) = (h : Int) + 3 := by rw [IntKind.wrap_i64]; have := HLh.out; omega
        have q6 : ((h + 3 : Nat) : Int) = (h : Int) + 3 := by omega
        have hhn : (h : Int) ≤ (n0 : Int) := by have := HLh.out; omega
        clear hy6 hP6 hO6 hwq hxb hyb hxl hxt hb5 hb6 hb7 hxc hyc FT2 HRun HR5 HP5 HO5
        go_upto_region 16 with fail
        obtain ⟨x54, hx⟩ : ∃ x : Value, x = .bool true := ⟨_, rfl⟩
        have X54 := Lib.hid hx
        clear hx
        obtain ⟨x55, hx⟩ : ∃ x : Value, x = .bool true := ⟨_, rfl⟩
        have X55 := Lib.hid hx
        clear hx
        obtain ⟨x56, hx⟩ : ∃ x : Value, x = .int .i64 0 := ⟨_, rfl⟩
        have X56 := Lib.hid hx
        clear hx
        obtain ⟨x57, hx⟩ : ∃ x : Value, x = .bool true := ⟨_, rfl⟩
        have X57 := Lib.hid hx
        clear hx
        obtain ⟨x58, hx⟩ : ∃ x : Value, x = .bool true := ⟨_, rfl⟩
        have X58 := Lib.hid hx
        clear hx
        obtain ⟨x59, hx⟩ : ∃ x : Value, x = .bool true := ⟨_, rfl⟩
        have X59 := Lib.hid hx
        clear hx
        obtain ⟨x60, hx⟩ : ∃ x : Value, x = .int .i64 0 := ⟨_, rfl⟩
        have X60 := Lib.hid hx
        clear hx
        obtain ⟨x61, hx⟩ : ∃ x : Value, x = .bool true := ⟨_, rfl⟩
        have X61 := Lib.hid hx
        clear hx
        obtain ⟨x62, hx⟩ : ∃ x : Value, x = .bool true := ⟨_, rfl⟩
        have X62 := Lib.hid hx
        clear hx
        obtain ⟨x63, hx⟩ : ∃ x : Value, x = .bool true := ⟨_, rfl⟩
        have X63 := Lib.hid hx
        clear hx
        obtain ⟨x64, hx⟩ : ∃ x : Value, x = .slice xa (h + 3) xc := ⟨_, rfl⟩
        have X64 := Lib.hid hx
        clear hx
        obtain ⟨x65, hx⟩ : ∃ x : Value, x = .slice xa (h + 3) xc := ⟨_, rfl⟩
        have X65 := Lib.hid hx
        clear hx
        obtain ⟨x66, hx⟩ : ∃ x : Value, x = .int .i64 ((h : Int) + 3) := ⟨_, rfl⟩
        have X66 := Lib.hid hx
        clear hx
        obtain ⟨x67, hx⟩ : ∃ x : Value, x = .int .i64 (h : Int) := ⟨_, rfl⟩
        have X67 := Lib.hid hx
        clear hx
        obtain ⟨x68, hx⟩ : ∃ x : Value, x = .slice a5 h xc := ⟨_, rfl⟩
        have X68 := Lib.hid hx
        clear hx
        obtain ⟨x69, hx⟩ : ∃ x : Value, x = .slice a0 n0 cap0 := ⟨_, rfl⟩
        have X69 := Lib.hid hx
        clear hx
        obtain ⟨x70, hx⟩ : ∃ x : Value, x = .int .i64 (h : Int) := ⟨_, rfl⟩
        have X70 := Lib.hid hx
        clear hx
        obtain ⟨x71, hx⟩ : ∃ x : Value, x = .slice a6 h cap0 := ⟨_, rfl⟩
        have X71 := Lib.hid hx
        clear hx
        obtain ⟨x72, hx⟩ : ∃ x : Value, x = .bool true := ⟨_, rfl⟩
        have X72 := Lib.hid hx
        clear hx
        obtain ⟨x73, hx⟩ : ∃ x : Value, x = .bool true := ⟨_, rfl⟩
        have X73 := Lib.hid hx
        clear hx
        obtain ⟨x74, hx⟩ : ∃ x : Value, x = .bool true := ⟨_, rfl⟩
        have X74 := Lib.hid hx
        clear hx
        obtain ⟨x75, hx⟩ : ∃ x : Value, x = .slice ya d yc := ⟨_, rfl⟩
        have X75 := Lib.hid hx
        clear hx
        obtain ⟨x76, hx⟩ : ∃ x : Value, x = .slice a0 n0 cap0 := ⟨_, rfl⟩
        have X76 := Lib.hid hx
        clear hx
        obtain ⟨x77, hx⟩ : ∃ x : Value, x = .int .i64 (h : Int) := ⟨_, rfl⟩
        have X77 := Lib.hid hx
        clear hx
        obtain ⟨x78, hx⟩ : ∃ x : Value, x = .slice a7 (n0 - h) (cap0 - h) := ⟨_, rfl⟩
        have X78 := Lib.hid hx
        clear hx
        obtain ⟨x79, hx⟩ : ∃ x : Value, x = .bool true := ⟨_, rfl⟩
        have X79 := Lib.hid hx
        clear hx
        obtain ⟨x80, hx⟩ : ∃ x : Value, x = .bool true := ⟨_, rfl⟩
        have X80 := Lib.hid hx
        clear hx
        obtain ⟨x2, hx⟩ : ∃ x : Value, x = .bool true := ⟨_, rfl⟩
        have X2 := Lib.hid hx
        clear hx
        refine wp_region_inv (fun a0 l a' w' => a' = (Act.put (fill a0 54 [sel (l 0) x54 undef, sel (l 1) x55 undef, sel (l 2) x56 undef, sel (l 3) x57 undef, sel (l 4) x58 undef, sel (l 5) x59 undef, sel (l 6) x60 undef, sel (l 7) x61 undef, sel (l 8) x62 undef, sel (l 9) x63 undef, sel (l 10) x64 undef, sel (l 11) x65 undef, sel (l 12) x66 undef, sel (l 13) x67 undef, sel (l 14) x68 undef, sel (l 15) x69 undef, sel (l 16) x70 undef, sel (l 17) x71 undef, sel (l 18) x72 undef, sel (l 19) x73 undef, sel (l 20) x74 undef, sel (l 21) x75 undef, sel (l 22) x76 undef, sel (l 23) x77 undef, sel (l 24) x78 undef, sel (l 25) x79 undef, sel (l 26) x80 undef]) (some 2) (sel (l 27) x2 (.bool false))) ∧ Off (fun _ => False) wq w') (by kernel_rfl) (by kernel_rfl) ?_ ⟨?_, ?_, ?_, ?_, ?_, ?_, ?_, ?_, ?_, ?_, ?_, ?_, ?_, ?_, ?_, ?_, ?_, ?_, ?_, ?_, ?_, ?_, ?_, ?_, ?_, ?_, ?_, ?_, trivial⟩ ?_
        · refine ⟨?_, (Off.refl _ wq).drew⟩
          simp only [fill_eq, List.take_succ_cons, List.take_zero, List.cons_append, List.nil_append, Act.put, List.setIfInBounds_toArray, List.set_cons_zero, List.set_cons_succ, sel_start]
        · as_aux_lemma =>
            rintro l a wr ⟨ha, hO⟩ hl hd K' hK
            have hx := X54.out; subst hx
            simp only [fill_eq, List.take_succ_cons, List.take_zero, List.cons_append, List.nil_append, Act.put, List.setIfInBounds_toArray, List.set_cons_zero, List.set_cons_succ] at ha
            subst ha
            rw [if_pos (by rfl)]
            go_simp
            refine (held_inv (FAl.out wr hO) hO).mono ?_
            rintro e w1 ⟨rfl, hO1, hOW⟩
            go_wp2_with fail
            refine hK.out _ _ ⟨?_, hO1⟩
            simp only [fill_eq, List.take_succ_cons, List.take_zero, List.cons_append, List.nil_append, Act.put, List.setIfInBounds_toArray, List.set_cons_zero, List.set_cons_succ, sel_new]
            rfl
        · as_aux_lemma =>
            rintro l a wr ⟨ha, hO⟩ hl hd K' hK
            have d0 := hd 0 (by decide)
            have hx := X54.out; subst hx
            have hx := X55.out; subst hx
            simp only [fill_eq, List.take_succ_cons, List.take_zero, List.cons_append, List.nil_append, Act.put, List.setIfInBounds_toArray, List.set_cons_zero, List.set_cons_succ, sel_of d0] at ha
            subst ha
            rw [if_pos (by rfl)]
            go_simp
            refine hK.out _ _ ⟨?_, hO⟩
            simp only [fill_eq, List.take_succ_cons, List.take_zero, List.cons_append, List.nil_append, Act.put, List.setIfInBounds_toArray, List.set_cons_zero, List.set_cons_succ, sel_new, sel_dep d0]
            rfl
        · as_aux_lemma =>
            rintro l a wr ⟨ha, hO⟩ hl hd K' hK
            have d1 := hd 1 (by decide)
            have hx := X55.out; subst hx
            have hx := X56.out; subst hx
            simp only [fill_eq, List.take_succ_cons, List.take_zero, List.cons_append, List.nil_append, Act.put, List.setIfInBounds_toArray, List.set_cons_zero, List.set_cons_succ, sel_of d1] at ha
            subst ha
            rw [if_pos (by rfl)]
            go_simp
            refine hK.out _ _ ⟨?_, hO⟩
            simp only [fill_eq, List.take_succ_cons, List.take_zero, List.cons_append, List.nil_append, Act.put, List.setIfInBounds_toArray, List.set_cons_zero, List.set_cons_succ, sel_new, sel_dep d1]
            rfl
        · as_aux_lemma =>
            rintro l a wr ⟨ha, hO⟩ hl hd K' hK
            have d1 := hd 1 (by decide)
            have d2 := hd 2 (by decide)
            have hx := X55.out; subst hx
            have hx := X56.out; subst hx
            have hx := X57.out; subst hx
            simp only [fill_eq, List.take_succ_cons, List.take_zero, List.cons_append, List.nil_append, Act.put, List.setIfInBounds_toArray, List.set_cons_zero, List.set_cons_succ, sel_of d1, sel_of d2] at ha
            subst ha
            rw [if_pos (by rfl)]
            go_simp
            refine hK.out _ _ ⟨?_, hO⟩
            simp only [fill_eq, List.take_succ_cons, List.take_zero, List.cons_append, List.nil_append, Act.put, List.setIfInBounds_toArray, List.set_cons_zero, List.set_cons_succ, sel_new, sel_dep d1, sel_dep d2]
            rfl
        · as_aux_lemma =>
            rintro l a wr ⟨ha, hO⟩ hl hd K' hK
            have d1 := hd 1 (by decide)
            have d3 := hd 3 (by decide)
            have hx := X55.out; subst hx
            have hx := X57.out; subst hx
            have hx := X58.out; subst hx
            simp only [fill_eq, List.take_succ_cons, List.take_zero, List.cons_append, List.nil_append, Act.put, List.setIfInBounds_toArray, List.set_cons_zero, List.set_cons_succ, sel_of d1, sel_of d3] at ha
            subst ha
            rw [if_pos (by rfl)]
            go_simp
            refine hK.out _ _ ⟨?_, hO⟩
            simp only [fill_eq, List.take_succ_cons, List.take_zero, List.cons_append, List.nil_append, Act.put, List.setIfInBounds_toArray, List.set_cons_zero, List.set_cons_succ, sel_new, sel_dep d1, sel_dep d3]
            rfl
        · as_aux_lemma =>
            rintro l a wr ⟨ha, hO⟩ hl hd K' hK
            have d4 := hd 4 (by decide)
            have hx := X58.out; subst hx
            have hx := X59.out; subst hx
            simp only [fill_eq, List.take_succ_cons, List.take_zero, List.cons_append, List.nil_append, Act.put, List.setIfInBounds_toArray, List.set_cons_zero, List.set_cons_succ, sel_of d4] at ha
            subst ha
            rw [if_pos (by rfl)]
            go_simp
            refine hK.out _ _ ⟨?_, hO⟩
            simp only [fill_eq, List.take_succ_cons, List.take_zero, List.cons_append, List.nil_append, Act.put, List.setIfInBounds_toArray, List.set_cons_zero, List.set_cons_succ, sel_new, sel_dep d4]
            rfl
        · as_aux_lemma =>
            rintro l a wr ⟨ha, hO⟩ hl hd K' hK
            have d5 := hd 5 (by decide)
            have hx := X59.out; subst hx
            have hx := X60.out; subst hx
            simp only [fill_eq, List.take_succ_cons, List.take_zero, List.cons_append, List.nil_append, Act.put, List.setIfInBounds_toArray, List.set_cons_zero, List.set_cons_succ, sel_of d5] at ha
            subst ha
            rw [if_pos (by rfl)]
            go_simp
            refine hK.out _ _ ⟨?_, hO⟩
            simp only [fill_eq, List.take_succ_cons, List.take_zero, List.cons_append, List.nil_append, Act.put, List.setIfInBounds_toArray, List.set_cons_zero, List.set_cons_succ, sel_new, sel_dep d5]
            rfl
        · as_aux_lemma =>
            rintro l a wr ⟨ha, hO⟩ hl hd K' hK
            have d5 := hd 5 (by decide)
            have d6 := hd 6 (by decide)
            have hx := X59.out; subst hx
            have hx := X60.out; subst hx
            have hx := X61.out; subst hx
            simp only [fill_eq, List.take_succ_cons, List.take_zero, List.cons_append, List.nil_append, Act.put, List.setIfInBounds_toArray, List.set_cons_zero, List.set_cons_succ, sel_of d5, sel_of d6] at ha
            subst ha
            rw [if_pos (by rfl)]
            go_simp
            refine hK.out _ _ ⟨?_, hO⟩
            simp only [fill_eq, List.take_succ_cons, List.take_zero, List.cons_append, List.nil_append, Act.put, List.setIfInBounds_toArray, List.set_cons_zero, List.set_cons_succ, sel_new, sel_dep d5, sel_dep d6]
            rfl
        · as_aux_lemma =>
            rintro l a wr ⟨ha, hO⟩ hl hd K' hK
            have d5 := hd 5 (by decide)
            have d7 := hd 7 (by decide)
            have hx := X59.out; subst hx
            have hx := X61.out; subst hx
            have hx := X62.out; subst hx
            simp only [fill_eq, List.take_succ_cons, List.take_zero, List.cons_append, List.nil_append, Act.put, List.setIfInBounds_toArray, List.set_cons_zero, List.set_cons_succ, sel_of d5, sel_of d7] at ha
            subst ha
            rw [if_pos (by rfl)]
            go_simp
            refine hK.out _ _ ⟨?_, hO⟩
            simp only [fill_eq, List.take_succ_cons, List.take_zero, List.cons_append, List.nil_append, Act.put, List.setIfInBounds_toArray, List.set_cons_zero, List.set_cons_succ, sel_new, sel_dep d5, sel_dep d7]
            rfl
        · as_aux_lemma =>
            rintro l a wr ⟨ha, hO⟩ hl hd K' hK
            have d8 := hd 8 (by decide)
            have hx := X62.out; subst hx
            have hx := X63.out; subst hx
            simp only [fill_eq, List.take_succ_cons, List.take_zero, List.cons_append, List.nil_append, Act.put, List.setIfInBounds_toArray, List.set_cons_zero, List.set_cons_succ, sel_of d8] at ha
            subst ha
            rw [if_pos (by rfl)]
            go_simp
            refine hK.out _ _ ⟨?_, hO⟩
            simp only [fill_eq, List.take_succ_cons, List.take_zero, List.cons_append, List.nil_append, Act.put, List.setIfInBounds_toArray, List.set_cons_zero, List.set_cons_succ, sel_new, sel_dep d8]
            rfl
        · as_aux_lemma =>
            rintro l a wr ⟨ha, hO⟩ hl hd K' hK
            have d9 := hd 9 (by decide)
            have hx := X63.out; subst hx
            have hx := X64.out; subst hx
            simp only [fill_eq, List.take_succ_cons, List.take_zero, List.cons_append, List.nil_append, Act.put, List.setIfInBounds_toArray, List.set_cons_zero, List.set_cons_succ, sel_of d9] at ha
            subst ha
            rw [if_pos (by rfl)]
            go_simp
            refine hK.out _ _ ⟨?_, hO⟩
            simp only [fill_eq, List.take_succ_cons, List.take_zero, List.cons_append, List.nil_append, Act.put, List.setIfInBounds_toArray, List.set_cons_zero, List.set_cons_succ, sel_new, sel_dep d9]
            rfl
        · as_aux_lemma =>
            rintro l a wr ⟨ha, hO⟩ hl hd K' hK
            have d9 := hd 9 (by decide)
            have hx := X63.out; subst hx
            have hx := X65.out; subst hx
            simp only [fill_eq, List.take_succ_cons, List.take_zero, List.cons_append, List.nil_append, Act.put, List.setIfInBounds_toArray, List.set_cons_zero, List.set_cons_succ, sel_of d9] at ha
            subst ha
            rw [if_pos (by rfl)]
            go_simp
            refine hK.out _ _ ⟨?_, hO⟩
            simp only [fill_eq, List.take_succ_cons, List.take_zero, List.cons_append, List.nil_append, Act.put, List.setIfInBounds_toArray, List.set_cons_zero, List.set_cons_succ, sel_new, sel_dep d9]
            rfl
        · as_aux_lemma =>
            rintro l a wr ⟨ha, hO⟩ hl hd K' hK
            have d9 := hd 9 (by decide)
            have d11 := hd 11 (by decide)
            have hx := X63.out; subst hx
            have hx := X65.out; subst hx
            have hx := X66.out; subst hx
            simp only [fill_eq, List.take_succ_cons, List.take_zero, List.cons_append, List.nil_append, Act.put, List.setIfInBounds_toArray, List.set_cons_zero, List.set_cons_succ, sel_of d9, sel_of d11] at ha
            subst ha
            rw [if_pos (by rfl)]
            go_simp
            refine hK.out _ _ ⟨?_, hO⟩
            simp only [fill_eq, List.take_succ_cons, List.take_zero, List.cons_append, List.nil_append, Act.put, List.setIfInBounds_toArray, List.set_cons_zero, List.set_cons_succ, sel_new, sel_dep d9, sel_dep d11]
            rfl
        · as_aux_lemma =>
            rintro l a wr ⟨ha, hO⟩ hl hd K' hK
            have d9 := hd 9 (by decide)
            have d12 := hd 12 (by decide)
            have hx := X63.out; subst hx
            have hx := X66.out; subst hx
            have hx := X67.out; subst hx
            simp only [fill_eq, List.take_succ_cons, List.take_zero, List.cons_append, List.nil_append, Act.put, List.setIfInBounds_toArray, List.set_cons_zero, List.set_cons_succ, sel_of d9, sel_of d12] at ha
            subst ha
            rw [if_pos (by rfl)]
            go_simp
            refine hK.out _ _ ⟨?_, hO⟩
            simp only [fill_eq, List.take_succ_cons, List.take_zero, List.cons_append, List.nil_append, Act.put, List.setIfInBounds_toArray, List.set_cons_zero, List.set_cons_succ, sel_new, sel_dep d9, sel_dep d12]
            rfl
        · as_aux_lemma =>
            rintro l a wr ⟨ha, hO⟩ hl hd K' hK
            have d9 := hd 9 (by decide)
            have d10 := hd 10 (by decide)
            have d13 := hd 13 (by decide)
            have hx := X63.out; subst hx
            have hx := X64.out; subst hx
            have hx := X67.out; subst hx
            have hx := X68.out; subst hx
            simp only [fill_eq, List.take_succ_cons, List.take_zero, List.cons_append, List.nil_append, Act.put, List.setIfInBounds_toArray, List.set_cons_zero, List.set_cons_succ, sel_of d9, sel_of d10, sel_of d13] at ha
            subst ha
            rw [if_pos (by rfl)]
            go_simp
            refine hK.out _ _ ⟨?_, hO⟩
            simp only [fill_eq, List.take_succ_cons, List.take_zero, List.cons_append, List.nil_append, Act.put, List.setIfInBounds_toArray, List.set_cons_zero, List.set_cons_succ, sel_new, sel_dep d9, sel_dep d10, sel_dep d13]
            rfl
        · as_aux_lemma =>
            rintro l a wr ⟨ha, hO⟩ hl hd K' hK
            have d9 := hd 9 (by decide)
            have hx := X63.out; subst hx
            have hx := X69.out; subst hx
            simp only [fill_eq, List.take_succ_cons, List.take_zero, List.cons_append, List.nil_append, Act.put, List.setIfInBounds_toArray, List.set_cons_zero, List.set_cons_succ, sel_of d9] at ha
            subst ha
            rw [if_pos (by rfl)]
            go_simp
            refine hK.out _ _ ⟨?_, hO⟩
            simp only [fill_eq, List.take_succ_cons, List.take_zero, List.cons_append, List.nil_append, Act.put, List.setIfInBounds_toArray, List.set_cons_zero, List.set_cons_succ, sel_new, sel_dep d9]
            rfl
        · as_aux_lemma =>
            rintro l a wr ⟨ha, hO⟩ hl hd K' hK
            have d9 := hd 9 (by decide)
            have hx := X63.out; subst hx
            have hx := X70.out; subst hx
            simp only [fill_eq, List.take_succ_cons, List.take_zero, List.cons_append, List.nil_append, Act.put, List.setIfInBounds_toArray, List.set_cons_zero, List.set_cons_succ, sel_of d9] at ha
            subst ha
            rw [if_pos (by rfl)]
            go_simp
            refine hK.out _ _ ⟨?_, hO⟩
            simp only [fill_eq, List.take_succ_cons, List.take_zero, List.cons_append, List.nil_append, Act.put, List.setIfInBounds_toArray, List.set_cons_zero, List.set_cons_succ, sel_new, sel_dep d9]
            rfl
        · as_aux_lemma =>
            rintro l a wr ⟨ha, hO⟩ hl hd K' hK
            have d9 := hd 9 (by decide)
            have d15 := hd 15 (by decide)
            have d16 := hd 16 (by decide)
            have hx := X63.out; subst hx
            have hx := X69.out; subst hx
            have hx := X70.out; subst hx
            have hx := X71.out; subst hx
            simp only [fill_eq, List.take_succ_cons, List.take_zero, List.cons_append, List.nil_append, Act.put, List.setIfInBounds_toArray, List.set_cons_zero, List.set_cons_succ, sel_of d9, sel_of d15, sel_of d16] at ha
            subst ha
            rw [if_pos (by rfl)]
            go_simp
            refine hK.out _ _ ⟨?_, hO⟩
            simp only [fill_eq, List.take_succ_cons, List.take_zero, List.cons_append, List.nil_append, Act.put, List.setIfInBounds_toArray, List.set_cons_zero, List.set_cons_succ, sel_new, sel_dep d9, sel_dep d15, sel_dep d16]
            rfl
        · as_aux_lemma =>
            rintro l a wr ⟨ha, hO⟩ hl hd K' hK
            have d9 := hd 9 (by decide)
            have d14 := hd 14 (by decide)
            have d17 := hd 17 (by decide)
            have hx := X63.out; subst hx
            have hx := X68.out; subst hx
            have hx := X71.out; subst hx
            have hx := X72.out; subst hx
            simp only [fill_eq, List.take_succ_cons, List.take_zero, List.cons_append, List.nil_append, Act.put, List.setIfInBounds_toArray, List.set_cons_zero, List.set_cons_succ, sel_of d9, sel_of d14, sel_of d17] at ha
            subst ha
            rw [if_pos (by rfl)]
            go_simp
            refine (held_inv (FE1.out wr hO) hO).mono ?_
            rintro e w1 ⟨rfl, hO1, hOW⟩
            go_wp2_with fail
            refine hK.out _ _ ⟨?_, hO1⟩
            simp only [fill_eq, List.take_succ_cons, List.take_zero, List.cons_append, List.nil_append, Act.put, List.setIfInBounds_toArray, List.set_cons_zero, List.set_cons_succ, sel_new, sel_dep d9, sel_dep d14, sel_dep d17]
            rfl
        · as_aux_lemma =>
            rintro l a wr ⟨ha, hO⟩ hl hd K' hK
            have d9 := hd 9 (by decide)
            have d18 := hd 18 (by decide)
            have hx := X63.out; subst hx
            have hx := X72.out; subst hx
            have hx := X73.out; subst hx
            simp only [fill_eq, List.take_succ_cons, List.take_zero, List.cons_append, List.nil_append, Act.put, List.setIfInBounds_toArray, List.set_cons_zero, List.set_cons_succ, sel_of d9, sel_of d18] at ha
            subst ha
            rw [if_pos (by rfl)]
            go_simp
            refine hK.out _ _ ⟨?_, hO⟩
            simp only [fill_eq, List.take_succ_cons, List.take_zero, List.cons_append, List.nil_append, Act.put, List.setIfInBounds_toArray, List.set_cons_zero, List.set_cons_succ, sel_new, sel_dep d9, sel_dep d18]
            rfl
        · as_aux_lemma =>
            rintro l a wr ⟨ha, hO⟩ hl hd K' hK
            have d19 := hd 19 (by decide)
            have hx := X73.out; subst hx
            have hx := X74.out; subst hx
            simp only [fill_eq, List.take_succ_cons, List.take_zero, List.cons_append, List.nil_append, Act.put, List.setIfInBounds_toArray, List.set_cons_zero, List.set_cons_succ, sel_of d19] at ha
            subst ha
            rw [if_pos (by rfl)]
            go_simp
            refine hK.out _ _ ⟨?_, hO⟩
            simp only [fill_eq, List.take_succ_cons, List.take_zero, List.cons_append, List.nil_append, Act.put, List.setIfInBounds_toArray, List.set_cons_zero, List.set_cons_succ, sel_new, sel_dep d19]
            rfl
        · as_aux_lemma =>
            rintro l a wr ⟨ha, hO⟩ hl hd K' hK
            have d20 := hd 20 (by decide)
            have hx := X74.out; subst hx
            have hx := X75.out; subst hx
            simp only [fill_eq, List.take_succ_cons, List.take_zero, List.cons_append, List.nil_append, Act.put, List.setIfInBounds_toArray, List.set_cons_zero, List.set_cons_succ, sel_of d20] at ha
            subst ha
            rw [if_pos (by rfl)]
            go_simp
            refine hK.out _ _ ⟨?_, hO⟩
            simp only [fill_eq, List.take_succ_cons, List.take_zero, List.cons_append, List.nil_append, Act.put, List.setIfInBounds_toArray, List.set_cons_zero, List.set_cons_succ, sel_new, sel_dep d20]
            rfl
        · as_aux_lemma =>
            rintro l a wr ⟨ha, hO⟩ hl hd K' hK
            have d20 := hd 20 (by decide)
            have hx := X74.out; subst hx
            have hx := X76.out; subst hx
            simp only [fill_eq, List.take_succ_cons, List.take_zero, List.cons_append, List.nil_append, Act.put, List.setIfInBounds_toArray, List.set_cons_zero, List.set_cons_succ, sel_of d20] at ha
            subst ha
            rw [if_pos (by rfl)]
            go_simp
            refine hK.out _ _ ⟨?_, hO⟩
            simp only [fill_eq, List.take_succ_cons, List.take_zero, List.cons_append, List.nil_append, Act.put, List.setIfInBounds_toArray, List.set_cons_zero, List.set_cons_succ, sel_new, sel_dep d20]
            rfl
        · as_aux_lemma =>
            rintro l a wr ⟨ha, hO⟩ hl hd K' hK
            have d20 := hd 20 (by decide)
            have hx := X74.out; subst hx
            have hx := X77.out; subst hx
            simp only [fill_eq, List.take_succ_cons, List.take_zero, List.cons_append, List.nil_append, Act.put, List.setIfInBounds_toArray, List.set_cons_zero, List.set_cons_succ, sel_of d20] at ha
            subst ha
            rw [if_pos (by rfl)]
            go_simp
            refine hK.out _ _ ⟨?_, hO⟩
            simp only [fill_eq, List.take_succ_cons, List.take_zero, List.cons_append, List.nil_append, Act.put, List.setIfInBounds_toArray, List.set_cons_zero, List.set_cons_succ, sel_new, sel_dep d20]
            rfl
        · as_aux_lemma =>
            rintro l a wr ⟨ha, hO⟩ hl hd K' hK
            have d20 := hd 20 (by decide)
            have d22 := hd 22 (by decide)
            have d23 := hd 23 (by decide)
            have hx := X74.out; subst hx
            have hx := X76.out; subst hx
            have hx := X77.out; subst hx
            have hx := X78.out; subst hx
            simp only [fill_eq, List.take_succ_cons, List.take_zero, List.cons_append, List.nil_append, Act.put, List.setIfInBounds_toArray, List.set_cons_zero, List.set_cons_succ, sel_of d20, sel_of d22, sel_of d23] at ha
            subst ha
            rw [if_pos (by rfl)]
            go_simp
            refine hK.out _ _ ⟨?_, hO⟩
            simp only [fill_eq, List.take_succ_cons, List.take_zero, List.cons_append, List.nil_append, Act.put, List.setIfInBounds_toArray, List.set_cons_zero, List.set_cons_succ, sel_new, sel_dep d20, sel_dep d22, sel_dep d23]
            rfl
        · as_aux_lemma =>
            rintro l a wr ⟨ha, hO⟩ hl hd K' hK
            have d20 := hd 20 (by decide)
            have d21 := hd 21 (by decide)
            have d24 := hd 24 (by decide)
            have hx := X74.out; subst hx
            have hx := X75.out; subst hx
            have hx := X78.out; subst hx
            have hx := X79.out; subst hx
            simp only [fill_eq, List.take_succ_cons, List.take_zero, List.cons_append, List.nil_append, Act.put, List.setIfInBounds_toArray, List.set_cons_zero, List.set_cons_succ, sel_of d20, sel_of d21, sel_of d24] at ha
            subst ha
            rw [if_pos (by rfl)]
            go_simp
            refine (held_inv (FE2.out wr hO) hO).mono ?_
            rintro e w1 ⟨rfl, hO1, hOW⟩
            go_wp2_with fail
            refine hK.out _ _ ⟨?_, hO1⟩
            simp only [fill_eq, List.take_succ_cons, List.take_zero, List.cons_append, List.nil_append, Act.put, List.setIfInBounds_toArray, List.set_cons_zero, List.set_cons_succ, sel_new, sel_dep d20, sel_dep d21, sel_dep d24]
            rfl
        · as_aux_lemma =>
            rintro l a wr ⟨ha, hO⟩ hl hd K' hK
            have d20 := hd 20 (by decide)
            have d25 := hd 25 (by decide)
            have hx := X74.out; subst hx
            have hx := X79.out; subst hx
            have hx := X80.out; subst hx
            simp only [fill_eq, List.take_succ_cons, List.take_zero, List.cons_append, List.nil_append, Act.put, List.setIfInBounds_toArray, List.set_cons_zero, List.set_cons_succ, sel_of d20, sel_of d25] at ha
            subst ha
            rw [if_pos (by rfl)]
            go_simp
            refine hK.out _ _ ⟨?_, hO⟩
            simp only [fill_eq, List.take_succ_cons, List.take_zero, List.cons_append, List.nil_append, Act.put, List.setIfInBounds_toArray, List.set_cons_zero, List.set_cons_succ, sel_new, sel_dep d20, sel_dep d25]
            rfl
        · as_aux_lemma =>
            rintro l a wr ⟨ha, hO⟩ hl hd K' hK
            have d26 := hd 26 (by decide)
            have hx := X80.out; subst hx
            have hx := X2.out; subst hx
            simp only [fill_eq, List.take_succ_cons, List.take_zero, List.cons_append, List.nil_append, Act.put, List.setIfInBounds_toArray, List.set_cons_zero, List.set_cons_succ, sel_of d26] at ha
            subst ha
            rw [if_pos (by rfl)]
            go_simp
            refine hK.out _ _ ⟨?_, hO⟩
            simp only [fill_eq, List.take_succ_cons, List.take_zero, List.cons_append, List.nil_append, Act.put, List.setIfInBounds_toArray, List.set_cons_zero, List.set_cons_succ, sel_new, sel_dep d26]
            rfl
        · rintro l a wc ⟨ha, hO⟩ hd
          simp only [fill_eq, List.take_succ_cons, List.take_zero, List.cons_append, List.nil_append, Act.put, List.setIfInBounds_toArray, List.set_cons_zero, List.set_cons_succ, sel_of (hd 0 (by decide)), sel_of (hd 1 (by decide)), sel_of (hd 2 (by decide)), sel_of (hd 3 (by decide)), sel_of (hd 4 (by decide)), sel_of (hd 5 (by decide)), sel_of (hd 6 (by decide)), sel_of (hd 7 (by decide)), sel_of (hd 8 (by decide)), sel_of (hd 9 (by decide)), sel_of (hd 10 (by decide)), sel_of (hd 11 (by decide)), sel_of (hd 12 (by decide)), sel_of (hd 13 (by decide)), sel_of (hd 14 (by decide)), sel_of (hd 15 (by decide)), sel_of (hd 16 (by decide)), sel_of (hd 17 (by decide)), sel_of (hd 18 (by decide)), sel_of (hd 19 (by decide)), sel_of (hd 20 (by decide)), sel_of (hd 21 (by decide)), sel_of (hd 22 (by decide)), sel_of (hd 23 (by decide)), sel_of (hd 24 (by decide)), sel_of (hd 25 (by decide)), sel_of (hd 26 (by decide)), sel_of (hd 27 (by decide))] at ha
          subst ha
          have hx := X2.out; subst hx
          have HOe := Lib.hid (HOq.out.trans hO (fun _ _ c => c))
          clear hO hd
          go_wp2
          go_ret
          exact ⟨rfl, HOe.out⟩

theorem door_met (os : Os) (args : Array Value) : laidMetH Tryd.prog [("sharecore/field.fields", Rows.laid_sharecore_field_fields)] ((World.doorLaid Tryd.prog 400 os).forCall (fun _ _ => 0) ⟨#[], args, []⟩).memory :=
  laidMetH_of_parts3 (fuel := 8) (laidMet_of_run' 8 (by kernel_rfl) (by kernel_rfl)) (by kernel_rfl) (by kernel_rfl)

set_option maxRecDepth 100000 in
theorem lifted (os : Os) (started : os.Started) (H : Type) (enc : TypeId × Value → H) :
    ReturnsInHanded {} Tryd.checked os 7 .any (fun w args => (Rows.sourceCopiesSpec.pre enc Tryd.prog Tryd.f7 [] false w args ∧ laidMetH Tryd.prog [("sharecore/field.fields", Rows.laid_sharecore_field_fields)] w) ∧ sizedMet enc Tryd.prog Tryd.f7 (OpenSpec.ofChange Rows.sourceCopiesSpec) false w args)
      (Rows.sourceCopiesSpec.post enc Tryd.prog Tryd.f7 false true false false) := by
  refine returnsInHanded_of_change_and (C := Tryd.checked) (X := fun w _ => laidMetH Tryd.prog [("sharecore/field.fields", Rows.laid_sharecore_field_fields)] w) (fun _ _ _ hh h => h.of_heap hh) own started (by kernel_rfl) Tryd.func7
    (ChangeSpec.witness_shaped (enc := enc) (C := Tryd.checked) (os := os) (X := fun w _ => laidMetH Tryd.prog [("sharecore/field.fields", Rows.laid_sharecore_field_fields)] w) false (World.doorLaid Tryd.prog 400 os) #[.slice none 0 0] 8 rfl (World.shaped_of_RefB (by kernel_rfl) (by kernel_rfl)) (by kernel_rfl) (by kernel_rfl) (by kernel_rfl) (door_met os _)) ?_
  intro W base args ds gs before hval0 hW _ hsz hL _
  have hval : ∀ (j : Nat) t v, Tryd.f7.params[j]? = some t → args[j]? = some v → Value.okWide Tryd.prog W .any base t v := hval0
  have hW' := hW
  obtain ⟨p, q, hA0, hV, rfl, hfz, hnd⟩ := hW
  have hA : DataW.TrodAll enc Tryd.prog W 0 (fun _ => true) true Tryd.f7.params.toList args.toList ds p := hA0
  rw [Tryd.params7] at hA hval
  obtain ⟨v0, vs0, d0, ds0, p0, q0, hargs, rfl, rfl, h0, r0⟩ := trodAll_cons hA
  obtain ⟨rfl, rfl, rfl⟩ := trodAll_nil r0
  obtain rfl : args = #[v0] := by cases args; simp_all
  obtain ⟨rfl, rfl⟩ := trodVars_none hV
  obtain ⟨a0, n0, cap0, rfl⟩ := okWide_slice Tryd.underlying22 (hval 0 22 v0 rfl rfl)
  have k0 := h0
  have lt0 : ∀ x ∈ p0, x.block < W.heap.size := by obtain ⟨m, hm⟩ := k0; exact DataW.trod_lt m _ _ _ hm
  obtain ⟨bs0, hn0, hc0, hs0, w0⟩ : ∃ bs, n0 = bs.length ∧ n0 ≤ cap0 ∧ Small bs ∧ BsAt W a0 bs (fun k => k < W.heap.size) := by
    obtain ⟨fuel, hf⟩ := h0
    exact bytes_of_trod hf
  have hT := tab_of_laid hL
  clear hA0 hval0
  refine (walk a0 n0 cap0 bs0 W hn0 hc0 hs0 w0 hT).mono fun e W' ⟨he, hoff⟩ => ?_
  have bel : Below W.heap.size W W' := hoff.below (Nat.le_refl _) (fun _ _ c => c)
  subst he
  exact ⟨_, rfl, _, _, _, [], _, [], hW', trodAll_mk1 (shut_bool Tryd.underlying4 _), (trodAll_cons_mk (Below.trod laidOut (by kernel_rfl) (of_decide_eq_true (by kernel_rfl)) k0 bel lt0) trodAll_mk0), rfl, bel.frame _, fun h => by cases h⟩

theorem over : Rows.sourceCopiesRow.holds Tryd.pinned (OpenSpec.ofChange Rows.sourceCopiesSpec) :=
  OpenClaim.holds_of_wide 7 Tryd.f7 rfl rfl rfl rfl rfl rfl rfl ⟨rfl, rfl, rfl, rfl, rfl⟩ rfl rfl rfl rfl rfl (by kernel_rfl) Tryd.func7 (by kernel_rfl)
    (of_decide_eq_true (by kernel_rfl)) (by unfold Func.isWrapper; first | (rw [if_pos (by decide +kernel)]; kernel_rfl) | (rw [if_neg (by decide +kernel)]; exact ⟨rfl, rfl⟩))
    (fun os started H enc _ => lifted os started H enc)

theorem proved : Rows.SourceCopiesCardSaid :=
  Claim7.holds_tied_plain_at .later [] [.data] true (true, "6f64277cbffadd23f4f09293482bc941ab7d4d501c3abca4f435855ccbd2f86e") false
    over (fun _ h => by cases h) (by kernel_rfl) (fun _ h => by cases h) sourceCopies_row_tie rfl ⟨rfl, rfl⟩ (by kernel_rfl) rfl
    (fun f fn hf hfn => by
      obtain rfl : f = 7 := Option.some.inj ((show Tryd.prog.funcNamed "sharecore/sharecorelaw14.SourceCopies" = some 7 by kernel_rfl).symm.trans hf) |>.symm
      obtain rfl : fn = Tryd.f7 := (Option.some.inj (Tryd.func7.symm.trans hfn)).symm
      exact ⟨by kernel_rfl, fun j t ht => by
        rw [Tryd.params7] at ht
        have hm : t ∈ [22] := by simpa using Array.mem_of_getElem? ht
        have hall : ([22].all fun u => !Tryd.prog.wantsStandIn u) = true := by kernel_rfl
        exact (show Tryd.prog.wantsStandIn t = false by simpa using List.all_eq_true.1 hall t hm)⟩)
    (by kernel_rfl)
#print axioms proved
end Go.Proofs.YtpiialjnjfkfeaaDoor.sourceCopies
