/-
  The examples of the chapter hold, and for all bytes, a nil Hash has no bytes and the sum of zeros, and its clone is nil: the statement of P12.2. No condition but the row's own (the tables of the constants and of the first state lie in memory as the program's text lays them).
-/
import Derived.Test.YthjfhgnmaepafaaDoorRows
import Derived.Test.YthjfhgnmaepafaaDoorTie
import Derived.Test.YthjfhgnmaepafaaDoorCards
import Derived.LaidMore
import Derived.LaidHandle
import Derived.SevenTiedAt
import Derived.Stop.Joined
import Derived.JoinedOf
import Derived.Test.YthjfhgnmaepafaaDoorBytOpen
import Derived.Test.YthjfhgnmaepafaaDoorShaTabs
import Derived.Test.YthjfhgnmaepafaaDoorShaAlive
import Derived.Test.YthjfhgnmaepafaaDoorShaNil
import Derived.WalkKit
import Derived.ProofKit
import Derived.OpenShut
import Derived.ShutString
import Derived.ChangeOld
import Derived.Below
namespace Go.Proofs.YthjfhgnmaepafaaDoor.shaNil
open Go.ChangeShapes Go.WideShapes Go.ChangeAt Go.RowKit
set_option linter.unusedVariables false

theorem own : ownKnob Tryd.prog.godebug = none := by kernel_rfl
theorem laidOut : laidOutB Tryd.prog = true := by kernel_rfl

set_option linter.unusedSimpArgs false
set_option maxRecDepth 100000 in
set_option maxHeartbeats 4000000 in
theorem walk (a0 : Option Addr) (n0 cap0 : Nat) (bs0 : List Nat) (w : World) (hn0 : n0 = bs0.length) (hc0 : n0 ≤ cap0) (hs0 : Small bs0) (w0 : BsAt w a0 bs0 (fun k => k < w.heap.size)) (hT : TabAt w) :
    Calls Tryd.prog 7 #[.slice a0 n0 cap0] w fun e w' => e = .returned (.bool true) ∧ Off (fun _ => False) w w' := by
  have FAL := Lib.hid (fun W (h : Off (fun _ => False) w W) => alive_any W (hT.off h))
  have FW : Hid (∀ (W : World), Calls Tryd.prog 15 #[.pointer none, .slice a0 n0 cap0] W fun e w' => e = .returned (.tuple #[]) ∧ Off (fun _ => False) W w') := Lib.hid (fun W => write_nil a0 n0 cap0 W)
  have FL := Lib.hid len_nil
  have FC := Lib.hid clone_nil
  obtain ⟨A, hA⟩ : ∃ A, A = ((List.replicate 32 0).map u8v).toArray := ⟨_, rfl⟩
  have FS := Lib.hid (fun W => hsum_nil W)
  rw [← hA] at FS
  have heq : ∀ W, (Op.equalIn 10000 25 (.agg A) (.agg A)).run Tryd.prog W = .ok true W := fun W => by
    rw [hA, equalIn_32 _ _ (by simp) (by simp)]; simp
  have heq : ∀ W, (Op.equalIn 10000 25 (.agg A) (.agg #[.int .u8 0, .int .u8 0, .int .u8 0, .int .u8 0, .int .u8 0, .int .u8 0, .int .u8 0, .int .u8 0, .int .u8 0, .int .u8 0, .int .u8 0, .int .u8 0, .int .u8 0, .int .u8 0, .int .u8 0, .int .u8 0, .int .u8 0, .int .u8 0, .int .u8 0, .int .u8 0, .int .u8 0, .int .u8 0, .int .u8 0, .int .u8 0, .int .u8 0, .int .u8 0, .int .u8 0, .int .u8 0, .int .u8 0, .int .u8 0, .int .u8 0, .int .u8 0])).run Tryd.prog W = .ok true W := fun W => by
    have h := heq W
    rw [hA] at h ⊢
    exact h
  clear hA hn0 hc0 hs0 w0 hT
  go_enter Tryd.func7, Tryd.ntmps7
  go_wp2_with fail
  refine (FW.out _).mono ?_
  rintro e u0 ⟨rfl, hO⟩
  have HO0 := Lib.hid hO
  clear hO
  go_wp2_with fail
  refine (FAL.out _ HO0.out).mono ?_
  rintro e u1 ⟨rfl, ho⟩
  have HO1 := Lib.hid (HO0.out.trans ho (fun _ _ c => c))
  clear ho
  go_wp2_with fail
  refine (FL.out _).mono ?_
  rintro e u2 ⟨rfl, ho⟩
  have HO2 := Lib.hid (HO1.out.trans ho (fun _ _ c => c))
  clear ho
  go_wp2_with fail
  refine (FS.out _).mono ?_
  rintro e u3 ⟨rfl, ho⟩
  have HO3 := Lib.hid (HO2.out.trans ho (fun _ _ c => c))
  clear ho
  go_wp2_with fail
  refine (FC.out _).mono ?_
  rintro e u4 ⟨rfl, ho⟩
  have HO4 := Lib.hid (HO3.out.trans ho (fun _ _ c => c))
  clear ho
  go_wp2_with fail
  go_ret
  exact ⟨rfl, HO4.out⟩

theorem door_met (os : Os) (args : Array Value) : laidMetH Tryd.prog [("sharecore/sha.constants", Rows.laid_sharecore_sha_constants), ("sharecore/sha.initial", Rows.laid_sharecore_sha_initial)] ((World.doorLaid Tryd.prog 400 os).forCall (fun _ _ => 0) ⟨#[], args, []⟩).memory :=
  laidMetH_of_parts3 (fuel := 8) (laidMet_of_run' 8 (by kernel_rfl) (by kernel_rfl)) (by kernel_rfl) (by kernel_rfl)

set_option maxRecDepth 100000 in
theorem lifted (os : Os) (started : os.Started) (H : Type) (enc : TypeId × Value → H) :
    ReturnsInHanded {} Tryd.checked os 7 .any (fun w args => (Rows.shaNilSpec.pre enc Tryd.prog Tryd.f7 [] false w args ∧ laidMetH Tryd.prog [("sharecore/sha.constants", Rows.laid_sharecore_sha_constants), ("sharecore/sha.initial", Rows.laid_sharecore_sha_initial)] w) ∧ sizedMet enc Tryd.prog Tryd.f7 (OpenSpec.ofChange Rows.shaNilSpec) false w args)
      (Rows.shaNilSpec.post enc Tryd.prog Tryd.f7 false true false false) := by
  refine returnsInHanded_of_change_and (C := Tryd.checked) (X := fun w _ => laidMetH Tryd.prog [("sharecore/sha.constants", Rows.laid_sharecore_sha_constants), ("sharecore/sha.initial", Rows.laid_sharecore_sha_initial)] w) (fun _ _ _ hh h => h.of_heap hh) own started (by kernel_rfl) Tryd.func7
    (ChangeSpec.witness_shaped (enc := enc) (C := Tryd.checked) (os := os) (X := fun w _ => laidMetH Tryd.prog [("sharecore/sha.constants", Rows.laid_sharecore_sha_constants), ("sharecore/sha.initial", Rows.laid_sharecore_sha_initial)] w) false (World.doorLaid Tryd.prog 400 os) #[.slice none 0 0] 8 rfl (World.shaped_of_RefB (by kernel_rfl) (by kernel_rfl)) (by kernel_rfl) (by kernel_rfl) (by kernel_rfl) (door_met os _)) ?_
  intro W base args ds gs before hval0 hW _ _ hL _
  have hval : ∀ (j : Nat) t v, Tryd.f7.params[j]? = some t → args[j]? = some v → Value.okWide Tryd.prog W .any base t v := hval0
  have hW' := hW
  obtain ⟨p, q, hA0, hV, rfl, hfz, hnd⟩ := hW
  have hA : DataW.TrodAll enc Tryd.prog W 0 (fun _ => true) true Tryd.f7.params.toList args.toList ds p := hA0
  rw [Tryd.params7] at hA hval
  obtain ⟨v0, vs0, d0, ds0, p0, q0, hargs, rfl, rfl, h0, r0⟩ := trodAll_cons hA
  obtain ⟨rfl, rfl, rfl⟩ := trodAll_nil r0
  obtain rfl : args = #[v0] := by cases args; simp_all
  obtain ⟨rfl, rfl⟩ := trodVars_none hV
  obtain ⟨a0, n0, cap0, rfl⟩ := okWide_slice Tryd.underlying22 (hval 0 22 v0 rfl rfl)
  have k0 := h0
  have lt0 : ∀ x ∈ p0, x.block < W.heap.size := by obtain ⟨m, hm⟩ := k0; exact DataW.trod_lt m _ _ _ hm
  obtain ⟨bs0, hn0, hc0, hs0, w0⟩ : ∃ bs, n0 = bs.length ∧ n0 ≤ cap0 ∧ Small bs ∧ BsAt W a0 bs (fun k => k < W.heap.size) := by
    obtain ⟨fuel, hf⟩ := h0
    exact bytes_of_trod hf
  have hT := tab_of_laid hL
  clear hA0 hval0
  refine (walk a0 n0 cap0 bs0 W hn0 hc0 hs0 w0 hT).mono fun e W' ⟨he, hoff⟩ => ?_
  have bel : Below W.heap.size W W' := hoff.below (Nat.le_refl _) (fun _ _ c => c)
  subst he
  exact ⟨_, rfl, _, _, _, [], _, [], hW', trodAll_mk1 (shut_bool Tryd.underlying4 _), (trodAll_cons_mk (Below.trod laidOut (by kernel_rfl) (of_decide_eq_true (by kernel_rfl)) k0 bel lt0) trodAll_mk0), rfl, bel.frame _, fun h => by cases h⟩

theorem over : Rows.shaNilRow.holds Tryd.pinned (OpenSpec.ofChange Rows.shaNilSpec) :=
  OpenClaim.holds_of_wide 7 Tryd.f7 rfl rfl rfl rfl rfl rfl rfl ⟨rfl, rfl, rfl, rfl, rfl⟩ rfl rfl rfl rfl rfl (by kernel_rfl) Tryd.func7 (by kernel_rfl)
    (of_decide_eq_true (by kernel_rfl)) (by unfold Func.isWrapper; first | (rw [if_pos (by decide +kernel)]; kernel_rfl) | (rw [if_neg (by decide +kernel)]; exact ⟨rfl, rfl⟩))
    (fun os started H enc _ => lifted os started H enc)

theorem proved : Rows.ShaNilCardSaid :=
  Claim7.holds_tied_plain_at .later [] [.data, .data] true (true, "cea195b8e4b1cc889c1d1eca119c860888cfb8d83522847ae16b7d8c1e6b5c42") false
    over (fun _ h => by cases h) (by kernel_rfl) (fun _ h => by cases h) shaNil_row_tie rfl ⟨rfl, rfl⟩ (by kernel_rfl) rfl
    (fun f fn hf hfn => by
      obtain rfl : f = 7 := Option.some.inj ((show Tryd.prog.funcNamed "sharecore/sharecorelaw12.ShaNil" = some 7 by kernel_rfl).symm.trans hf) |>.symm
      obtain rfl : fn = Tryd.f7 := (Option.some.inj (Tryd.func7.symm.trans hfn)).symm
      exact ⟨by kernel_rfl, fun j t ht => by
        rw [Tryd.params7] at ht
        have hm : t ∈ [22] := by simpa using Array.mem_of_getElem? ht
        have hall : ([22].all fun u => !Tryd.prog.wantsStandIn u) = true := by kernel_rfl
        exact (show Tryd.prog.wantsStandIn t = false by simpa using List.all_eq_true.1 hall t hm)⟩)
    (by kernel_rfl)
#print axioms proved
end Go.Proofs.YthjfhgnmaepafaaDoor.shaNil
