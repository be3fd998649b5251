/-
  For all bytes and a change of one of them, the examples of the chapter hold, and their sums are equal exactly if those of the reference are, and the sum of the changed bytes is that of the reference: the statement of P12.1. No condition but the row's own (the tables of the constants and of the first state lie in memory as the program's text lays them).
-/
import Derived.Test.YthjfhgnmaepafaaDoorRows
import Derived.Test.YthjfhgnmaepafaaDoorTie
import Derived.Test.YthjfhgnmaepafaaDoorCards
import Derived.LaidMore
import Derived.LaidHandle
import Derived.SevenTiedAt
import Derived.Stop.Joined
import Derived.JoinedOf
import Derived.Test.YthjfhgnmaepafaaDoorBytOpen
import Derived.Test.YthjfhgnmaepafaaDoorShaTabs
import Derived.Test.YthjfhgnmaepafaaDoorShaAlive
import Derived.Test.YthjfhgnmaepafaaDoorInvSel
import Derived.WalkKit
import Derived.ProofKit
import Derived.OpenShut
import Derived.ShutString
import Derived.ChangeOld
import Derived.Below
namespace Go.Proofs.YthjfhgnmaepafaaDoor.shaDiffers
open Go.ChangeShapes Go.WideShapes Go.ChangeAt Go.RowKit
set_option linter.unusedVariables false

theorem own : ownKnob Tryd.prog.godebug = none := by kernel_rfl
theorem laidOut : laidOutB Tryd.prog = true := by kernel_rfl

set_option linter.unusedSimpArgs false
theorem xor_u8 {a b : Nat} (ha : a < 256) (hb : b < 256) : bits .xor .u8 (a : Int) (b : Int) = ((a ^^^ b : Nat) : Int) := by
  have hx : a ^^^ b < 2 ^ 8 := Nat.xor_lt_two_pow (by omega) (by omega)
  have h1 : (BitVec.ofInt 8 (a : Int)).toNat = a := by rw [BitVec.ofInt_natCast, BitVec.toNat_ofNat]; exact Nat.mod_eq_of_lt (by omega)
  have h2 : (BitVec.ofInt 8 (b : Int)).toNat = b := by rw [BitVec.ofInt_natCast, BitVec.toNat_ofNat]; exact Nat.mod_eq_of_lt (by omega)
  show IntKind.u8.wrap ((BitVec.ofInt 8 (a : Int) ^^^ BitVec.ofInt 8 (b : Int)).toNat : Int) = _
  rw [BitVec.toNat_xor, h1, h2, IntKind.wrap_u8]
  omega
set_option maxRecDepth 100000 in
set_option maxHeartbeats 4000000 in
theorem walk (a0 : Option Addr) (n0 cap0 : Nat) (bs0 : List Nat) (i1 : Int) (i2 : Int) (w : World) (hn0 : n0 = bs0.length) (hc0 : n0 ≤ cap0) (hs0 : Small bs0) (w0 : BsAt w a0 bs0 (fun k => k < w.heap.size)) (w1 : (Lit.int .u16 i1).wf = true) (w2 : (Lit.int .u8 i2).wf = true) (hT : TabAt w) :
    Calls Tryd.prog 8 #[.slice a0 n0 cap0, .int .u16 i1, .int .u8 i2] w fun e w' => e = .returned (.bool true) ∧ Off (fun _ => False) w w' := by
  have FAL := Lib.hid (fun W (h : Off (fun _ => False) w W) => alive_any W (hT.off h))
  by_cases hbig : 2000 < n0
  · have i1 : (2000 : Int) < (n0 : Int) := by omega
    have i2 : decide ((2000 : Int) < (n0 : Int)) = true := by simp; omega
    clear hn0 hc0 hs0 w0 w1 w2 hT hbig
    go_enter Tryd.func8, Tryd.ntmps8
    go_wp2_with fail
    refine (FAL.out _ (Off.refl _ w)).mono ?_
    rintro e u0 ⟨rfl, hO⟩
    have HO := Lib.hid hO
    clear hO FAL
    go_wp2_with fail
    go_ret
    exact ⟨rfl, HO.out⟩
  · by_cases hz : n0 = 0
    · have i1 : ¬ ((2000 : Int) < (n0 : Int)) := by omega
      have i2 : decide ((2000 : Int) < (n0 : Int)) = false := by simp; omega
      have i3 : ((n0 : Int) == 0) = true := by simp; omega
      have i4 : (n0 : Int) = 0 := by omega
      clear hz
      clear hn0 hc0 hs0 w0 w1 w2 hT hbig
      go_enter Tryd.func8, Tryd.ntmps8
      go_wp2_with fail
      refine (FAL.out _ (Off.refl _ w)).mono ?_
      rintro e u0 ⟨rfl, hO⟩
      have HO := Lib.hid hO
      clear hO FAL
      go_wp2_with fail
      go_ret
      exact ⟨rfl, HO.out⟩
    · have j1 : ¬ ((2000 : Int) < (n0 : Int)) := by omega
      have j2 : decide ((2000 : Int) < (n0 : Int)) = false := by simp; omega
      have j3 : ((n0 : Int) == 0) = false := by simp; omega
      have j4 : ¬ ((n0 : Int) = 0) := by omega
      obtain ⟨I, rfl⟩ : ∃ I : Nat, i1 = (I : Int) := Int.eq_ofNat_of_zero_le (bounds_u16 w1).1
      obtain ⟨K, rfl⟩ : ∃ K : Nat, i2 = (K : Int) := Int.eq_ofNat_of_zero_le (bounds_u8 w2).1
      have hI : I ≤ 65535 := by have := (bounds_u16 w1).2; omega
      have hK : K < 256 := by have := (bounds_u8 w2).2; omega
      obtain ⟨x, hx⟩ : ∃ x, x = I % n0 := ⟨_, rfl⟩
      have hxn : x < n0 := hx ▸ Nat.mod_lt _ (by omega)
      have c1 : IntKind.i64.wrap (I : Int) = (I : Int) := by rw [IntKind.wrap_i64]; omega
      have c2 : (I : Int) % (n0 : Int) = (x : Int) := by rw [hx]; simp
      have c3 : (I : Int).tmod (n0 : Int) = (x : Int) := by rw [Int.tmod_eq_emod_of_nonneg (by omega)]; exact c2
      have FS0 := Lib.hid (fun W (h : Off (fun _ => False) w W) => sum_any a0 n0 cap0 bs0 (fun _ => True) W ((w0.off h (fun _ _ _ c => c)).mono (fun _ _ _ => trivial)) hn0 hc0 hs0 (by omega) (hT.off h))
      have FR0 := Lib.hid (fun W (h : Off (fun _ => False) w W) => refsum_any a0 n0 cap0 bs0 (fun _ => True) W ((w0.off h (fun _ _ _ c => c)).mono (fun _ _ _ => trivial)) hn0 hs0 (by omega))
      have FC := Lib.hid (clone_by a0 n0 cap0 bs0 _ w w0 hn0 (by omega))
      obtain ⟨v, hv⟩ : ∃ v, bs0[x]? = some v := ⟨_, List.getElem?_eq_getElem (by omega)⟩
      have hv256 : v < 256 := hs0 v (List.mem_of_getElem? hv)
      have c4 := xor_u8 hv256 hK
      obtain ⟨z, hz'⟩ : ∃ z, z = v ^^^ K := ⟨_, rfl⟩
      have hz256 : z < 256 := hz' ▸ Nat.xor_lt_two_pow (n := 8) hv256 hK
      rw [← hz'] at c4
      obtain ⟨cs, hcs⟩ : ∃ cs, cs = bs0.set x z := ⟨_, rfl⟩
      have hcl : cs.length = n0 := by rw [hcs, List.length_set, hn0]
      have hcm : Sm cs := by
        rw [hcs]
        intro y hy
        rcases List.mem_or_eq_of_mem_set hy with h | h
        · exact hs0 y h
        · rw [h]; exact hz256
      obtain ⟨A, hA⟩ : ∃ A, A = ((shaN bs0).map u8v).toArray := ⟨_, rfl⟩
      obtain ⟨B, hB⟩ : ∃ B, B = ((shaN cs).map u8v).toArray := ⟨_, rfl⟩
      obtain ⟨Q, hQ⟩ : ∃ Q, Q = decide (shaN bs0 = shaN cs) := ⟨_, rfl⟩
      rw [← hA] at FS0 FR0
      have e1 : ∀ W, (Op.equalIn 10000 25 (.agg A) (.agg B)).run Tryd.prog W = .ok Q W := fun W => by
        rw [hA, hB, hQ, equalIn_32 _ _ (shaN_length _) (shaN_length _)]
      have e2 : ∀ W, (Op.equalIn 10000 25 (.agg B) (.agg B)).run Tryd.prog W = .ok true W := fun W => by
        rw [hB, equalIn_32 _ _ (shaN_length _) (shaN_length _)]; simp
      have FB := Lib.hid (fun W a c (hT : TabAt W) (hb : BsAt W a cs (fun _ => True)) (hc : n0 ≤ c) => sum_any a n0 c cs (fun _ => True) W hb hcl.symm hc hcm (by omega) hT)
      have FB' := Lib.hid (fun W a c (hb : BsAt W a cs (fun _ => True)) => refsum_any a n0 c cs (fun _ => True) W hb hcl.symm hcm (by omega))
      rw [← hB] at FB FB'
      have HT := Lib.hid hT
      have HV := Lib.hid hv
      have HCS := Lib.hid hcs
      have HX := Lib.hid hxn
      have HN := Lib.hid hn0
      have HCL := Lib.hid hcl
      have xi : (x : Int) < (n0 : Int) := by omega
      clear hA hB hQ hn0 hc0 hs0 w0 w1 w2 hT hv hcs hz' hv256 hz256 hcm hcl hI hK hx hxn hbig hz
      go_enter Tryd.func8, Tryd.ntmps8
      go_wp2_with fail
      refine (FC.out).mono ?_
      rintro e u0 ⟨v', rfl, hrow, hO⟩
      obtain ⟨g, cap', hv', hcap', hB0, hg, hxs⟩ := hrow.form (by have := HN.out; have := HX.out; omega)
      have hfz := World.ownsRow.frozenAt (by have h := hrow; rw [hv'] at h; exact h) x
      have hst := (World.ownsRow.stored (by have h := hrow; rw [hv'] at h; exact h) x (u8v z)).1
      rw [← HN.out] at hv' hcap'
      subst hv'
      have hcell := hxs x v HV.out
      have HST := Lib.hid (show RowB w.heap.size (u0.setCell ⟨g, x, none⟩ (u8v z)) (.slice (some ⟨g, 0, none⟩) n0 cap') cs by
        unfold RowB RowT
        rw [HCL.out, HCS.out, List.map_set, HN.out]
        exact hst)
      have HO0 := Lib.hid (hO.setCell (p := ⟨g, x, none⟩) (fun h => absurd (Nat.lt_of_lt_of_le h hB0) (Nat.lt_irrefl _)) (u8v z))
      have HCP := Lib.hid hcap'
      clear hrow hO hB0 hxs hst hcap' FC HN
      go_upto_region 5 with fail
      obtain ⟨wq, hwq⟩ : ∃ wq, wq = u0.setCell ⟨g, x, none⟩ (u8v z) := ⟨_, rfl⟩
      rw [← hwq] at HST HO0
      have HWQ := Lib.hid hwq
      have FAL1 := Lib.hid (fun W (h : Off (fun _ => False) wq W) => FAL.out W (HO0.out.trans h (fun _ _ c => c)))
      have FSA := Lib.hid (fun W (h : Off (fun _ => False) wq W) => FS0.out W (HO0.out.trans h (fun _ _ c => c)))
      have FRA := Lib.hid (fun W (h : Off (fun _ => False) wq W) => FR0.out W (HO0.out.trans h (fun _ _ c => c)))
      have HBC := Lib.hid (fun W (h : Off (fun _ => False) wq W) => show BsAt W (some ⟨g, 0, none⟩) cs (fun _ => True) from by
        obtain ⟨a9, c9, h1, _, h2⟩ := HST.out.at
        simp at h1
        rw [h1.1.symm] at h2
        exact (h2.off h (fun _ _ _ c => c)).mono (fun _ _ _ => trivial))
      have FSB := Lib.hid (fun W (h : Off (fun _ => False) wq W) => FB.out W (some ⟨g, 0, none⟩) cap' (HT.out.off (HO0.out.trans h (fun _ _ c => c))) (HBC.out W h) HCP.out)
      have FRB := Lib.hid (fun W (h : Off (fun _ => False) wq W) => FB'.out W (some ⟨g, 0, none⟩) cap' (HBC.out W h))
      clear hwq hcell hfz FAL FS0 FR0 HBC HST FB FB' c1 c2 c3 c4
      rw [show u0.setCell ⟨g, x, none⟩ (.int .u8 (z : Int)) = wq from HWQ.out.symm]
      obtain ⟨x30, hx⟩ : ∃ x : Value, x = .bool true := ⟨_, rfl⟩
      have X30 := Lib.hid hx
      clear hx
      obtain ⟨x31, hx⟩ : ∃ x : Value, x = .bool true := ⟨_, rfl⟩
      have X31 := Lib.hid hx
      clear hx
      obtain ⟨x32, hx⟩ : ∃ x : Value, x = .slice a0 n0 cap0 := ⟨_, rfl⟩
      have X32 := Lib.hid hx
      clear hx
      obtain ⟨x33, hx⟩ : ∃ x : Value, x = .agg A := ⟨_, rfl⟩
      have X33 := Lib.hid hx
      clear hx
      obtain ⟨x34, hx⟩ : ∃ x : Value, x = .slice (some ⟨g, 0, none⟩) n0 cap' := ⟨_, rfl⟩
      have X34 := Lib.hid hx
      clear hx
      obtain ⟨x35, hx⟩ : ∃ x : Value, x = .agg B := ⟨_, rfl⟩
      have X35 := Lib.hid hx
      clear hx
      obtain ⟨x36, hx⟩ : ∃ x : Value, x = .bool Q := ⟨_, rfl⟩
      have X36 := Lib.hid hx
      clear hx
      obtain ⟨x37, hx⟩ : ∃ x : Value, x = .slice a0 n0 cap0 := ⟨_, rfl⟩
      have X37 := Lib.hid hx
      clear hx
      obtain ⟨x38, hx⟩ : ∃ x : Value, x = .agg A := ⟨_, rfl⟩
      have X38 := Lib.hid hx
      clear hx
      obtain ⟨x39, hx⟩ : ∃ x : Value, x = .slice (some ⟨g, 0, none⟩) n0 cap' := ⟨_, rfl⟩
      have X39 := Lib.hid hx
      clear hx
      obtain ⟨x40, hx⟩ : ∃ x : Value, x = .agg B := ⟨_, rfl⟩
      have X40 := Lib.hid hx
      clear hx
      obtain ⟨x41, hx⟩ : ∃ x : Value, x = .bool Q := ⟨_, rfl⟩
      have X41 := Lib.hid hx
      clear hx
      obtain ⟨x42, hx⟩ : ∃ x : Value, x = .bool true := ⟨_, rfl⟩
      have X42 := Lib.hid hx
      clear hx
      obtain ⟨x43, hx⟩ : ∃ x : Value, x = .bool true := ⟨_, rfl⟩
      have X43 := Lib.hid hx
      clear hx
      obtain ⟨x44, hx⟩ : ∃ x : Value, x = .bool true := ⟨_, rfl⟩
      have X44 := Lib.hid hx
      clear hx
      obtain ⟨x45, hx⟩ : ∃ x : Value, x = .slice (some ⟨g, 0, none⟩) n0 cap' := ⟨_, rfl⟩
      have X45 := Lib.hid hx
      clear hx
      obtain ⟨x46, hx⟩ : ∃ x : Value, x = .agg B := ⟨_, rfl⟩
      have X46 := Lib.hid hx
      clear hx
      obtain ⟨x47, hx⟩ : ∃ x : Value, x = .slice (some ⟨g, 0, none⟩) n0 cap' := ⟨_, rfl⟩
      have X47 := Lib.hid hx
      clear hx
      obtain ⟨x48, hx⟩ : ∃ x : Value, x = .agg B := ⟨_, rfl⟩
      have X48 := Lib.hid hx
      clear hx
      obtain ⟨x49, hx⟩ : ∃ x : Value, x = .bool true := ⟨_, rfl⟩
      have X49 := Lib.hid hx
      clear hx
      obtain ⟨x50, hx⟩ : ∃ x : Value, x = .bool true := ⟨_, rfl⟩
      have X50 := Lib.hid hx
      clear hx
      obtain ⟨x6, hx⟩ : ∃ x : Value, x = .bool true := ⟨_, rfl⟩
      have X6 := Lib.hid hx
      clear hx
      refine wp_region_inv (fun a0 l a' w' => a' = (Act.put (fill a0 30 [sel (l 0) x30 undef, sel (l 1) x31 undef, sel (l 2) x32 undef, sel (l 3) x33 undef, sel (l 4) x34 undef, sel (l 5) x35 undef, sel (l 6) x36 undef, sel (l 7) x37 undef, sel (l 8) x38 undef, sel (l 9) x39 undef, sel (l 10) x40 undef, sel (l 11) x41 undef, sel (l 12) x42 undef, sel (l 13) x43 undef, sel (l 14) x44 undef, sel (l 15) x45 undef, sel (l 16) x46 undef, sel (l 17) x47 undef, sel (l 18) x48 undef, sel (l 19) x49 undef, sel (l 20) x50 undef]) (some 6) (sel (l 21) x6 (.bool false))) ∧ Off (fun _ => False) wq w') (by kernel_rfl) (by kernel_rfl) ?_ ⟨?_, ?_, ?_, ?_, ?_, ?_, ?_, ?_, ?_, ?_, ?_, ?_, ?_, ?_, ?_, ?_, ?_, ?_, ?_, ?_, ?_, ?_, trivial⟩ ?_
      · refine ⟨?_, (Off.refl _ wq).drew⟩
        simp only [fill_eq, List.take_succ_cons, List.take_zero, List.cons_append, List.nil_append, Act.put, List.setIfInBounds_toArray, List.set_cons_zero, List.set_cons_succ, sel_start]
      · as_aux_lemma =>
          rintro l a wr ⟨ha, hO⟩ hl hd K' hK
          have hx := X30.out; subst hx
          simp only [fill_eq, List.take_succ_cons, List.take_zero, List.cons_append, List.nil_append, Act.put, List.setIfInBounds_toArray, List.set_cons_zero, List.set_cons_succ] at ha
          subst ha
          rw [if_pos (by rfl)]
          go_simp
          refine (held_inv (FAL1.out wr hO) hO).mono ?_
          rintro e w1 ⟨rfl, hO1, hOW⟩
          go_wp2_with fail
          refine hK.out _ _ ⟨?_, hO1⟩
          simp only [fill_eq, List.take_succ_cons, List.take_zero, List.cons_append, List.nil_append, Act.put, List.setIfInBounds_toArray, List.set_cons_zero, List.set_cons_succ, sel_new]
          rfl
      · as_aux_lemma =>
          rintro l a wr ⟨ha, hO⟩ hl hd K' hK
          have d0 := hd 0 (by decide)
          have hx := X30.out; subst hx
          have hx := X31.out; subst hx
          simp only [fill_eq, List.take_succ_cons, List.take_zero, List.cons_append, List.nil_append, Act.put, List.setIfInBounds_toArray, List.set_cons_zero, List.set_cons_succ, sel_of d0] at ha
          subst ha
          rw [if_pos (by rfl)]
          go_simp
          refine hK.out _ _ ⟨?_, hO⟩
          simp only [fill_eq, List.take_succ_cons, List.take_zero, List.cons_append, List.nil_append, Act.put, List.setIfInBounds_toArray, List.set_cons_zero, List.set_cons_succ, sel_new, sel_dep d0]
          rfl
      · as_aux_lemma =>
          rintro l a wr ⟨ha, hO⟩ hl hd K' hK
          have d1 := hd 1 (by decide)
          have hx := X31.out; subst hx
          have hx := X32.out; subst hx
          simp only [fill_eq, List.take_succ_cons, List.take_zero, List.cons_append, List.nil_append, Act.put, List.setIfInBounds_toArray, List.set_cons_zero, List.set_cons_succ, sel_of d1] at ha
          subst ha
          rw [if_pos (by rfl)]
          go_simp
          refine hK.out _ _ ⟨?_, hO⟩
          simp only [fill_eq, List.take_succ_cons, List.take_zero, List.cons_append, List.nil_append, Act.put, List.setIfInBounds_toArray, List.set_cons_zero, List.set_cons_succ, sel_new, sel_dep d1]
          rfl
      · as_aux_lemma =>
          rintro l a wr ⟨ha, hO⟩ hl hd K' hK
          have d1 := hd 1 (by decide)
          have d2 := hd 2 (by decide)
          have hx := X31.out; subst hx
          have hx := X32.out; subst hx
          have hx := X33.out; subst hx
          simp only [fill_eq, List.take_succ_cons, List.take_zero, List.cons_append, List.nil_append, Act.put, List.setIfInBounds_toArray, List.set_cons_zero, List.set_cons_succ, sel_of d1, sel_of d2] at ha
          subst ha
          rw [if_pos (by rfl)]
          go_simp
          refine (held_inv (FSA.out wr hO) hO).mono ?_
          rintro e w1 ⟨rfl, hO1, hOW⟩
          go_wp2_with fail
          refine hK.out _ _ ⟨?_, hO1⟩
          simp only [fill_eq, List.take_succ_cons, List.take_zero, List.cons_append, List.nil_append, Act.put, List.setIfInBounds_toArray, List.set_cons_zero, List.set_cons_succ, sel_new, sel_dep d1, sel_dep d2]
          rfl
      · as_aux_lemma =>
          rintro l a wr ⟨ha, hO⟩ hl hd K' hK
          have d1 := hd 1 (by decide)
          have hx := X31.out; subst hx
          have hx := X34.out; subst hx
          simp only [fill_eq, List.take_succ_cons, List.take_zero, List.cons_append, List.nil_append, Act.put, List.setIfInBounds_toArray, List.set_cons_zero, List.set_cons_succ, sel_of d1] at ha
          subst ha
          rw [if_pos (by rfl)]
          go_simp
          refine hK.out _ _ ⟨?_, hO⟩
          simp only [fill_eq, List.take_succ_cons, List.take_zero, List.cons_append, List.nil_append, Act.put, List.setIfInBounds_toArray, List.set_cons_zero, List.set_cons_succ, sel_new, sel_dep d1]
          rfl
      · as_aux_lemma =>
          rintro l a wr ⟨ha, hO⟩ hl hd K' hK
          have d1 := hd 1 (by decide)
          have d4 := hd 4 (by decide)
          have hx := X31.out; subst hx
          have hx := X34.out; subst hx
          have hx := X35.out; subst hx
          simp only [fill_eq, List.take_succ_cons, List.take_zero, List.cons_append, List.nil_append, Act.put, List.setIfInBounds_toArray, List.set_cons_zero, List.set_cons_succ, sel_of d1, sel_of d4] at ha
          subst ha
          rw [if_pos (by rfl)]
          go_simp
          refine (held_inv (FSB.out wr hO) hO).mono ?_
          rintro e w1 ⟨rfl, hO1, hOW⟩
          go_wp2_with fail
          refine hK.out _ _ ⟨?_, hO1⟩
          simp only [fill_eq, List.take_succ_cons, List.take_zero, List.cons_append, List.nil_append, Act.put, List.setIfInBounds_toArray, List.set_cons_zero, List.set_cons_succ, sel_new, sel_dep d1, sel_dep d4]
          rfl
      · as_aux_lemma =>
          rintro l a wr ⟨ha, hO⟩ hl hd K' hK
          have d1 := hd 1 (by decide)
          have d3 := hd 3 (by decide)
          have d5 := hd 5 (by decide)
          have hx := X31.out; subst hx
          have hx := X33.out; subst hx
          have hx := X35.out; subst hx
          have hx := X36.out; subst hx
          simp only [fill_eq, List.take_succ_cons, List.take_zero, List.cons_append, List.nil_append, Act.put, List.setIfInBounds_toArray, List.set_cons_zero, List.set_cons_succ, sel_of d1, sel_of d3, sel_of d5] at ha
          subst ha
          rw [if_pos (by rfl)]
          go_simp
          refine hK.out _ _ ⟨?_, hO⟩
          simp only [fill_eq, List.take_succ_cons, List.take_zero, List.cons_append, List.nil_append, Act.put, List.setIfInBounds_toArray, List.set_cons_zero, List.set_cons_succ, sel_new, sel_dep d1, sel_dep d3, sel_dep d5]
          rfl
      · as_aux_lemma =>
          rintro l a wr ⟨ha, hO⟩ hl hd K' hK
          have d1 := hd 1 (by decide)
          have hx := X31.out; subst hx
          have hx := X37.out; subst hx
          simp only [fill_eq, List.take_succ_cons, List.take_zero, List.cons_append, List.nil_append, Act.put, List.setIfInBounds_toArray, List.set_cons_zero, List.set_cons_succ, sel_of d1] at ha
          subst ha
          rw [if_pos (by rfl)]
          go_simp
          refine hK.out _ _ ⟨?_, hO⟩
          simp only [fill_eq, List.take_succ_cons, List.take_zero, List.cons_append, List.nil_append, Act.put, List.setIfInBounds_toArray, List.set_cons_zero, List.set_cons_succ, sel_new, sel_dep d1]
          rfl
      · as_aux_lemma =>
          rintro l a wr ⟨ha, hO⟩ hl hd K' hK
          have d1 := hd 1 (by decide)
          have d7 := hd 7 (by decide)
          have hx := X31.out; subst hx
          have hx := X37.out; subst hx
          have hx := X38.out; subst hx
          simp only [fill_eq, List.take_succ_cons, List.take_zero, List.cons_append, List.nil_append, Act.put, List.setIfInBounds_toArray, List.set_cons_zero, List.set_cons_succ, sel_of d1, sel_of d7] at ha
          subst ha
          rw [if_pos (by rfl)]
          go_simp
          refine (held_inv (FRA.out wr hO) hO).mono ?_
          rintro e w1 ⟨rfl, hO1, hOW⟩
          go_wp2_with fail
          refine hK.out _ _ ⟨?_, hO1⟩
          simp only [fill_eq, List.take_succ_cons, List.take_zero, List.cons_append, List.nil_append, Act.put, List.setIfInBounds_toArray, List.set_cons_zero, List.set_cons_succ, sel_new, sel_dep d1, sel_dep d7]
          rfl
      · as_aux_lemma =>
          rintro l a wr ⟨ha, hO⟩ hl hd K' hK
          have d1 := hd 1 (by decide)
          have hx := X31.out; subst hx
          have hx := X39.out; subst hx
          simp only [fill_eq, List.take_succ_cons, List.take_zero, List.cons_append, List.nil_append, Act.put, List.setIfInBounds_toArray, List.set_cons_zero, List.set_cons_succ, sel_of d1] at ha
          subst ha
          rw [if_pos (by rfl)]
          go_simp
          refine hK.out _ _ ⟨?_, hO⟩
          simp only [fill_eq, List.take_succ_cons, List.take_zero, List.cons_append, List.nil_append, Act.put, List.setIfInBounds_toArray, List.set_cons_zero, List.set_cons_succ, sel_new, sel_dep d1]
          rfl
      · as_aux_lemma =>
          rintro l a wr ⟨ha, hO⟩ hl hd K' hK
          have d1 := hd 1 (by decide)
          have d9 := hd 9 (by decide)
          have hx := X31.out; subst hx
          have hx := X39.out; subst hx
          have hx := X40.out; subst hx
          simp only [fill_eq, List.take_succ_cons, List.take_zero, List.cons_append, List.nil_append, Act.put, List.setIfInBounds_toArray, List.set_cons_zero, List.set_cons_succ, sel_of d1, sel_of d9] at ha
          subst ha
          rw [if_pos (by rfl)]
          go_simp
          refine (held_inv (FRB.out wr hO) hO).mono ?_
          rintro e w1 ⟨rfl, hO1, hOW⟩
          go_wp2_with fail
          refine hK.out _ _ ⟨?_, hO1⟩
          simp only [fill_eq, List.take_succ_cons, List.take_zero, List.cons_append, List.nil_append, Act.put, List.setIfInBounds_toArray, List.set_cons_zero, List.set_cons_succ, sel_new, sel_dep d1, sel_dep d9]
          rfl
      · as_aux_lemma =>
          rintro l a wr ⟨ha, hO⟩ hl hd K' hK
          have d1 := hd 1 (by decide)
          have d8 := hd 8 (by decide)
          have d10 := hd 10 (by decide)
          have hx := X31.out; subst hx
          have hx := X38.out; subst hx
          have hx := X40.out; subst hx
          have hx := X41.out; subst hx
          simp only [fill_eq, List.take_succ_cons, List.take_zero, List.cons_append, List.nil_append, Act.put, List.setIfInBounds_toArray, List.set_cons_zero, List.set_cons_succ, sel_of d1, sel_of d8, sel_of d10] at ha
          subst ha
          rw [if_pos (by rfl)]
          go_simp
          refine hK.out _ _ ⟨?_, hO⟩
          simp only [fill_eq, List.take_succ_cons, List.take_zero, List.cons_append, List.nil_append, Act.put, List.setIfInBounds_toArray, List.set_cons_zero, List.set_cons_succ, sel_new, sel_dep d1, sel_dep d8, sel_dep d10]
          rfl
      · as_aux_lemma =>
          rintro l a wr ⟨ha, hO⟩ hl hd K' hK
          have d1 := hd 1 (by decide)
          have d6 := hd 6 (by decide)
          have d11 := hd 11 (by decide)
          have hx := X31.out; subst hx
          have hx := X36.out; subst hx
          have hx := X41.out; subst hx
          have hx := X42.out; subst hx
          simp only [fill_eq, List.take_succ_cons, List.take_zero, List.cons_append, List.nil_append, Act.put, List.setIfInBounds_toArray, List.set_cons_zero, List.set_cons_succ, sel_of d1, sel_of d6, sel_of d11] at ha
          subst ha
          rw [if_pos (by rfl)]
          go_simp
          refine hK.out _ _ ⟨?_, hO⟩
          simp only [fill_eq, List.take_succ_cons, List.take_zero, List.cons_append, List.nil_append, Act.put, List.setIfInBounds_toArray, List.set_cons_zero, List.set_cons_succ, sel_new, sel_dep d1, sel_dep d6, sel_dep d11]
          rfl
      · as_aux_lemma =>
          rintro l a wr ⟨ha, hO⟩ hl hd K' hK
          have d1 := hd 1 (by decide)
          have d12 := hd 12 (by decide)
          have hx := X31.out; subst hx
          have hx := X42.out; subst hx
          have hx := X43.out; subst hx
          simp only [fill_eq, List.take_succ_cons, List.take_zero, List.cons_append, List.nil_append, Act.put, List.setIfInBounds_toArray, List.set_cons_zero, List.set_cons_succ, sel_of d1, sel_of d12] at ha
          subst ha
          rw [if_pos (by rfl)]
          go_simp
          refine hK.out _ _ ⟨?_, hO⟩
          simp only [fill_eq, List.take_succ_cons, List.take_zero, List.cons_append, List.nil_append, Act.put, List.setIfInBounds_toArray, List.set_cons_zero, List.set_cons_succ, sel_new, sel_dep d1, sel_dep d12]
          rfl
      · as_aux_lemma =>
          rintro l a wr ⟨ha, hO⟩ hl hd K' hK
          have d13 := hd 13 (by decide)
          have hx := X43.out; subst hx
          have hx := X44.out; subst hx
          simp only [fill_eq, List.take_succ_cons, List.take_zero, List.cons_append, List.nil_append, Act.put, List.setIfInBounds_toArray, List.set_cons_zero, List.set_cons_succ, sel_of d13] at ha
          subst ha
          rw [if_pos (by rfl)]
          go_simp
          refine hK.out _ _ ⟨?_, hO⟩
          simp only [fill_eq, List.take_succ_cons, List.take_zero, List.cons_append, List.nil_append, Act.put, List.setIfInBounds_toArray, List.set_cons_zero, List.set_cons_succ, sel_new, sel_dep d13]
          rfl
      · as_aux_lemma =>
          rintro l a wr ⟨ha, hO⟩ hl hd K' hK
          have d14 := hd 14 (by decide)
          have hx := X44.out; subst hx
          have hx := X45.out; subst hx
          simp only [fill_eq, List.take_succ_cons, List.take_zero, List.cons_append, List.nil_append, Act.put, List.setIfInBounds_toArray, List.set_cons_zero, List.set_cons_succ, sel_of d14] at ha
          subst ha
          rw [if_pos (by rfl)]
          go_simp
          refine hK.out _ _ ⟨?_, hO⟩
          simp only [fill_eq, List.take_succ_cons, List.take_zero, List.cons_append, List.nil_append, Act.put, List.setIfInBounds_toArray, List.set_cons_zero, List.set_cons_succ, sel_new, sel_dep d14]
          rfl
      · as_aux_lemma =>
          rintro l a wr ⟨ha, hO⟩ hl hd K' hK
          have d14 := hd 14 (by decide)
          have d15 := hd 15 (by decide)
          have hx := X44.out; subst hx
          have hx := X45.out; subst hx
          have hx := X46.out; subst hx
          simp only [fill_eq, List.take_succ_cons, List.take_zero, List.cons_append, List.nil_append, Act.put, List.setIfInBounds_toArray, List.set_cons_zero, List.set_cons_succ, sel_of d14, sel_of d15] at ha
          subst ha
          rw [if_pos (by rfl)]
          go_simp
          refine (held_inv (FSB.out wr hO) hO).mono ?_
          rintro e w1 ⟨rfl, hO1, hOW⟩
          go_wp2_with fail
          refine hK.out _ _ ⟨?_, hO1⟩
          simp only [fill_eq, List.take_succ_cons, List.take_zero, List.cons_append, List.nil_append, Act.put, List.setIfInBounds_toArray, List.set_cons_zero, List.set_cons_succ, sel_new, sel_dep d14, sel_dep d15]
          rfl
      · as_aux_lemma =>
          rintro l a wr ⟨ha, hO⟩ hl hd K' hK
          have d14 := hd 14 (by decide)
          have hx := X44.out; subst hx
          have hx := X47.out; subst hx
          simp only [fill_eq, List.take_succ_cons, List.take_zero, List.cons_append, List.nil_append, Act.put, List.setIfInBounds_toArray, List.set_cons_zero, List.set_cons_succ, sel_of d14] at ha
          subst ha
          rw [if_pos (by rfl)]
          go_simp
          refine hK.out _ _ ⟨?_, hO⟩
          simp only [fill_eq, List.take_succ_cons, List.take_zero, List.cons_append, List.nil_append, Act.put, List.setIfInBounds_toArray, List.set_cons_zero, List.set_cons_succ, sel_new, sel_dep d14]
          rfl
      · as_aux_lemma =>
          rintro l a wr ⟨ha, hO⟩ hl hd K' hK
          have d14 := hd 14 (by decide)
          have d17 := hd 17 (by decide)
          have hx := X44.out; subst hx
          have hx := X47.out; subst hx
          have hx := X48.out; subst hx
          simp only [fill_eq, List.take_succ_cons, List.take_zero, List.cons_append, List.nil_append, Act.put, List.setIfInBounds_toArray, List.set_cons_zero, List.set_cons_succ, sel_of d14, sel_of d17] at ha
          subst ha
          rw [if_pos (by rfl)]
          go_simp
          refine (held_inv (FRB.out wr hO) hO).mono ?_
          rintro e w1 ⟨rfl, hO1, hOW⟩
          go_wp2_with fail
          refine hK.out _ _ ⟨?_, hO1⟩
          simp only [fill_eq, List.take_succ_cons, List.take_zero, List.cons_append, List.nil_append, Act.put, List.setIfInBounds_toArray, List.set_cons_zero, List.set_cons_succ, sel_new, sel_dep d14, sel_dep d17]
          rfl
      · as_aux_lemma =>
          rintro l a wr ⟨ha, hO⟩ hl hd K' hK
          have d14 := hd 14 (by decide)
          have d16 := hd 16 (by decide)
          have d18 := hd 18 (by decide)
          have hx := X44.out; subst hx
          have hx := X46.out; subst hx
          have hx := X48.out; subst hx
          have hx := X49.out; subst hx
          simp only [fill_eq, List.take_succ_cons, List.take_zero, List.cons_append, List.nil_append, Act.put, List.setIfInBounds_toArray, List.set_cons_zero, List.set_cons_succ, sel_of d14, sel_of d16, sel_of d18] at ha
          subst ha
          rw [if_pos (by rfl)]
          go_simp
          refine hK.out _ _ ⟨?_, hO⟩
          simp only [fill_eq, List.take_succ_cons, List.take_zero, List.cons_append, List.nil_append, Act.put, List.setIfInBounds_toArray, List.set_cons_zero, List.set_cons_succ, sel_new, sel_dep d14, sel_dep d16, sel_dep d18]
          rfl
      · as_aux_lemma =>
          rintro l a wr ⟨ha, hO⟩ hl hd K' hK
          have d14 := hd 14 (by decide)
          have d19 := hd 19 (by decide)
          have hx := X44.out; subst hx
          have hx := X49.out; subst hx
          have hx := X50.out; subst hx
          simp only [fill_eq, List.take_succ_cons, List.take_zero, List.cons_append, List.nil_append, Act.put, List.setIfInBounds_toArray, List.set_cons_zero, List.set_cons_succ, sel_of d14, sel_of d19] at ha
          subst ha
          rw [if_pos (by rfl)]
          go_simp
          refine hK.out _ _ ⟨?_, hO⟩
          simp only [fill_eq, List.take_succ_cons, List.take_zero, List.cons_append, List.nil_append, Act.put, List.setIfInBounds_toArray, List.set_cons_zero, List.set_cons_succ, sel_new, sel_dep d14, sel_dep d19]
          rfl
      · as_aux_lemma =>
          rintro l a wr ⟨ha, hO⟩ hl hd K' hK
          have d20 := hd 20 (by decide)
          have hx := X50.out; subst hx
          have hx := X6.out; subst hx
          simp only [fill_eq, List.take_succ_cons, List.take_zero, List.cons_append, List.nil_append, Act.put, List.setIfInBounds_toArray, List.set_cons_zero, List.set_cons_succ, sel_of d20] at ha
          subst ha
          rw [if_pos (by rfl)]
          go_simp
          refine hK.out _ _ ⟨?_, hO⟩
          simp only [fill_eq, List.take_succ_cons, List.take_zero, List.cons_append, List.nil_append, Act.put, List.setIfInBounds_toArray, List.set_cons_zero, List.set_cons_succ, sel_new, sel_dep d20]
          rfl
      · rintro l a wc ⟨ha, hO⟩ hd
        simp only [fill_eq, List.take_succ_cons, List.take_zero, List.cons_append, List.nil_append, Act.put, List.setIfInBounds_toArray, List.set_cons_zero, List.set_cons_succ, sel_of (hd 0 (by decide)), sel_of (hd 1 (by decide)), sel_of (hd 2 (by decide)), sel_of (hd 3 (by decide)), sel_of (hd 4 (by decide)), sel_of (hd 5 (by decide)), sel_of (hd 6 (by decide)), sel_of (hd 7 (by decide)), sel_of (hd 8 (by decide)), sel_of (hd 9 (by decide)), sel_of (hd 10 (by decide)), sel_of (hd 11 (by decide)), sel_of (hd 12 (by decide)), sel_of (hd 13 (by decide)), sel_of (hd 14 (by decide)), sel_of (hd 15 (by decide)), sel_of (hd 16 (by decide)), sel_of (hd 17 (by decide)), sel_of (hd 18 (by decide)), sel_of (hd 19 (by decide)), sel_of (hd 20 (by decide)), sel_of (hd 21 (by decide))] at ha
        subst ha
        have hx := X6.out; subst hx
        have HOe := Lib.hid (HO0.out.trans hO (fun _ _ c => c))
        clear hO hd
        go_wp2_with fail
        go_ret
        exact ⟨rfl, HOe.out⟩

theorem door_met (os : Os) (args : Array Value) : laidMetH Tryd.prog [("sharecore/sha.constants", Rows.laid_sharecore_sha_constants), ("sharecore/sha.initial", Rows.laid_sharecore_sha_initial)] ((World.doorLaid Tryd.prog 400 os).forCall (fun _ _ => 0) ⟨#[], args, []⟩).memory :=
  laidMetH_of_parts3 (fuel := 8) (laidMet_of_run' 8 (by kernel_rfl) (by kernel_rfl)) (by kernel_rfl) (by kernel_rfl)

set_option maxRecDepth 100000 in
theorem lifted (os : Os) (started : os.Started) (H : Type) (enc : TypeId × Value → H) :
    ReturnsInHanded {} Tryd.checked os 8 .any (fun w args => (Rows.shaDiffersSpec.pre enc Tryd.prog Tryd.f8 [] false w args ∧ laidMetH Tryd.prog [("sharecore/sha.constants", Rows.laid_sharecore_sha_constants), ("sharecore/sha.initial", Rows.laid_sharecore_sha_initial)] w) ∧ sizedMet enc Tryd.prog Tryd.f8 (OpenSpec.ofChange Rows.shaDiffersSpec) false w args)
      (Rows.shaDiffersSpec.post enc Tryd.prog Tryd.f8 false true false false) := by
  refine returnsInHanded_of_change_and (C := Tryd.checked) (X := fun w _ => laidMetH Tryd.prog [("sharecore/sha.constants", Rows.laid_sharecore_sha_constants), ("sharecore/sha.initial", Rows.laid_sharecore_sha_initial)] w) (fun _ _ _ hh h => h.of_heap hh) own started (by kernel_rfl) Tryd.func8
    (ChangeSpec.witness_shaped (enc := enc) (C := Tryd.checked) (os := os) (X := fun w _ => laidMetH Tryd.prog [("sharecore/sha.constants", Rows.laid_sharecore_sha_constants), ("sharecore/sha.initial", Rows.laid_sharecore_sha_initial)] w) false (World.doorLaid Tryd.prog 400 os) #[.slice none 0 0, .int .u16 0, .int .u8 0] 8 rfl (World.shaped_of_RefB (by kernel_rfl) (by kernel_rfl)) (by kernel_rfl) (by kernel_rfl) (by kernel_rfl) (door_met os _)) ?_
  intro W base args ds gs before hval0 hW _ _ hL _
  have hval : ∀ (j : Nat) t v, Tryd.f8.params[j]? = some t → args[j]? = some v → Value.okWide Tryd.prog W .any base t v := hval0
  have hW' := hW
  obtain ⟨p, q, hA0, hV, rfl, hfz, hnd⟩ := hW
  have hA : DataW.TrodAll enc Tryd.prog W 0 (fun _ => true) true Tryd.f8.params.toList args.toList ds p := hA0
  rw [Tryd.params8] at hA hval
  obtain ⟨v0, vs0, d0, ds0, p0, q0, hargs, rfl, rfl, h0, r0⟩ := trodAll_cons hA
  obtain ⟨v1, vs1, d1, ds1, p1, q1, rfl, rfl, rfl, h1, r1⟩ := trodAll_cons r0
  obtain ⟨v2, vs2, d2, ds2, p2, q2, rfl, rfl, rfl, h2, r2⟩ := trodAll_cons r1
  obtain ⟨rfl, rfl, rfl⟩ := trodAll_nil r2
  obtain rfl : args = #[v0, v1, v2] := by cases args; simp_all
  obtain ⟨rfl, rfl⟩ := trodVars_none hV
  obtain ⟨a0, n0, cap0, rfl⟩ := okWide_slice Tryd.underlying22 (hval 0 22 v0 rfl rfl)
  have k0 := h0
  have lt0 : ∀ x ∈ p0, x.block < W.heap.size := by obtain ⟨m, hm⟩ := k0; exact DataW.trod_lt m _ _ _ hm
  obtain ⟨bs0, hn0, hc0, hs0, w0⟩ : ∃ bs, n0 = bs.length ∧ n0 ≤ cap0 ∧ Small bs ∧ BsAt W a0 bs (fun k => k < W.heap.size) := by
    obtain ⟨fuel, hf⟩ := h0
    exact bytes_of_trod hf
  obtain ⟨i1, rfl, rfl, rfl, w1⟩ := open_int Tryd.underlying29 (hval 1 29 v1 rfl rfl) h1
  obtain ⟨i2, rfl, rfl, rfl, w2⟩ := open_int Tryd.underlying5 (hval 2 5 v2 rfl rfl) h2
  have hT := tab_of_laid hL
  clear hA0 hval0
  refine (walk a0 n0 cap0 bs0 i1 i2 W hn0 hc0 hs0 w0 w1 w2 hT).mono fun e W' ⟨he, hoff⟩ => ?_
  have bel : Below W.heap.size W W' := hoff.below (Nat.le_refl _) (fun _ _ c => c)
  subst he
  exact ⟨_, rfl, _, _, _, [], _, [], hW', trodAll_mk1 (shut_bool Tryd.underlying4 _), (trodAll_cons_mk (Below.trod laidOut (by kernel_rfl) (of_decide_eq_true (by kernel_rfl)) k0 bel lt0) (trodAll_cons_mk (shut_int Tryd.underlying29 w1) (trodAll_cons_mk (shut_int Tryd.underlying5 w2) trodAll_mk0))), rfl, bel.frame _, fun h => by cases h⟩

theorem over : Rows.shaDiffersRow.holds Tryd.pinned (OpenSpec.ofChange Rows.shaDiffersSpec) :=
  OpenClaim.holds_of_wide 8 Tryd.f8 rfl rfl rfl rfl rfl rfl rfl ⟨rfl, rfl, rfl, rfl, rfl⟩ rfl rfl rfl rfl rfl (by kernel_rfl) Tryd.func8 (by kernel_rfl)
    (of_decide_eq_true (by kernel_rfl)) (by unfold Func.isWrapper; first | (rw [if_pos (by decide +kernel)]; kernel_rfl) | (rw [if_neg (by decide +kernel)]; exact ⟨rfl, rfl⟩))
    (fun os started H enc _ => lifted os started H enc)

theorem proved : Rows.ShaDiffersCardSaid :=
  Claim7.holds_tied_plain_at .later [] [.data, .data] true (true, "cea195b8e4b1cc889c1d1eca119c860888cfb8d83522847ae16b7d8c1e6b5c42") false
    over (fun _ h => by cases h) (by kernel_rfl) (fun _ h => by cases h) shaDiffers_row_tie rfl ⟨rfl, rfl⟩ (by kernel_rfl) rfl
    (fun f fn hf hfn => by
      obtain rfl : f = 8 := Option.some.inj ((show Tryd.prog.funcNamed "sharecore/sharecorelaw12.ShaDiffers" = some 8 by kernel_rfl).symm.trans hf) |>.symm
      obtain rfl : fn = Tryd.f8 := (Option.some.inj (Tryd.func8.symm.trans hfn)).symm
      exact ⟨by kernel_rfl, fun j t ht => by
        rw [Tryd.params8] at ht
        have hm : t ∈ [22, 29, 5] := by simpa using Array.mem_of_getElem? ht
        have hall : ([22, 29, 5].all fun u => !Tryd.prog.wantsStandIn u) = true := by kernel_rfl
        exact (show Tryd.prog.wantsStandIn t = false by simpa using List.all_eq_true.1 hall t hm)⟩)
    (by kernel_rfl)
#print axioms proved
end Go.Proofs.YthjfhgnmaepafaaDoor.shaDiffers
