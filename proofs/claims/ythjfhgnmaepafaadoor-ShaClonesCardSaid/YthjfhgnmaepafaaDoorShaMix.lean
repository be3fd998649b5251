/-
  The contract of package sha's mix over this seat's translation. Conditions: the table of constants lies there, the state's words stand first in their block, 64 bytes lie at the second pointer.
-/
import Derived.Test.YthjfhgnmaepafaaDoorShaExt
import Derived.Test.YthjfhgnmaepafaaDoorShaTabs
import Derived.Test.YthjfhgnmaepafaaDoorShaBlk
namespace Go.Proofs.YthjfhgnmaepafaaDoor
open Go.RowKit
set_option maxRecDepth 100000
set_option maxHeartbeats 4000000
set_option linter.unusedSimpArgs false
/-- The block g begins with the words l. -/
def HBlk (w : World) (g : Nat) (T : TypeId) (l : List Nat) (rest : List Value) : Prop := w.heap[g]? = some (.cells (l.map u32v ++ rest).toArray T (0, 0))
theorem HBlk.off {w w' : World} {g : Nat} {T : TypeId} {l : List Nat} {rest : List Value} {S : Nat → Prop} (h : HBlk w g T l rest) (ho : Off S w w') (hb : ¬ S g) : HBlk w' g T l rest := ho.heap h hb
theorem HBlk.cell {w : World} {g : Nat} {T : TypeId} {l : List Nat} {rest : List Value} (h : HBlk w g T l rest) {j x : Nat} (hj : l[j]? = some x) : w.cell? ⟨g, j, none⟩ = some (u32v x) := by
  have hlt := (List.getElem?_eq_some_iff.1 hj).1
  rw [cell_of_heap h, List.getElem?_toArray, List.getElem?_append_left (by rw [List.length_map]; exact hlt), List.getElem?_map, hj]; rfl
theorem HBlk.store {w : World} {g : Nat} {T : TypeId} {l : List Nat} {rest : List Value} (h : HBlk w g T l rest) (j v : Nat) (hj : j < l.length) : HBlk (w.setCell ⟨g, j, none⟩ (u32v v)) g T (l.set j v) rest := by
  have := heap_set h j (u32v v)
  unfold HBlk
  rw [this]
  congr 2
  apply Array.ext'
  rw [Array.toList_setIfInBounds]
  show (l.map u32v ++ rest).set j (u32v v) = (l.set j v).map u32v ++ rest
  rw [List.set_append_left _ _ (by rw [List.length_map]; exact hj), List.map_set]
/-- A new block, stored whole. -/
theorem new_row {w : World} {Z cs : Array Value} {T : TypeId} : ((w.alloc (.cells Z T)).setRow w.heap.size cs).heap[w.heap.size]? = some (.cells cs T (0, 0)) ∧ Off (fun _ => False) w ((w.alloc (.cells Z T)).setRow w.heap.size cs) := by
  have h0 : (w.alloc (.cells Z T)).heap[w.heap.size]? = some (.cells Z T (0, 0)) := heap_new' rfl _
  refine ⟨setRow_heap _ w.heap.size _ cs T (0, 0) h0, ?_⟩
  have hg : (w.alloc (.cells Z T)).grownBy ((w.alloc (.cells Z T)).setRow w.heap.size cs) (some w.heap.size) := ⟨rfl, rfl, rfl, by simp, fun k _ hk => setRow_other _ w.heap.size k _ (fun e => hk (by simp [e]))⟩
  exact ((Off.refl (fun _ => False) w).alloc _).grown hg (fun j ej => by
    cases ej
    refine ⟨fun h => absurd h (Nat.lt_irrefl _), fun o ho => ?_⟩
    rw [h0] at ho; cases ho; rfl)
theorem addV_comm (v s : W8) : addV v s = addV s v := by unfold addV; simp [Nat.add_comm]
theorem adP_comm_full (s v : W8) : adP s v 8 = (addV v s).list := by rw [adP_full, ← addV_comm]
theorem mix_any (s : W8) (b : List Nat) (rest : List Value) (TT : TypeId) (g g2 off2 : Nat) (w : World) (hs : s.ok) (hb : Sm b) (hl : b.length = 64) (hT : TabAt w) (hG : HBlk w g TT s.list rest) (hB : ∀ j x, b[j]? = some x → w.cell? ⟨g2, off2 + j, none⟩ = some (u8v x)) :
    Calls Tryd.prog 22 #[.pointer (some ⟨g, 0, none⟩), .pointer (some ⟨g2, off2, none⟩)] w fun e w' => e = .returned (.tuple #[]) ∧ HBlk w' g TT (blkV s kL b).list rest ∧ Off (fun j => j = g) w w' := by
  have HE := Lib.hid (extend_any b g2 off2 w hb hl hB)
  obtain ⟨cs, hcs⟩ : ∃ cs, cs = ((wL b 64).map u32v).toArray := ⟨_, rfl⟩
  rw [← hcs] at HE
  have hcz : cs.size = 64 := by rw [hcs]; simp [wL_length]
  have hi0 : (Tryd.prog.info? 54).map (·.size) = some 64 := by kernel_rfl
  have hi1 : (Tryd.prog.info? 54).map (·.size) = some cs.size := by rw [hcz]; exact hi0
  have hone : cs.all (·.oneCell') = true := by rw [hcs]; simp [Value.oneCell']
  have hZs : (Array.size (#[.int .u32 0, .int .u32 0, .int .u32 0, .int .u32 0, .int .u32 0, .int .u32 0, .int .u32 0, .int .u32 0, .int .u32 0, .int .u32 0, .int .u32 0, .int .u32 0, .int .u32 0, .int .u32 0, .int .u32 0, .int .u32 0, .int .u32 0, .int .u32 0, .int .u32 0, .int .u32 0, .int .u32 0, .int .u32 0, .int .u32 0, .int .u32 0, .int .u32 0, .int .u32 0, .int .u32 0, .int .u32 0, .int .u32 0, .int .u32 0, .int .u32 0, .int .u32 0, .int .u32 0, .int .u32 0, .int .u32 0, .int .u32 0, .int .u32 0, .int .u32 0, .int .u32 0, .int .u32 0, .int .u32 0, .int .u32 0, .int .u32 0, .int .u32 0, .int .u32 0, .int .u32 0, .int .u32 0, .int .u32 0, .int .u32 0, .int .u32 0, .int .u32 0, .int .u32 0, .int .u32 0, .int .u32 0, .int .u32 0, .int .u32 0, .int .u32 0, .int .u32 0, .int .u32 0, .int .u32 0, .int .u32 0, .int .u32 0, .int .u32 0, .int .u32 0] : Array Value)) = cs.size := by rw [hcz]; rfl
  have HI := Lib.hid hi1
  have HZS := Lib.hid hZs
  have HONE := Lib.hid hone
  have HCS := Lib.hid hcs
  have HS := Lib.hid hs
  have HB := Lib.hid hb
  have HT := Lib.hid hT
  have HG := Lib.hid hG
  clear hcs hcz hi0 hi1 hone hZs hs hb hl hT hG hB
  go_enter Tryd.func22, Tryd.ntmps22
  go_upto_region 1 with first | (go_at_call 29; refine (HE.out).mono ?_; rintro e w1 ⟨rfl, hO⟩) | (refine wpList_store_row rfl _ _ _ rfl _ cs rfl rfl _ _ (heap_new' rfl _) HI.out HZS.out HONE.out ?_) | fail
  have hW := @new_row w1 #[.int .u32 0, .int .u32 0, .int .u32 0, .int .u32 0, .int .u32 0, .int .u32 0, .int .u32 0, .int .u32 0, .int .u32 0, .int .u32 0, .int .u32 0, .int .u32 0, .int .u32 0, .int .u32 0, .int .u32 0, .int .u32 0, .int .u32 0, .int .u32 0, .int .u32 0, .int .u32 0, .int .u32 0, .int .u32 0, .int .u32 0, .int .u32 0, .int .u32 0, .int .u32 0, .int .u32 0, .int .u32 0, .int .u32 0, .int .u32 0, .int .u32 0, .int .u32 0, .int .u32 0, .int .u32 0, .int .u32 0, .int .u32 0, .int .u32 0, .int .u32 0, .int .u32 0, .int .u32 0, .int .u32 0, .int .u32 0, .int .u32 0, .int .u32 0, .int .u32 0, .int .u32 0, .int .u32 0, .int .u32 0, .int .u32 0, .int .u32 0, .int .u32 0, .int .u32 0, .int .u32 0, .int .u32 0, .int .u32 0, .int .u32 0, .int .u32 0, .int .u32 0, .int .u32 0, .int .u32 0, .int .u32 0, .int .u32 0, .int .u32 0, .int .u32 0] cs 54
  obtain ⟨w2, hw2⟩ : ∃ w2, w2 = (w1.alloc (.cells #[.int .u32 0, .int .u32 0, .int .u32 0, .int .u32 0, .int .u32 0, .int .u32 0, .int .u32 0, .int .u32 0, .int .u32 0, .int .u32 0, .int .u32 0, .int .u32 0, .int .u32 0, .int .u32 0, .int .u32 0, .int .u32 0, .int .u32 0, .int .u32 0, .int .u32 0, .int .u32 0, .int .u32 0, .int .u32 0, .int .u32 0, .int .u32 0, .int .u32 0, .int .u32 0, .int .u32 0, .int .u32 0, .int .u32 0, .int .u32 0, .int .u32 0, .int .u32 0, .int .u32 0, .int .u32 0, .int .u32 0, .int .u32 0, .int .u32 0, .int .u32 0, .int .u32 0, .int .u32 0, .int .u32 0, .int .u32 0, .int .u32 0, .int .u32 0, .int .u32 0, .int .u32 0, .int .u32 0, .int .u32 0, .int .u32 0, .int .u32 0, .int .u32 0, .int .u32 0, .int .u32 0, .int .u32 0, .int .u32 0, .int .u32 0, .int .u32 0, .int .u32 0, .int .u32 0, .int .u32 0, .int .u32 0, .int .u32 0, .int .u32 0, .int .u32 0] 54)).setRow w1.heap.size cs := ⟨_, rfl⟩
  rw [← hw2] at hW ⊢
  obtain ⟨gd, hgd⟩ : ∃ gd, gd = w1.heap.size := ⟨_, rfl⟩
  rw [← hgd] at hW ⊢
  have hO2 := hO.trans hW.2 (fun _ _ c => c)
  have HWD := Lib.hid (show WBlk w2 gd 54 (wL b 64) by unfold WBlk; rw [← HCS.out]; exact hW.1)
  have hG2 := HG.out.off hO2 (fun c => c)
  have m0 := hG2.cell (j := 0) rfl
  have m1 := hG2.cell (j := 1) rfl
  have m2 := hG2.cell (j := 2) rfl
  have m3 := hG2.cell (j := 3) rfl
  have m4 := hG2.cell (j := 4) rfl
  have m5 := hG2.cell (j := 5) rfl
  have m6 := hG2.cell (j := 6) rfl
  have m7 := hG2.cell (j := 7) rfl
  have HG2 := Lib.hid hG2
  have HO2 := Lib.hid hO2
  have HLT := Lib.hid (heap_lt hW.1)
  clear hW hO hO2 hG2 hw2 hgd HE HI HZS HONE HCS
  go_upto_region 2 with fail
  obtain ⟨w3, hw3⟩ : ∃ w3, w3 = w2.alloc (.cells #[.int .u32 (s.a : Int), .int .u32 (s.b : Int), .int .u32 (s.c : Int), .int .u32 (s.d : Int), .int .u32 (s.e : Int), .int .u32 (s.f : Int), .int .u32 (s.g : Int), .int .u32 (s.h : Int)] 43) := ⟨_, rfl⟩
  have hW : WBlk w3 w2.heap.size 43 s.list ∧ Off (fun _ => False) w2 w3 := by
    rw [hw3]; exact ⟨heap_new' rfl _, (Off.refl _ w2).alloc _⟩
  rw [← hw3]
  obtain ⟨gm, hgm⟩ : ∃ gm, gm = w2.heap.size := ⟨_, rfl⟩
  rw [← hgm] at hW ⊢
  have HM3 := Lib.hid hW.1
  have HO3 := Lib.hid hW.2
  have HGM := Lib.hid hgm
  clear hW hw3 hgm m0 m1 m2 m3 m4 m5 m6 m7
  go_wp2_with fail
  go_loopw [13] (fun i wr => ∃ t : Nat, t ≤ 64 ∧ i = .int .i64 (t : Int) ∧ WBlk wr gm 43 (vN s kL (wL b 64) t).list ∧ Off (fun _ => False) w2 wr) (fun i _ => 64 - (intOf i).toNat)
  case atStart => exact ⟨0, by omega, rfl, HM3.out, HO3.out⟩
  case round =>
    obtain ⟨t, ht, rfl, hb, hO⟩ := hrel
    by_cases hlt : t < 64
    · have i1 : decide ((t : Int) < 64) = true := by simp; omega
      have i2 : (t : Int) < 64 := by omega
      have i3 : IntKind.i64.wrap ((t : Int) + 1) = ((t + 1 : Nat) : Int) := by rw [IntKind.wrap_i64]; omega
      have hkl : kL.length = 64 := rfl
      have DK := Lib.hid (fun W (h : Off (fun _ => False) wr W) => show W.cell? ⟨1, t, none⟩ = some (u32v (kL.getD t 0)) from h.cell ((HO2.out.trans hO (fun _ _ c => c)).cell (HT.out.1 t _ (by rw [List.getD_eq_getElem?_getD, List.getElem?_eq_getElem (show t < kL.length by rw [hkl]; exact hlt)]; rfl)) (fun c => c)) (fun c => c))
      have DW := Lib.hid (fun W (h : Off (fun _ => False) wr W) => show W.cell? ⟨gd, t, none⟩ = some (u32v ((wL b 64).getD t 0)) from (HWD.out.off (hO.trans h (fun _ _ c => c)) (fun c => c)).get (by rw [wL_length]; exact hlt))
      have lk : kL.getD t 0 < 4294967296 := Ws.get (show Ws kL by unfold Ws; decide +kernel) t
      have lw := (wL_ws HB.out 64).get t
      have hok := vN_ok HS.out kL (wL b 64) t
      have hstep : vN s kL (wL b 64) (t + 1) = stepV (vN s kL (wL b 64) t) (kL.getD t 0) ((wL b 64).getD t 0) := rfl
      have hrd := fun W h => round_any (vN s kL (wL b 64) t) (kL.getD t 0) ((wL b 64).getD t 0) ((kL.getD t 0 + (wL b 64).getD t 0) % 4294967296) gm 43 W hok rfl h
      rw [← hstep] at hrd
      have e1 : IntKind.u32.wrap ((kL.getD t 0 : Int) + ((wL b 64).getD t 0 : Int)) = (((kL.getD t 0 + (wL b 64).getD t 0) % 4294967296 : Nat) : Int) := by rw [IntKind.wrap_u32]; omega
      obtain ⟨kt, hkt⟩ : ∃ x, x = kL.getD t 0 := ⟨_, rfl⟩
      obtain ⟨wt, hwt⟩ : ∃ x, x = (wL b 64).getD t 0 := ⟨_, rfl⟩
      rw [← hkt] at DK hrd e1
      rw [← hwt] at DW hrd e1
      obtain ⟨ad, had⟩ : ∃ x, x = (kt + wt) % 4294967296 := ⟨_, rfl⟩
      rw [← had] at hrd e1
      have e1' : ((kt : Int) + (wt : Int)) % 4294967296 = (ad : Int) := by omega
      have HRd := Lib.hid hrd
      have HBq := Lib.hid hb
      have HOq := Lib.hid hO
      clear hrd hb hO hkt hwt had lk lw hok hstep hkl
      obtain ⟨wq, rfl⟩ : ∃ wq, wq = wr := ⟨_, rfl⟩
      go_upto_region 5 with fail
      obtain ⟨x16, hx⟩ : ∃ vv : Value, vv = .int .i64 (t : Int) := ⟨_, rfl⟩
      have X16 := Lib.hid hx
      clear hx
      obtain ⟨x17, hx⟩ : ∃ vv : Value, vv = .pointer (some ⟨1, t, none⟩) := ⟨_, rfl⟩
      have X17 := Lib.hid hx
      clear hx
      obtain ⟨x18, hx⟩ : ∃ vv : Value, vv = u32v kt := ⟨_, rfl⟩
      have X18 := Lib.hid hx
      clear hx
      obtain ⟨x19, hx⟩ : ∃ vv : Value, vv = .int .i64 (t : Int) := ⟨_, rfl⟩
      have X19 := Lib.hid hx
      clear hx
      obtain ⟨x20, hx⟩ : ∃ vv : Value, vv = .pointer (some ⟨gd, t, none⟩) := ⟨_, rfl⟩
      have X20 := Lib.hid hx
      clear hx
      obtain ⟨x21, hx⟩ : ∃ vv : Value, vv = u32v wt := ⟨_, rfl⟩
      have X21 := Lib.hid hx
      clear hx
      obtain ⟨x22, hx⟩ : ∃ vv : Value, vv = u32v ad := ⟨_, rfl⟩
      have X22 := Lib.hid hx
      clear hx
      obtain ⟨x23, hx⟩ : ∃ vv : Value, vv = .tuple #[] := ⟨_, rfl⟩
      have X23 := Lib.hid hx
      clear hx
      refine wp_region_clo (fun a0 l a' w' => a' = (fill a0 16 [sel (l 0) x16 u16, sel (l 1) x17 u17, sel (l 2) x18 u18, sel (l 3) x19 u19, sel (l 4) x20 u20, sel (l 5) x21 u21, sel (l 6) x22 u22, sel (l 7) x23 u23, u24, undef, undef, undef, undef, undef, undef, undef, undef, undef, undef, undef, undef, undef, undef, undef]) ∧ (l 7 = false → Off (fun _ => False) wq w') ∧ (l 7 = true → WBlk w' gm 43 (vN s kL (wL b 64) (t + 1)).list ∧ Off (fun j => j = gm) wq w')) (by kernel_rfl) (by kernel_rfl) ?_ ⟨?_, ?_, ?_, ?_, ?_, ?_, ?_, ?_, trivial⟩ ?_
      · refine ⟨?_, fun _ => (Off.refl _ wq).drew, fun h => by cases h⟩
        simp only [fill_eq, List.take_succ_cons, List.take_zero, List.cons_append, List.nil_append, Act.put, List.setIfInBounds_toArray, List.set_cons_zero, List.set_cons_succ, sel_start]
        try rfl
      · as_aux_lemma =>
          rintro l a wr ⟨ha, hA, hB⟩ hc hl hd K' hK
          have hx := X16.out; subst hx
          simp only [fill_eq, List.take_succ_cons, List.take_zero, List.cons_append, List.nil_append, Act.put, List.setIfInBounds_toArray, List.set_cons_zero, List.set_cons_succ] at ha
          subst ha
          have g' := hc.not (i := 7) hl 8 (by kernel_rfl)
          have hO := hA g'
          have g := Lib.hid g'
          clear g'
          rw [if_pos (by rfl)]
          go_simp
          refine Shut.out hK _ _ ⟨?_, fun _ => hO, (fun h => absurd h (by rw [show upd l 0 7 = false from g.out]; decide))⟩
          · simp only [fill_eq, List.take_succ_cons, List.take_zero, List.cons_append, List.nil_append, Act.put, List.setIfInBounds_toArray, List.set_cons_zero, List.set_cons_succ, sel_new]
            try rfl
      · as_aux_lemma =>
          rintro l a wr ⟨ha, hA, hB⟩ hc hl hd K' hK
          have d0 := hd 0 (by decide)
          have hx := X16.out; subst hx
          have hx := X17.out; subst hx
          simp only [fill_eq, List.take_succ_cons, List.take_zero, List.cons_append, List.nil_append, Act.put, List.setIfInBounds_toArray, List.set_cons_zero, List.set_cons_succ, sel_of d0] at ha
          subst ha
          have g' := hc.not (i := 7) hl 8 (by kernel_rfl)
          have hO := hA g'
          have g := Lib.hid g'
          clear g'
          rw [if_pos (by rfl)]
          go_simp
          refine Shut.out hK _ _ ⟨?_, fun _ => hO, (fun h => absurd h (by rw [show upd l 1 7 = false from g.out]; decide))⟩
          · simp only [fill_eq, List.take_succ_cons, List.take_zero, List.cons_append, List.nil_append, Act.put, List.setIfInBounds_toArray, List.set_cons_zero, List.set_cons_succ, sel_new, sel_dep d0]
            try rfl
      · as_aux_lemma =>
          rintro l a wr ⟨ha, hA, hB⟩ hc hl hd K' hK
          have d1 := hd 1 (by decide)
          have hx := X17.out; subst hx
          have hx := X18.out; subst hx
          simp only [fill_eq, List.take_succ_cons, List.take_zero, List.cons_append, List.nil_append, Act.put, List.setIfInBounds_toArray, List.set_cons_zero, List.set_cons_succ, sel_of d1] at ha
          subst ha
          have g' := hc.not (i := 7) hl 8 (by kernel_rfl)
          have hO := hA g'
          have g := Lib.hid g'
          clear g'
          have p := DK.out wr hO
          rw [if_pos (by rfl)]
          go_simp
          refine Shut.out hK _ _ ⟨?_, fun _ => hO, (fun h => absurd h (by rw [show upd l 2 7 = false from g.out]; decide))⟩
          · simp only [fill_eq, List.take_succ_cons, List.take_zero, List.cons_append, List.nil_append, Act.put, List.setIfInBounds_toArray, List.set_cons_zero, List.set_cons_succ, sel_new, sel_dep d1]
            try rfl
      · as_aux_lemma =>
          rintro l a wr ⟨ha, hA, hB⟩ hc hl hd K' hK
          have hx := X19.out; subst hx
          simp only [fill_eq, List.take_succ_cons, List.take_zero, List.cons_append, List.nil_append, Act.put, List.setIfInBounds_toArray, List.set_cons_zero, List.set_cons_succ] at ha
          subst ha
          have g' := hc.not (i := 7) hl 8 (by kernel_rfl)
          have hO := hA g'
          have g := Lib.hid g'
          clear g'
          rw [if_pos (by rfl)]
          go_simp
          refine Shut.out hK _ _ ⟨?_, fun _ => hO, (fun h => absurd h (by rw [show upd l 3 7 = false from g.out]; decide))⟩
          · simp only [fill_eq, List.take_succ_cons, List.take_zero, List.cons_append, List.nil_append, Act.put, List.setIfInBounds_toArray, List.set_cons_zero, List.set_cons_succ, sel_new]
            try rfl
      · as_aux_lemma =>
          rintro l a wr ⟨ha, hA, hB⟩ hc hl hd K' hK
          have d3 := hd 3 (by decide)
          have hx := X19.out; subst hx
          have hx := X20.out; subst hx
          simp only [fill_eq, List.take_succ_cons, List.take_zero, List.cons_append, List.nil_append, Act.put, List.setIfInBounds_toArray, List.set_cons_zero, List.set_cons_succ, sel_of d3] at ha
          subst ha
          have g' := hc.not (i := 7) hl 8 (by kernel_rfl)
          have hO := hA g'
          have g := Lib.hid g'
          clear g'
          rw [if_pos (by rfl)]
          go_simp
          refine Shut.out hK _ _ ⟨?_, fun _ => hO, (fun h => absurd h (by rw [show upd l 4 7 = false from g.out]; decide))⟩
          · simp only [fill_eq, List.take_succ_cons, List.take_zero, List.cons_append, List.nil_append, Act.put, List.setIfInBounds_toArray, List.set_cons_zero, List.set_cons_succ, sel_new, sel_dep d3]
            try rfl
      · as_aux_lemma =>
          rintro l a wr ⟨ha, hA, hB⟩ hc hl hd K' hK
          have d4 := hd 4 (by decide)
          have hx := X20.out; subst hx
          have hx := X21.out; subst hx
          simp only [fill_eq, List.take_succ_cons, List.take_zero, List.cons_append, List.nil_append, Act.put, List.setIfInBounds_toArray, List.set_cons_zero, List.set_cons_succ, sel_of d4] at ha
          subst ha
          have g' := hc.not (i := 7) hl 8 (by kernel_rfl)
          have hO := hA g'
          have g := Lib.hid g'
          clear g'
          have p := DW.out wr hO
          rw [if_pos (by rfl)]
          go_simp
          refine Shut.out hK _ _ ⟨?_, fun _ => hO, (fun h => absurd h (by rw [show upd l 5 7 = false from g.out]; decide))⟩
          · simp only [fill_eq, List.take_succ_cons, List.take_zero, List.cons_append, List.nil_append, Act.put, List.setIfInBounds_toArray, List.set_cons_zero, List.set_cons_succ, sel_new, sel_dep d4]
            try rfl
      · as_aux_lemma =>
          rintro l a wr ⟨ha, hA, hB⟩ hc hl hd K' hK
          have d2 := hd 2 (by decide)
          have d5 := hd 5 (by decide)
          have hx := X18.out; subst hx
          have hx := X21.out; subst hx
          have hx := X22.out; subst hx
          simp only [fill_eq, List.take_succ_cons, List.take_zero, List.cons_append, List.nil_append, Act.put, List.setIfInBounds_toArray, List.set_cons_zero, List.set_cons_succ, sel_of d2, sel_of d5] at ha
          subst ha
          have g' := hc.not (i := 7) hl 8 (by kernel_rfl)
          have hO := hA g'
          have g := Lib.hid g'
          clear g'
          rw [if_pos (by rfl)]
          go_simp
          refine Shut.out hK _ _ ⟨?_, fun _ => hO, (fun h => absurd h (by rw [show upd l 6 7 = false from g.out]; decide))⟩
          · simp only [fill_eq, List.take_succ_cons, List.take_zero, List.cons_append, List.nil_append, Act.put, List.setIfInBounds_toArray, List.set_cons_zero, List.set_cons_succ, sel_new, sel_dep d2, sel_dep d5]
            try rfl
      · as_aux_lemma =>
          rintro l a wr ⟨ha, hA, hB⟩ hc hl hd K' hK
          have d6 := hd 6 (by decide)
          have hx := X22.out; subst hx
          have hx := X23.out; subst hx
          simp only [fill_eq, List.take_succ_cons, List.take_zero, List.cons_append, List.nil_append, Act.put, List.setIfInBounds_toArray, List.set_cons_zero, List.set_cons_succ, sel_of d6] at ha
          subst ha
          have hO := hA hl
          rw [if_pos (by rfl)]
          go_simp
          refine (HRd.out wr (HBq.out.off hO (fun c => c))).mono ?_
          rintro e w1 ⟨rfl, hb1, ho1⟩
          go_wp2_with fail
          refine Shut.out hK _ _ ⟨?_, fun h => absurd h (by rw [upd_same]; decide), fun _ => ?_⟩
          · simp only [fill_eq, List.take_succ_cons, List.take_zero, List.cons_append, List.nil_append, Act.put, List.setIfInBounds_toArray, List.set_cons_zero, List.set_cons_succ, sel_new, sel_dep d6]
            try rfl
          · exact ⟨hb1, (hO.mono (fun _ _ c => c.elim)).trans ho1 (fun _ _ c => c)⟩
      · rintro l a wc ⟨ha, hA, hB⟩ hd
        simp only [fill_eq, List.take_succ_cons, List.take_zero, List.cons_append, List.nil_append, Act.put, List.setIfInBounds_toArray, List.set_cons_zero, List.set_cons_succ, sel_of (hd 0 (by decide)), sel_of (hd 1 (by decide)), sel_of (hd 2 (by decide)), sel_of (hd 3 (by decide)), sel_of (hd 4 (by decide)), sel_of (hd 5 (by decide)), sel_of (hd 6 (by decide)), sel_of (hd 7 (by decide))] at ha
        subst ha
        have hPP := hB (hd 7 (by decide))
        clear hA hB
        have HPP := Lib.hid hPP
        clear hPP hd DK DW HRd HBq e1 e1'
        go_wp2_with fail
        go_roundw
        case rel => exact ⟨t + 1, by omega, rfl, HPP.out.1, HOq.out.trans HPP.out.2 (fun k hk e => by have := HGM.out; omega)⟩
        case measure => simp [intOf] <;> omega
    · obtain rfl : t = 64 := by omega
      have i1 : decide (((64 : Nat) : Int) < 64) = false := by decide
      obtain ⟨V, hV⟩ : ∃ V, V = vN s kL (wL b 64) 64 := ⟨_, rfl⟩
      rw [← hV] at hb
      have HVb := Lib.hid (show (addV V s).list = (blkV s kL b).list by rw [hV]; rfl)
      have HMx := Lib.hid hb
      have HOf := Lib.hid (HO2.out.trans hO (fun _ _ c => c))
      have HG4 := Lib.hid (HG2.out.off hO (fun c => c))
      have HNE := Lib.hid (show gm ≠ g by have := HGM.out; have := heap_lt HG2.out; omega)
      clear hb hO hV
      obtain ⟨w4, rfl⟩ : ∃ w4, w4 = wr := ⟨_, rfl⟩
      go_wp2_with fail
      go_loopw [25] (fun i wr => ∃ j : Nat, j ≤ 8 ∧ i = .int .i64 (j : Int) ∧ HBlk wr g TT (adP s V j) rest ∧ Off (fun j => j = g) w4 wr) (fun i _ => 8 - (intOf i).toNat)
      case atStart => exact ⟨0, by omega, rfl, HG4.out, Off.refl _ _⟩
      case round =>
        obtain ⟨j, hj, rfl, hb, hO⟩ := hrel
        by_cases hlt : j < 8
        · have i1 : decide ((j : Int) < 8) = true := by simp; omega
          have i2 : (j : Int) < 8 := by omega
          have i3 : IntKind.i64.wrap ((j : Int) + 1) = ((j + 1 : Nat) : Int) := by rw [IntKind.wrap_i64]; omega
          obtain ⟨x, hx⟩ : ∃ x, s.list[j]? = some x := ⟨_, List.getElem?_eq_getElem (show j < 8 from hlt)⟩
          obtain ⟨y, hy⟩ : ∃ y, V.list[j]? = some y := ⟨_, List.getElem?_eq_getElem (show j < 8 from hlt)⟩
          have hset := adP_set s V j x y hlt hx hy
          have hc1 : wr.cell? ⟨g, j, none⟩ = some (u32v x) := hb.cell ((adP_get s V j hlt).trans hx)
          have hc2 : wr.cell? ⟨gm, j, none⟩ = some (u32v y) := hO.cell (HMx.out.cell hy) HNE.out
          have fz := frozen_of_heap hb j
          have lt := heap_lt hb
          have hst := hb.store j ((x + y) % 4294967296) (by rw [adP_length s V j hj]; exact hlt)
          rw [hset] at hst
          have e1 : IntKind.u32.wrap ((x : Int) + (y : Int)) = (((x + y) % 4294967296 : Nat) : Int) := by rw [IntKind.wrap_u32]; omega
          obtain ⟨z, hz⟩ : ∃ z, z = (x + y) % 4294967296 := ⟨_, rfl⟩
          rw [← hz] at e1 hst
          have HST := Lib.hid hst
          have HO := Lib.hid (hO.setCell (p := ⟨g, j, none⟩) (fun _ => rfl) (u32v z))
          clear hst hO hx hy hz hset hb
          go_upto_region 10 with fail
          go_region
          go_wp2_with fail
          go_roundw
          case rel => exact ⟨j + 1, by omega, rfl, HST.out, HO.out.drew⟩
          case measure => simp [intOf] <;> omega
        · obtain rfl : j = 8 := by omega
          have i1 : decide (((8 : Nat) : Int) < 8) = false := by decide
          rw [adP_comm_full, HVb.out] at hb
          have HV := Lib.hid hb
          have HE := Lib.hid ((HOf.out.mono (fun _ _ c => c.elim)).trans hO (fun _ _ c => c))
          clear hb hO
          go_wp2_with fail
          go_end0
          exact ⟨rfl, HV.out, HE.out⟩
end Go.Proofs.YthjfhgnmaepafaaDoor
