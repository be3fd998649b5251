/-
  The contract of package sha's round over this seat's translation. Conditions: the words are words; they lie in a block of their own.
-/
import Derived.Test.YthjfhgnmaepafaaDoorShaBits
import Derived.Test.YthjfhgnmaepafaaDoorShaMem
namespace Go.Proofs.YthjfhgnmaepafaaDoor
open Go.RowKit
set_option maxRecDepth 100000
set_option maxHeartbeats 4000000
/-- The block g is a row of words. -/
def WBlk (w : World) (g : Nat) (T : TypeId) (l : List Nat) : Prop := w.heap[g]? = some (.cells (l.map u32v).toArray T (0, 0))
theorem WBlk.off {w w' : World} {g : Nat} {T : TypeId} {l : List Nat} {S : Nat → Prop} (h : WBlk w g T l) (ho : Off S w w') (hb : ¬ S g) : WBlk w' g T l := ho.heap h hb
theorem WBlk.cell {w : World} {g : Nat} {T : TypeId} {l : List Nat} (h : WBlk w g T l) {j x : Nat} (hj : l[j]? = some x) : w.cell? ⟨g, j, none⟩ = some (u32v x) := by
  rw [cell_of_heap h, List.getElem?_toArray, List.getElem?_map, hj]; rfl
theorem WBlk.store {w : World} {g : Nat} {T : TypeId} {l : List Nat} (h : WBlk w g T l) (j v : Nat) : WBlk (w.setCell ⟨g, j, none⟩ (u32v v)) g T (l.set j v) := by
  have := heap_set h j (u32v v)
  unfold WBlk
  rw [this]
  congr 2
  apply Array.ext'
  simp [List.map_set]
theorem WBlk.cells {w : World} {g : Nat} {T : TypeId} {x0 x1 x2 x3 x4 x5 x6 x7 : Nat} (h : WBlk w g T [x0, x1, x2, x3, x4, x5, x6, x7]) :
    w.cell? ⟨g, 0, none⟩ = some (u32v x0) ∧ w.cell? ⟨g, 1, none⟩ = some (u32v x1) ∧ w.cell? ⟨g, 2, none⟩ = some (u32v x2) ∧ w.cell? ⟨g, 3, none⟩ = some (u32v x3) ∧ w.cell? ⟨g, 4, none⟩ = some (u32v x4) ∧ w.cell? ⟨g, 5, none⟩ = some (u32v x5) ∧ w.cell? ⟨g, 6, none⟩ = some (u32v x6) ∧ w.cell? ⟨g, 7, none⟩ = some (u32v x7) :=
  ⟨h.cell rfl, h.cell rfl, h.cell rfl, h.cell rfl, h.cell rfl, h.cell rfl, h.cell rfl, h.cell rfl⟩
/-- The copy that moves each word to the next one's place. -/
theorem copy_next {w : World} {g : Nat} {T ty : TypeId} {x0 x1 x2 x3 x4 x5 x6 x7 : Nat} (h : WBlk w g T [x0, x1, x2, x3, x4, x5, x6, x7]) :
    ∃ w1, (Builtin.copy_ #[39, 39] ty #[.slice (some ⟨g, 1, none⟩) 7 7, .slice (some ⟨g, 0, none⟩) 7 8]).run Tryd.prog w = .ok (.int .i64 7) w1 ∧ WBlk w1 g T [x0, x0, x1, x2, x3, x4, x5, x6] ∧ Off (fun j => j = g) w w1 := by
  have hs : (Tryd.prog.info? 42).map (·.size) = some 1 := by kernel_rfl
  refine ⟨_, run_copy_cells (P := Tryd.prog) w 39 39 ty 42 g 1 7 7 ⟨g, 0, none⟩ 7 8 [u32v x0, u32v x1, u32v x2, u32v x3, u32v x4, u32v x5, u32v x6] Tryd.underlying39 hs rfl ?_ ?_ (fun j _ => frozen_of_heap h _) ?_, ?_, setCells_off g _ 1 w⟩
  · intro j v hj
    rw [Addr.add_lit, Nat.zero_add, cell_of_heap h]
    match j, hj with
    | 0, hj | 1, hj | 2, hj | 3, hj | 4, hj | 5, hj | 6, hj => simpa using hj
    | n + 7, hj => simp at hj
  · intro j hj
    rw [cell_of_heap h]
    match j, hj with
    | 0, _ | 1, _ | 2, _ | 3, _ | 4, _ | 5, _ | 6, _ => rfl
    | n + 7, hj => simp at hj; omega
  · intro v hv
    simp at hv
    rcases hv with rfl | rfl | rfl | rfl | rfl | rfl | rfl <;> rfl
  · have := setCells_mid [u32v x0, u32v x1, u32v x2, u32v x3, u32v x4, u32v x5, u32v x6] [u32v x0] [u32v x1, u32v x2, u32v x3, u32v x4, u32v x5, u32v x6, u32v x7] [] w 1 rfl rfl h
    exact this
theorem add3 (a b c d : Nat) : ((a + b) % 4294967296 + c) % 4294967296 = (a + b + c) % 4294967296 ∧ (((a + b) % 4294967296 + c) % 4294967296 + d) % 4294967296 = (a + b + c + d) % 4294967296 := by omega
theorem round_any (v : W8) (k wt ad g : Nat) (T : TypeId) (w : World) (hv : v.ok) (ha : ad = (k + wt) % 4294967296) (h : WBlk w g T v.list) :
    Calls Tryd.prog 30 #[.pointer (some ⟨g, 0, none⟩), u32v ad] w fun e w' => e = .returned (.tuple #[]) ∧ WBlk w' g T (stepV v k wt).list ∧ Off (fun j => j = g) w w' := by
  obtain ⟨b0, b1, b2, b3, b4, b5, b6, b7⟩ := hv
  rcases v with ⟨x0, x1, x2, x3, x4, x5, x6, x7⟩
  simp only at b0 b1 b2 b3 b4 b5 b6 b7
  have h : WBlk w g T [x0, x1, x2, x3, x4, x5, x6, x7] := h
  have HS1 := Lib.hid (fun W => spread_any x4 6 11 25 b4 (by decide) (by decide) (by decide) (by decide) (by decide) (by decide) W)
  have HS0 := Lib.hid (fun W => spread_any x0 2 13 22 b0 (by decide) (by decide) (by decide) (by decide) (by decide) (by decide) W)
  have HCh := Lib.hid (fun W => choice_any x4 x5 x6 b4 b5 b6 W)
  have HMa := Lib.hid (fun W => majority_any x0 x1 x2 b0 b1 b2 W)
  obtain ⟨m0, m1, m2, m3, m4, m5, m6, m7⟩ := h.cells
  have HB := Lib.hid h
  have l1 := bs1_lt b4
  have l2 := chN_lt (f := x5) (g := x6) b4
  have l3 := bs0_lt b0
  have l4 := majN_lt (c := x2) b0 b1
  have hadl : ad < 4294967296 := ha ▸ Nat.mod_lt _ (by decide)
  obtain ⟨s1, hs1⟩ : ∃ s, s = ror x4 6 ^^^ ror x4 11 ^^^ ror x4 25 := ⟨_, rfl⟩
  obtain ⟨s0, hs0⟩ : ∃ s, s = ror x0 2 ^^^ ror x0 13 ^^^ ror x0 22 := ⟨_, rfl⟩
  obtain ⟨ch, hch⟩ : ∃ s, s = chN x4 x5 x6 := ⟨_, rfl⟩
  obtain ⟨ma, hma⟩ : ∃ s, s = majN x0 x1 x2 := ⟨_, rfl⟩
  rw [show bs1 x4 = s1 from hs1.symm] at l1
  rw [show bs0 x0 = s0 from hs0.symm] at l3
  rw [← hs1] at HS1
  rw [← hs0] at HS0
  rw [← hch] at HCh l2
  rw [← hma] at HMa l4
  have HT1 := Lib.hid (show t1N ⟨x0, x1, x2, x3, x4, x5, x6, x7⟩ k wt = (x7 + s1 + ch + ad) % 4294967296 by unfold t1N; rw [show bs1 x4 = s1 from hs1.symm, ← hch, ha]; simp only; omega)
  have HT2 := Lib.hid (show t2N ⟨x0, x1, x2, x3, x4, x5, x6, x7⟩ = (s0 + ma) % 4294967296 by unfold t2N; rw [show bs0 x0 = s0 from hs0.symm, ← hma])
  have e1 : IntKind.u32.wrap ((x7 : Int) + (s1 : Int)) = (((x7 + s1) % 4294967296 : Nat) : Int) := by rw [IntKind.wrap_u32]; omega
  have e2 : IntKind.u32.wrap ((((x7 + s1) % 4294967296 : Nat) : Int) + (ch : Int)) = (((x7 + s1 + ch) % 4294967296 : Nat) : Int) := by rw [IntKind.wrap_u32]; omega
  have e3 : IntKind.u32.wrap ((((x7 + s1 + ch) % 4294967296 : Nat) : Int) + (ad : Int)) = (((x7 + s1 + ch + ad) % 4294967296 : Nat) : Int) := by rw [IntKind.wrap_u32]; omega
  have e4 : IntKind.u32.wrap ((s0 : Int) + (ma : Int)) = (((s0 + ma) % 4294967296 : Nat) : Int) := by rw [IntKind.wrap_u32]; omega
  obtain ⟨y1, hy1⟩ : ∃ y, y = (x7 + s1) % 4294967296 := ⟨_, rfl⟩
  obtain ⟨y2, hy2⟩ : ∃ y, y = (x7 + s1 + ch) % 4294967296 := ⟨_, rfl⟩
  obtain ⟨y3, hy3⟩ : ∃ y, y = (x7 + s1 + ch + ad) % 4294967296 := ⟨_, rfl⟩
  obtain ⟨y4, hy4⟩ : ∃ y, y = (s0 + ma) % 4294967296 := ⟨_, rfl⟩
  rw [← hy1] at e1 e2
  rw [← hy2] at e2 e3
  rw [← hy3] at e3 HT1
  rw [← hy4] at e4 HT2
  have k3 : y3 < 4294967296 := hy3 ▸ Nat.mod_lt _ (by decide)
  have k4 : y4 < 4294967296 := hy4 ▸ Nat.mod_lt _ (by decide)
  clear hy1 hy2 hy3 hy4 hs1 hs0 hch hma ha h l1 l2 l3 l4 b0 b1 b2 b4 b5 b6 b7 hadl
  go_enter Tryd.func30, Tryd.ntmps30
  go_upto_region 0 with fail
  go_quiet (first | (go_at_call 34; exact quiet_eq (HS1.out _)) | (go_at_call 35; exact quiet_eq (HCh.out _)))
  have ho1 := off_drewN (Off.refl (fun _ => False) w) nq
  obtain ⟨w1, hw1⟩ : ∃ w1, w1 = w.drewN nq := ⟨_, rfl⟩
  rw [← hw1] at ho1 ⊢
  have hb1 := HB.out.off ho1 (fun c => c)
  have HO1 := Lib.hid ho1
  have HB1 := Lib.hid hb1
  clear m0 m1 m2 m3 m4 m5 m6 m7 hw1 ho1 HB HS1 HCh e1 e2 e3
  obtain ⟨m0, m1, m2, m3, m4, m5, m6, m7⟩ := hb1.cells
  clear hb1
  go_upto_region 1 with fail
  go_quiet (first | (go_at_call 34; exact quiet_eq (HS0.out _)) | (go_at_call 36; exact quiet_eq (HMa.out _)))
  have ho1 := off_drewN HO1.out nq
  have hb1 := HB1.out.off (off_drewN (Off.refl (fun _ => False) w1) nq) (fun c => c)
  obtain ⟨w2, hw2⟩ : ∃ w2, w2 = w1.drewN nq := ⟨_, rfl⟩
  rw [← hw2] at ho1 hb1 ⊢
  have HO2 := Lib.hid ho1
  obtain ⟨w3, hcp, hb3, ho3⟩ := copy_next (ty := 3) (w := w2.drew) (hb1.off ((Off.refl (fun _ => False) w2).drew) (fun c => c))
  have HB3 := Lib.hid hb3
  have HO3 := Lib.hid (show Off (fun j => j = g) w w3 from ((HO2.out.drew).mono (fun _ _ c => c.elim)).trans ho3 (fun _ _ c => c))
  have lt := heap_lt hb1
  clear m0 m1 m2 m3 m4 m5 m6 m7 hw2 ho1 hb1 HB1 HO1 HS0 HMa e4 hb3 ho3
  go_upto_region 2 with fail
  go_region
  go_wp2
  have e5 : IntKind.u32.wrap ((x3 : Int) + (y3 : Int)) = (((x3 + y3) % 4294967296 : Nat) : Int) := by rw [IntKind.wrap_u32]; omega
  have e6 : IntKind.u32.wrap ((y3 : Int) + (y4 : Int)) = (((y3 + y4) % 4294967296 : Nat) : Int) := by rw [IntKind.wrap_u32]; omega
  have HST := Lib.hid (show ∀ W, WBlk W g T [x0, x0, x1, x2, x3, x4, x5, x6] → WBlk ((W.setCell ⟨g, 4, none⟩ (u32v ((x3 + y3) % 4294967296))).setCell ⟨g, 0, none⟩ (u32v ((y3 + y4) % 4294967296))) g T (stepV ⟨x0, x1, x2, x3, x4, x5, x6, x7⟩ k wt).list by
    intro W hW
    have := (hW.store 4 ((x3 + y3) % 4294967296)).store 0 ((y3 + y4) % 4294967296)
    unfold stepV
    rw [HT1.out, HT2.out]
    exact this)
  obtain ⟨z5, hz5⟩ : ∃ z, z = (x3 + y3) % 4294967296 := ⟨_, rfl⟩
  obtain ⟨z6, hz6⟩ : ∃ z, z = (y3 + y4) % 4294967296 := ⟨_, rfl⟩
  rw [← hz5] at e5 HST
  rw [← hz6] at e6 HST
  have c4 := HB3.out.cell (j := 4) rfl
  have c0 := HB3.out.cell (j := 0) rfl
  have f4 := frozen_of_heap HB3.out 4
  have f0 := frozen_of_heap HB3.out 0
  have lt3 := heap_lt HB3.out
  clear hz5 hz6 HT1 HT2 hcp HO2 lt k3 k4 b3
  go_region
  go_wp2
  go_end0
  exact ⟨rfl, HST.out _ HB3.out, ((HO3.out.setCell (fun _ => rfl) _).setCell (fun _ => rfl) _).drew⟩
end Go.Proofs.YthjfhgnmaepafaaDoor
