/-
  Contract of Wide of package bytecode over this seat's translation. Conditions: the field's constants are those of its modulus; the slice is told by its bytes.
-/
import Derived.Test.YtclknpkjnkgejaaDoorBytDec
namespace Go.Proofs.YtclknpkjnkgejaaDoor
open Go.RowKit
attribute [local go_sem ↓] Go.wp_at_zero Go.wp_at_succ
/-- What Wide returns. -/
def wideV (p : Nat) (bs : List Nat) : Nat × Nat := if bs.length = 64 then (fm p (numB bs), 0) else (0, 8)
theorem wide_val {id : Int} {p i r s : Nat} (hF : Fld id p i r s) {bs : List Nat} (hl : bs.length = 64) : (fm p (numB (bs.take 32)) + mm p (fm p (numB (bs.drop 32))) s) % p = fm p (numB bs) := by
  have h1 := numB_split bs 32 (by omega)
  rw [hF.ss, mm_square hF.mp, Nat.mod_eq_of_lt (fm_lt hF.mp.pos _), fm_add, fm_mod, h1, ← r256_bytes, fm_eq p (numB (bs.drop 32)), ← fm_mod p (_ + _ % p), Nat.add_mod_mod, fm_mod]
set_option maxRecDepth 100000 in
set_option maxHeartbeats 4000000 in
theorem wide_any {id : Int} {p i r s : Nat} (hF : Fld id p i r s) (a : Option Addr) (n cap : Nat) (bs : List Nat) (S : Nat → Prop) (w : World) (hb : BsAt w a bs S) (hn : n = bs.length) (hs : Small bs) (hcap : n ≤ cap) :
    Calls Tryd.prog 18 #[FV id p i r s, .slice a n cap] w fun e w' => e = .returned (.tuple #[V (wideV p bs).1, .int .i64 ((wideV p bs).2 : Int)]) ∧ Off (fun _ => False) w w' := by
  by_cases h64 : n = 64
  · obtain ⟨bb, off, rfl, hSb, hcell⟩ := hb (by omega)
    have hlo := numB_r256 (hs.take 32) (by simp; omega)
    have hhi := numB_r256 (hs.drop 32) (by simp; omega)
    have hb0 : BsAt w (some ⟨bb, off, none⟩) bs (fun _ => True) := fun _ => ⟨bb, off, rfl, trivial, hcell⟩
    have HN1 := Lib.hid (fun W (h : Off (fun k => w.heap.size ≤ k) w W) => numberof_any (some ⟨bb, off, none⟩) 32 cap (bs.take 32) _ W ((hb0.later h).take 32) (by simp; omega) (hs.take 32) (by omega))
    have HN2 := Lib.hid (fun W (h : Off (fun k => w.heap.size ≤ k) w W) => numberof_any (some ⟨bb, off + 32, none⟩) 32 (cap - 32) (bs.drop 32) _ W ((hb0.later h).drop 32) (by simp; omega) (hs.drop 32) (by omega))
    have hs1 : ∀ W, (Instr.slice 30 (.slice (some ⟨bb, off, none⟩) 64 cap) none (some (.int .i64 32)) none).run Tryd.prog W = .ok (.slice (some ⟨bb, off, none⟩) 32 cap) W := fun W => slice_hi bb off 64 cap 32 (by omega) W
    have hs2 : ∀ W, (Instr.slice 30 (.slice (some ⟨bb, off, none⟩) 64 cap) (some (.int .i64 32)) none none).run Tryd.prog W = .ok (.slice (some ⟨bb, off + 32, none⟩) 32 (cap - 32)) W := fun W => slice_lo bb off 64 cap 32 (by omega) (by omega) W
    have hs3 : (32 : Int) ≤ (cap : Int) := by omega
    have hs4 : cap ≠ 32 := by omega
    have hv := wide_val hF (show bs.length = 64 by omega)
    have hT1 := fun W => mto_any hF (numB (bs.take 32)) hlo W
    have hT2 := fun W => mto_any hF (numB (bs.drop 32)) hhi W
    rw [fm_mod] at hT1 hT2
    have hd : wideV p bs = (fm p (numB bs), 0) := by unfold wideV; rw [if_pos (by omega)]
    rw [hd, ← hv]
    have hp := hF.mp.lt
    have hsp : s < p := by rw [hF.ss]; exact Nat.mod_lt _ hF.mp.pos
    obtain ⟨lo, hlo2⟩ : ∃ lo, lo = numB (bs.take 32) := ⟨_, rfl⟩
    obtain ⟨hi, hhi2⟩ : ∃ hi, hi = numB (bs.drop 32) := ⟨_, rfl⟩
    rw [← hlo2] at HN1 hT1 ⊢
    rw [← hhi2] at HN2 hT2 ⊢
    obtain ⟨y, hy⟩ : ∃ y, y = fm p lo := ⟨_, rfl⟩
    obtain ⟨z, hz⟩ : ∃ z, z = fm p hi := ⟨_, rfl⟩
    have hyp : y < p := by rw [hy]; exact fm_lt hF.mp.pos _
    have hzp : z < p := by rw [hz]; exact fm_lt hF.mp.pos _
    rw [← hy] at hT1 ⊢
    rw [← hz] at hT2 ⊢
    have hM := fun W => mmul_any hF z s (by omega) hsp W
    have hmz : mm p z s < p := mm_lt hF.mp _ _
    obtain ⟨m, hm⟩ : ∃ m, m = mm p z s := ⟨_, rfl⟩
    rw [← hm] at hM hmz ⊢
    have hA := fun W => madd_any hF y m hyp hmz W
    obtain ⟨x, hx⟩ : ∃ x, x = (y + m) % p := ⟨_, rfl⟩
    rw [← hx] at hA ⊢
    have HT1 := Lib.hid hT1
    have HT2 := Lib.hid hT2
    have HM := Lib.hid hM
    have HA := Lib.hid hA
    clear hT1 hT2 hM hA hb0 hcell hSb hb hn hs hlo hhi hv hd hp hsp hlo2 hhi2 hy hz hyp hzp hmz hm hx hF hcap
    subst h64
    go_enter Tryd.func18, Tryd.ntmps18
    obtain ⟨W0, hW0⟩ : ∃ W0, W0 = (w.alloc (.cells #[.int .i64 id, .int .u64 (wd p 0 : Int), .int .u64 (wd p 1 : Int), .int .u64 (wd p 2 : Int), .int .u64 (wd p 3 : Int), .int .u64 (i : Int), .int .u64 (wd r 0 : Int), .int .u64 (wd r 1 : Int), .int .u64 (wd r 2 : Int), .int .u64 (wd r 3 : Int), .int .u64 (wd s 0 : Int), .int .u64 (wd s 1 : Int), .int .u64 (wd s 2 : Int), .int .u64 (wd s 3 : Int)] 26)).alloc (.cells #[.int .u64 0, .int .u64 0, .int .u64 0, .int .u64 0] 24) := ⟨_, rfl⟩
    have HF0 := Lib.hid (show W0.heap[w.heap.size]? = some (.cells #[.int .i64 id, .int .u64 (wd p 0 : Int), .int .u64 (wd p 1 : Int), .int .u64 (wd p 2 : Int), .int .u64 (wd p 3 : Int), .int .u64 (i : Int), .int .u64 (wd r 0 : Int), .int .u64 (wd r 1 : Int), .int .u64 (wd r 2 : Int), .int .u64 (wd r 3 : Int), .int .u64 (wd s 0 : Int), .int .u64 (wd s 1 : Int), .int .u64 (wd s 2 : Int), .int .u64 (wd s 3 : Int)] 26) by rw [hW0]; exact heap_old' (heap_new' rfl _) _)
    have HR0 := Lib.hid (show W0.heap[w.heap.size + 1]? = some (.cells #[.int .u64 0, .int .u64 0, .int .u64 0, .int .u64 0] 24) by rw [hW0]; exact heap_new' (by simp) _)
    have HO0 := Lib.hid (show Off (fun _ => False) w W0 by rw [hW0]; exact (((Off.refl (fun _ => False) w).alloc _).alloc _))
    have HK0 : Hid (∀ W, Off (fun _ => False) W0 W → (W.cell? ⟨w.heap.size, 0, none⟩ = some (.int .i64 id) ∧ W.cell? ⟨w.heap.size, 1, none⟩ = some (.int .u64 (wd p 0 : Int)) ∧ W.cell? ⟨w.heap.size, 2, none⟩ = some (.int .u64 (wd p 1 : Int)) ∧ W.cell? ⟨w.heap.size, 3, none⟩ = some (.int .u64 (wd p 2 : Int)) ∧ W.cell? ⟨w.heap.size, 4, none⟩ = some (.int .u64 (wd p 3 : Int)) ∧ W.cell? ⟨w.heap.size, 5, none⟩ = some (.int .u64 (i : Int)) ∧ W.cell? ⟨w.heap.size, 6, none⟩ = some (.int .u64 (wd r 0 : Int)) ∧ W.cell? ⟨w.heap.size, 7, none⟩ = some (.int .u64 (wd r 1 : Int)) ∧ W.cell? ⟨w.heap.size, 8, none⟩ = some (.int .u64 (wd r 2 : Int)) ∧ W.cell? ⟨w.heap.size, 9, none⟩ = some (.int .u64 (wd r 3 : Int)) ∧ W.cell? ⟨w.heap.size, 10, none⟩ = some (.int .u64 (wd s 0 : Int)) ∧ W.cell? ⟨w.heap.size, 11, none⟩ = some (.int .u64 (wd s 1 : Int)) ∧ W.cell? ⟨w.heap.size, 12, none⟩ = some (.int .u64 (wd s 2 : Int)) ∧ W.cell? ⟨w.heap.size, 13, none⟩ = some (.int .u64 (wd s 3 : Int))) ∧ Off (fun _ => False) W0 W) := Lib.hid (fun W h => ⟨fv_cells (h.heap HF0.out (fun c => c)), h⟩)
    have HW0 := Lib.hid hW0
    clear hW0
    go_upto_region 3 with fail
    rw [← HW0.out]
    refine wp_region_inv (fun a0 l a' w' => ∃ (u13 : Value) (u14 : Value) (u15 : Value) (u16 : Value) (u17 : Value) (u6 : Value) (b6 : Nat), a' = (Act.put (Act.put (Act.put (Act.put (Act.put (Act.put a0 (some 13) u13) (some 14) u14) (some 15) u15) (some 16) u16) (some 17) u17) (some 6) u6) ∧ Slot l 0 u13 (FV id p i r s) ∧ Slot l 1 u14 (.slice (some ⟨bb, off, none⟩) 64 cap) ∧ Slot l 2 u15 (.slice (some ⟨bb, off, none⟩) 32 cap) ∧ Slot l 3 u16 (V lo) ∧ Slot l 4 u17 (V y) ∧ Blk l 5 6 u6 b6 W0 w' (.cells #[.int .u64 0, .int .u64 0, .int .u64 0, .int .u64 0] 24) (.cells #[.int .u64 (wd y 0 : Int), .int .u64 (wd y 1 : Int), .int .u64 (wd y 2 : Int), .int .u64 (wd y 3 : Int)] 24) ∧ Off (fun _ => False) W0 w') (by kernel_rfl) (by kernel_rfl) ?_ ⟨?_, ?_, ?_, ?_, ?_, ?_, ?_, trivial⟩ ?_
    · refine ⟨?z13, ?z14, ?z15, ?z16, ?z17, ?z6, 0, ?fr, Slot.start _ _ _, Slot.start _ _ _, Slot.start _ _ _, Slot.start _ _ _, Slot.start _ _ _, Blk.start _ _ _ _ _ _ _ _, (Off.refl _ W0).drew⟩
      case fr => first | (simp only [Act.put, List.setIfInBounds_toArray, List.set_cons_zero, List.set_cons_succ]; rfl) | simp only [Act.put, List.setIfInBounds_toArray, List.set_cons_zero, List.set_cons_succ]
    · intro l a wr hI hl hd K' hK
      obtain ⟨u13, u14, u15, u16, u17, u6, b6, ha, s0, s1, s2, s3, s4, B5, hO⟩ := hI
      simp only [Act.put, List.setIfInBounds_toArray, List.set_cons_zero, List.set_cons_succ] at ha
      subst ha
      have hc := HK0.out wr hO
      have p0 := hc.1.1
      have p1 := hc.1.2.1
      have p2 := hc.1.2.2.1
      have p3 := hc.1.2.2.2.1
      have p4 := hc.1.2.2.2.2.1
      have p5 := hc.1.2.2.2.2.2.1
      have p6 := hc.1.2.2.2.2.2.2.1
      have p7 := hc.1.2.2.2.2.2.2.2.1
      have p8 := hc.1.2.2.2.2.2.2.2.2.1
      have p9 := hc.1.2.2.2.2.2.2.2.2.2.1
      have p10 := hc.1.2.2.2.2.2.2.2.2.2.2.1
      have p11 := hc.1.2.2.2.2.2.2.2.2.2.2.2.1
      have p12 := hc.1.2.2.2.2.2.2.2.2.2.2.2.2.1
      have p13 := hc.1.2.2.2.2.2.2.2.2.2.2.2.2.2
      clear hc
      go_simp
      refine hK.out _ _ ⟨_, _, _, _, _, _, _, ?_, Slot.new _ _ _, s1.keep rfl, s2.keep rfl, s3.keep rfl, s4.keep rfl, B5.keep (Off.refl _ wr) rfl rfl, hO⟩
      simp only [Act.put, List.setIfInBounds_toArray, List.set_cons_zero, List.set_cons_succ]
    · intro l a wr hI hl hd K' hK
      obtain ⟨u13, u14, u15, u16, u17, u6, b6, ha, s0, s1, s2, s3, s4, B5, hO⟩ := hI
      simp only [Act.put, List.setIfInBounds_toArray, List.set_cons_zero, List.set_cons_succ] at ha
      subst ha
      go_simp
      refine hK.out _ _ ⟨_, _, _, _, _, _, _, ?_, s0.keep rfl, Slot.new _ _ _, s2.keep rfl, s3.keep rfl, s4.keep rfl, B5.keep (Off.refl _ wr) rfl rfl, hO⟩
      simp only [Act.put, List.setIfInBounds_toArray, List.set_cons_zero, List.set_cons_succ]
    · intro l a wr hI hl hd K' hK
      obtain ⟨u13, u14, u15, u16, u17, u6, b6, ha, s0, s1, s2, s3, s4, B5, hO⟩ := hI
      simp only [Act.put, List.setIfInBounds_toArray, List.set_cons_zero, List.set_cons_succ] at ha
      have q1 := s1 (hd 1 (by decide))
      subst ha q1
      go_simp
      refine hK.out _ _ ⟨_, _, _, _, _, _, _, ?_, s0.keep rfl, s1.keep rfl, Slot.new _ _ _, s3.keep rfl, s4.keep rfl, B5.keep (Off.refl _ wr) rfl rfl, hO⟩
      simp only [Act.put, List.setIfInBounds_toArray, List.set_cons_zero, List.set_cons_succ]
    · intro l a wr hI hl hd K' hK
      obtain ⟨u13, u14, u15, u16, u17, u6, b6, ha, s0, s1, s2, s3, s4, B5, hO⟩ := hI
      simp only [Act.put, List.setIfInBounds_toArray, List.set_cons_zero, List.set_cons_succ] at ha
      have q2 := s2 (hd 2 (by decide))
      subst ha q2
      go_simp
      refine (held_inv (HN1.out wr ((HO0.out.trans hO (fun _ _ c => c)).mono (S' := fun k => w.heap.size ≤ k) (fun _ _ c => c.elim))) hO).mono ?_
      rintro e w1 ⟨rfl, hO1, hOW⟩
      go_wp2_with fail
      refine hK.out _ _ ⟨_, _, _, _, _, _, _, ?_, s0.keep rfl, s1.keep rfl, s2.keep rfl, Slot.new _ _ _, s4.keep rfl, B5.keep hOW rfl rfl, hO1⟩
      simp only [Act.put, List.setIfInBounds_toArray, List.set_cons_zero, List.set_cons_succ]
    · intro l a wr hI hl hd K' hK
      obtain ⟨u13, u14, u15, u16, u17, u6, b6, ha, s0, s1, s2, s3, s4, B5, hO⟩ := hI
      simp only [Act.put, List.setIfInBounds_toArray, List.set_cons_zero, List.set_cons_succ] at ha
      have q0 := s0 (hd 0 (by decide))
      have q3 := s3 (hd 3 (by decide))
      subst ha q0 q3
      go_simp
      refine (held_inv (HT1.out wr) hO).mono ?_
      rintro e w1 ⟨rfl, hO1, hOW⟩
      go_wp2_with fail
      refine hK.out _ _ ⟨_, _, _, _, _, _, _, ?_, s0.keep rfl, s1.keep rfl, s2.keep rfl, s3.keep rfl, Slot.new _ _ _, B5.keep hOW rfl rfl, hO1⟩
      simp only [Act.put, List.setIfInBounds_toArray, List.set_cons_zero, List.set_cons_succ]
    · intro l a wr hI hl hd K' hK
      obtain ⟨u13, u14, u15, u16, u17, u6, b6, ha, s0, s1, s2, s3, s4, B5, hO⟩ := hI
      simp only [Act.put, List.setIfInBounds_toArray, List.set_cons_zero, List.set_cons_succ] at ha
      subst ha
      go_simp
      refine hK.out _ _ ⟨_, _, _, _, _, _, _, ?_, s0.keep rfl, s1.keep rfl, s2.keep rfl, s3.keep rfl, s4.keep rfl, B5.make hl rfl hO, hO.alloc _⟩
      simp only [Act.put, List.setIfInBounds_toArray, List.set_cons_zero, List.set_cons_succ]
    · intro l a wr hI hl hd K' hK
      obtain ⟨u13, u14, u15, u16, u17, u6, b6, ha, s0, s1, s2, s3, s4, B5, hO⟩ := hI
      simp only [Act.put, List.setIfInBounds_toArray, List.set_cons_zero, List.set_cons_succ] at ha
      have h5 := hd 5 (by decide)
      have q5 := B5.ptr h5
      have q4 := s4 (hd 4 (by decide))
      subst ha q5 q4
      obtain ⟨⟨m0, m1, m2, m3⟩, fz, lt⟩ := zero_cells (B5.was h5 hl)
      go_simp
      refine hK.out _ _ ⟨_, _, _, _, _, _, _, ?_, s0.keep rfl, s1.keep rfl, s2.keep rfl, s3.keep rfl, s4.keep rfl, B5.put hl h5 rfl rfl, setCells_in hO (fun c => absurd c (Nat.not_lt.2 (B5.new h5))) [.int .u64 (wd y 0 : Int), .int .u64 (wd y 1 : Int), .int .u64 (wd y 2 : Int), .int .u64 (wd y 3 : Int)]⟩
      simp only [Act.put, List.setIfInBounds_toArray, List.set_cons_zero, List.set_cons_succ]
    · intro l a wc hI hd
      obtain ⟨u13, u14, u15, u16, u17, u6, b6, ha, s0, s1, s2, s3, s4, B5, hO⟩ := hI
      simp only [Act.put, List.setIfInBounds_toArray, List.set_cons_zero, List.set_cons_succ] at ha
      have q0 := s0 (hd 0 (by decide))
      have q1 := s1 (hd 1 (by decide))
      have q2 := s2 (hd 2 (by decide))
      have q3 := s3 (hd 3 (by decide))
      have q4 := s4 (hd 4 (by decide))
      have q5 := B5.ptr (hd 5 (by decide))
      have n6 : wc.heap[b6]? = some (.cells #[.int .u64 (wd y 0 : Int), .int .u64 (wd y 1 : Int), .int .u64 (wd y 2 : Int), .int .u64 (wd y 3 : Int)] 24) := B5.now (hd 5 (by decide)) (hd 6 (by decide))
      have v6 := B5.new (hd 5 (by decide))
      subst ha q0 q1 q2 q3 q4 q5
      clear hd s0 s1 s2 s3 s4 B5
      obtain ⟨W1, hW1⟩ : ∃ W1, W1 = wc := ⟨_, rfl⟩
      subst hW1
      have HF1 := Lib.hid (hO.heap HF0.out (fun c => c))
      have HR1 := Lib.hid (hO.heap HR0.out (fun c => c))
      have HO1 := Lib.hid (HO0.out.trans hO (fun _ _ c => c))
      have HY1 := Lib.hid n6
      have HYN := Lib.hid (show w.heap.size + 1 < b6 from Nat.lt_of_lt_of_le (heap_lt HR0.out) v6)
      have HK1 : Hid (∀ W, Off (fun _ => False) W1 W → (W.cell? ⟨w.heap.size, 0, none⟩ = some (.int .i64 id) ∧ W.cell? ⟨w.heap.size, 1, none⟩ = some (.int .u64 (wd p 0 : Int)) ∧ W.cell? ⟨w.heap.size, 2, none⟩ = some (.int .u64 (wd p 1 : Int)) ∧ W.cell? ⟨w.heap.size, 3, none⟩ = some (.int .u64 (wd p 2 : Int)) ∧ W.cell? ⟨w.heap.size, 4, none⟩ = some (.int .u64 (wd p 3 : Int)) ∧ W.cell? ⟨w.heap.size, 5, none⟩ = some (.int .u64 (i : Int)) ∧ W.cell? ⟨w.heap.size, 6, none⟩ = some (.int .u64 (wd r 0 : Int)) ∧ W.cell? ⟨w.heap.size, 7, none⟩ = some (.int .u64 (wd r 1 : Int)) ∧ W.cell? ⟨w.heap.size, 8, none⟩ = some (.int .u64 (wd r 2 : Int)) ∧ W.cell? ⟨w.heap.size, 9, none⟩ = some (.int .u64 (wd r 3 : Int)) ∧ W.cell? ⟨w.heap.size, 10, none⟩ = some (.int .u64 (wd s 0 : Int)) ∧ W.cell? ⟨w.heap.size, 11, none⟩ = some (.int .u64 (wd s 1 : Int)) ∧ W.cell? ⟨w.heap.size, 12, none⟩ = some (.int .u64 (wd s 2 : Int)) ∧ W.cell? ⟨w.heap.size, 13, none⟩ = some (.int .u64 (wd s 3 : Int))) ∧ Off (fun _ => False) W1 W) := Lib.hid (fun W h => ⟨fv_cells (h.heap HF1.out (fun c => c)), h⟩)
      clear hO n6 v6 HW0 HK0 HF0 HR0 HO0 HN1 HT1 l
      go_upto_region 4 with fail
      refine wp_region_inv (fun a0 l a' w' => ∃ (u18 : Value) (u19 : Value) (u20 : Value) (u21 : Value) (u22 : Value) (u7 : Value) (b7 : Nat), a' = (Act.put (Act.put (Act.put (Act.put (Act.put (Act.put a0 (some 18) u18) (some 19) u19) (some 20) u20) (some 21) u21) (some 22) u22) (some 7) u7) ∧ Slot l 0 u18 (FV id p i r s) ∧ Slot l 1 u19 (.slice (some ⟨bb, off, none⟩) 64 cap) ∧ Slot l 2 u20 (.slice (some ⟨bb, off + 32, none⟩) 32 (cap - 32)) ∧ Slot l 3 u21 (V hi) ∧ Slot l 4 u22 (V z) ∧ Blk l 5 6 u7 b7 W1 w' (.cells #[.int .u64 0, .int .u64 0, .int .u64 0, .int .u64 0] 24) (.cells #[.int .u64 (wd z 0 : Int), .int .u64 (wd z 1 : Int), .int .u64 (wd z 2 : Int), .int .u64 (wd z 3 : Int)] 24) ∧ Off (fun _ => False) W1 w') (by kernel_rfl) (by kernel_rfl) ?_ ⟨?_, ?_, ?_, ?_, ?_, ?_, ?_, trivial⟩ ?_
      · refine ⟨?z18, ?z19, ?z20, ?z21, ?z22, ?z7, 0, ?fr, Slot.start _ _ _, Slot.start _ _ _, Slot.start _ _ _, Slot.start _ _ _, Slot.start _ _ _, Blk.start _ _ _ _ _ _ _ _, (Off.refl _ W1).drew⟩
        case fr => first | (simp only [Act.put, List.setIfInBounds_toArray, List.set_cons_zero, List.set_cons_succ]; rfl) | simp only [Act.put, List.setIfInBounds_toArray, List.set_cons_zero, List.set_cons_succ]
      · intro l a wr hI hl hd K' hK
        obtain ⟨u18, u19, u20, u21, u22, u7, b7, ha, s0, s1, s2, s3, s4, B5, hO⟩ := hI
        simp only [Act.put, List.setIfInBounds_toArray, List.set_cons_zero, List.set_cons_succ] at ha
        subst ha
        have hc := HK1.out wr hO
        have p0 := hc.1.1
        have p1 := hc.1.2.1
        have p2 := hc.1.2.2.1
        have p3 := hc.1.2.2.2.1
        have p4 := hc.1.2.2.2.2.1
        have p5 := hc.1.2.2.2.2.2.1
        have p6 := hc.1.2.2.2.2.2.2.1
        have p7 := hc.1.2.2.2.2.2.2.2.1
        have p8 := hc.1.2.2.2.2.2.2.2.2.1
        have p9 := hc.1.2.2.2.2.2.2.2.2.2.1
        have p10 := hc.1.2.2.2.2.2.2.2.2.2.2.1
        have p11 := hc.1.2.2.2.2.2.2.2.2.2.2.2.1
        have p12 := hc.1.2.2.2.2.2.2.2.2.2.2.2.2.1
        have p13 := hc.1.2.2.2.2.2.2.2.2.2.2.2.2.2
        clear hc
        go_simp
        refine hK.out _ _ ⟨_, _, _, _, _, _, _, ?_, Slot.new _ _ _, s1.keep rfl, s2.keep rfl, s3.keep rfl, s4.keep rfl, B5.keep (Off.refl _ wr) rfl rfl, hO⟩
        simp only [Act.put, List.setIfInBounds_toArray, List.set_cons_zero, List.set_cons_succ]
      · intro l a wr hI hl hd K' hK
        obtain ⟨u18, u19, u20, u21, u22, u7, b7, ha, s0, s1, s2, s3, s4, B5, hO⟩ := hI
        simp only [Act.put, List.setIfInBounds_toArray, List.set_cons_zero, List.set_cons_succ] at ha
        subst ha
        go_simp
        refine hK.out _ _ ⟨_, _, _, _, _, _, _, ?_, s0.keep rfl, Slot.new _ _ _, s2.keep rfl, s3.keep rfl, s4.keep rfl, B5.keep (Off.refl _ wr) rfl rfl, hO⟩
        simp only [Act.put, List.setIfInBounds_toArray, List.set_cons_zero, List.set_cons_succ]
      · intro l a wr hI hl hd K' hK
        obtain ⟨u18, u19, u20, u21, u22, u7, b7, ha, s0, s1, s2, s3, s4, B5, hO⟩ := hI
        simp only [Act.put, List.setIfInBounds_toArray, List.set_cons_zero, List.set_cons_succ] at ha
        have q1 := s1 (hd 1 (by decide))
        subst ha q1
        go_simp
        refine hK.out _ _ ⟨_, _, _, _, _, _, _, ?_, s0.keep rfl, s1.keep rfl, Slot.new _ _ _, s3.keep rfl, s4.keep rfl, B5.keep (Off.refl _ wr) rfl rfl, hO⟩
        simp only [Act.put, List.setIfInBounds_toArray, List.set_cons_zero, List.set_cons_succ]
      · intro l a wr hI hl hd K' hK
        obtain ⟨u18, u19, u20, u21, u22, u7, b7, ha, s0, s1, s2, s3, s4, B5, hO⟩ := hI
        simp only [Act.put, List.setIfInBounds_toArray, List.set_cons_zero, List.set_cons_succ] at ha
        have q2 := s2 (hd 2 (by decide))
        subst ha q2
        go_simp
        refine (held_inv (HN2.out wr ((HO1.out.trans hO (fun _ _ c => c)).mono (S' := fun k => w.heap.size ≤ k) (fun _ _ c => c.elim))) hO).mono ?_
        rintro e w1 ⟨rfl, hO1, hOW⟩
        go_wp2_with fail
        refine hK.out _ _ ⟨_, _, _, _, _, _, _, ?_, s0.keep rfl, s1.keep rfl, s2.keep rfl, Slot.new _ _ _, s4.keep rfl, B5.keep hOW rfl rfl, hO1⟩
        simp only [Act.put, List.setIfInBounds_toArray, List.set_cons_zero, List.set_cons_succ]
      · intro l a wr hI hl hd K' hK
        obtain ⟨u18, u19, u20, u21, u22, u7, b7, ha, s0, s1, s2, s3, s4, B5, hO⟩ := hI
        simp only [Act.put, List.setIfInBounds_toArray, List.set_cons_zero, List.set_cons_succ] at ha
        have q0 := s0 (hd 0 (by decide))
        have q3 := s3 (hd 3 (by decide))
        subst ha q0 q3
        go_simp
        refine (held_inv (HT2.out wr) hO).mono ?_
        rintro e w1 ⟨rfl, hO1, hOW⟩
        go_wp2_with fail
        refine hK.out _ _ ⟨_, _, _, _, _, _, _, ?_, s0.keep rfl, s1.keep rfl, s2.keep rfl, s3.keep rfl, Slot.new _ _ _, B5.keep hOW rfl rfl, hO1⟩
        simp only [Act.put, List.setIfInBounds_toArray, List.set_cons_zero, List.set_cons_succ]
      · intro l a wr hI hl hd K' hK
        obtain ⟨u18, u19, u20, u21, u22, u7, b7, ha, s0, s1, s2, s3, s4, B5, hO⟩ := hI
        simp only [Act.put, List.setIfInBounds_toArray, List.set_cons_zero, List.set_cons_succ] at ha
        subst ha
        go_simp
        refine hK.out _ _ ⟨_, _, _, _, _, _, _, ?_, s0.keep rfl, s1.keep rfl, s2.keep rfl, s3.keep rfl, s4.keep rfl, B5.make hl rfl hO, hO.alloc _⟩
        simp only [Act.put, List.setIfInBounds_toArray, List.set_cons_zero, List.set_cons_succ]
      · intro l a wr hI hl hd K' hK
        obtain ⟨u18, u19, u20, u21, u22, u7, b7, ha, s0, s1, s2, s3, s4, B5, hO⟩ := hI
        simp only [Act.put, List.setIfInBounds_toArray, List.set_cons_zero, List.set_cons_succ] at ha
        have h5 := hd 5 (by decide)
        have q5 := B5.ptr h5
        have q4 := s4 (hd 4 (by decide))
        subst ha q5 q4
        obtain ⟨⟨m0, m1, m2, m3⟩, fz, lt⟩ := zero_cells (B5.was h5 hl)
        go_simp
        refine hK.out _ _ ⟨_, _, _, _, _, _, _, ?_, s0.keep rfl, s1.keep rfl, s2.keep rfl, s3.keep rfl, s4.keep rfl, B5.put hl h5 rfl rfl, setCells_in hO (fun c => absurd c (Nat.not_lt.2 (B5.new h5))) [.int .u64 (wd z 0 : Int), .int .u64 (wd z 1 : Int), .int .u64 (wd z 2 : Int), .int .u64 (wd z 3 : Int)]⟩
        simp only [Act.put, List.setIfInBounds_toArray, List.set_cons_zero, List.set_cons_succ]
      · intro l a wc hI hd
        obtain ⟨u18, u19, u20, u21, u22, u7, b7, ha, s0, s1, s2, s3, s4, B5, hO⟩ := hI
        simp only [Act.put, List.setIfInBounds_toArray, List.set_cons_zero, List.set_cons_succ] at ha
        have q0 := s0 (hd 0 (by decide))
        have q1 := s1 (hd 1 (by decide))
        have q2 := s2 (hd 2 (by decide))
        have q3 := s3 (hd 3 (by decide))
        have q4 := s4 (hd 4 (by decide))
        have q5 := B5.ptr (hd 5 (by decide))
        have n7 : wc.heap[b7]? = some (.cells #[.int .u64 (wd z 0 : Int), .int .u64 (wd z 1 : Int), .int .u64 (wd z 2 : Int), .int .u64 (wd z 3 : Int)] 24) := B5.now (hd 5 (by decide)) (hd 6 (by decide))
        have v7 := B5.new (hd 5 (by decide))
        subst ha q0 q1 q2 q3 q4 q5
        clear hd s0 s1 s2 s3 s4 B5
        obtain ⟨W2, hW2⟩ : ∃ W2, W2 = wc := ⟨_, rfl⟩
        subst hW2
        have hFc := hO.heap HF1.out (fun c => c)
        have hRc := hO.heap HR1.out (fun c => c)
        have hYc := hO.heap HY1.out (fun c => c)
        obtain ⟨W3, hW3⟩ : ∃ W3, W3 = W2.alloc (.cells #[.int .u64 (wd s 0 : Int), .int .u64 (wd s 1 : Int), .int .u64 (wd s 2 : Int), .int .u64 (wd s 3 : Int)] 24) := ⟨_, rfl⟩
        have oW3 : Off (fun _ => False) W2 W3 := by rw [hW3]; exact (Off.refl _ W2).alloc _
        have hSc : W3.heap[W2.heap.size]? = some (.cells #[.int .u64 (wd s 0 : Int), .int .u64 (wd s 1 : Int), .int .u64 (wd s 2 : Int), .int .u64 (wd s 3 : Int)] 24) := by rw [hW3]; exact heap_new' rfl _
        have HR3 := Lib.hid (oW3.heap hRc (fun c => c))
        have HF3 := Lib.hid (oW3.heap hFc (fun c => c))
        have HY3 := Lib.hid (oW3.heap hYc (fun c => c))
        have HZ3 := Lib.hid (oW3.heap n7 (fun c => c))
        have HS3 := Lib.hid hSc
        have HO3 := Lib.hid ((HO1.out.trans hO (fun _ _ c => c)).trans oW3 (fun _ _ c => c))
        have l6 : b6 ≠ w.heap.size + 1 := by have := HO1.out.size; have h1 := heap_lt HR1.out; have h2 := HYN.out; omega
        have l7 : b7 ≠ w.heap.size + 1 := by have h1 := heap_lt HR1.out; omega
        have l8 : W2.heap.size ≠ w.heap.size + 1 := by have h1 := heap_lt hRc; omega
        have HK3 : Hid (∀ W, Off (fun k => k = (w.heap.size + 1)) W3 W → (W.cell? ⟨w.heap.size, 0, none⟩ = some (.int .i64 id) ∧ W.cell? ⟨w.heap.size, 1, none⟩ = some (.int .u64 (wd p 0 : Int)) ∧ W.cell? ⟨w.heap.size, 2, none⟩ = some (.int .u64 (wd p 1 : Int)) ∧ W.cell? ⟨w.heap.size, 3, none⟩ = some (.int .u64 (wd p 2 : Int)) ∧ W.cell? ⟨w.heap.size, 4, none⟩ = some (.int .u64 (wd p 3 : Int)) ∧ W.cell? ⟨w.heap.size, 5, none⟩ = some (.int .u64 (i : Int)) ∧ W.cell? ⟨w.heap.size, 6, none⟩ = some (.int .u64 (wd r 0 : Int)) ∧ W.cell? ⟨w.heap.size, 7, none⟩ = some (.int .u64 (wd r 1 : Int)) ∧ W.cell? ⟨w.heap.size, 8, none⟩ = some (.int .u64 (wd r 2 : Int)) ∧ W.cell? ⟨w.heap.size, 9, none⟩ = some (.int .u64 (wd r 3 : Int)) ∧ W.cell? ⟨w.heap.size, 10, none⟩ = some (.int .u64 (wd s 0 : Int)) ∧ W.cell? ⟨w.heap.size, 11, none⟩ = some (.int .u64 (wd s 1 : Int)) ∧ W.cell? ⟨w.heap.size, 12, none⟩ = some (.int .u64 (wd s 2 : Int)) ∧ W.cell? ⟨w.heap.size, 13, none⟩ = some (.int .u64 (wd s 3 : Int))) ∧ (W.cell? ⟨b6, 0, none⟩ = some (.int .u64 (wd y 0 : Int)) ∧ W.cell? ⟨b6, 1, none⟩ = some (.int .u64 (wd y 1 : Int)) ∧ W.cell? ⟨b6, 2, none⟩ = some (.int .u64 (wd y 2 : Int)) ∧ W.cell? ⟨b6, 3, none⟩ = some (.int .u64 (wd y 3 : Int))) ∧ (W.cell? ⟨b7, 0, none⟩ = some (.int .u64 (wd z 0 : Int)) ∧ W.cell? ⟨b7, 1, none⟩ = some (.int .u64 (wd z 1 : Int)) ∧ W.cell? ⟨b7, 2, none⟩ = some (.int .u64 (wd z 2 : Int)) ∧ W.cell? ⟨b7, 3, none⟩ = some (.int .u64 (wd z 3 : Int))) ∧ (W.cell? ⟨W2.heap.size, 0, none⟩ = some (.int .u64 (wd s 0 : Int)) ∧ W.cell? ⟨W2.heap.size, 1, none⟩ = some (.int .u64 (wd s 1 : Int)) ∧ W.cell? ⟨W2.heap.size, 2, none⟩ = some (.int .u64 (wd s 2 : Int)) ∧ W.cell? ⟨W2.heap.size, 3, none⟩ = some (.int .u64 (wd s 3 : Int))) ∧ Off (fun k => k = (w.heap.size + 1)) W3 W) := Lib.hid (fun W h => ⟨fv_cells (h.heap HF3.out (by omega)), cells4 (h.heap HY3.out l6), cells4 (h.heap HZ3.out l7), cells4 (h.heap HS3.out l8), h⟩)
        obtain ⟨f0, f1, f2, f3, f4, f5, f6, f7, f8, f9, f10, f11, f12, f13⟩ := fv_cells hFc
        have HW3 := Lib.hid hW3
        clear hFc hRc hYc oW3 hSc hO n7 v7 hW3 HN2 HT2 HK1 HF1 HR1 HO1 HY1
        go_upto_region 6 with fail
        rw [← HW3.out]
        clear f0 f1 f2 f3 f4 f5 f6 f7 f8 f9 f10 f11 f12 f13
        refine wp_region_inv (fun a0 l a' w' => ∃ (u25 : Value) (u26 : Value) (u27 : Value) (u28 : Value) (u29 : Value) (u30 : Value) (u31 : Value) (u5 : Value), a' = (Act.put (Act.put (Act.put (Act.put (Act.put (Act.put (Act.put (Act.put a0 (some 25) u25) (some 26) u26) (some 27) u27) (some 28) u28) (some 29) u29) (some 30) u30) (some 31) u31) (some 5) u5) ∧ Slot l 0 u25 (FV id p i r s) ∧ Slot l 1 u26 (V y) ∧ Slot l 2 u27 (FV id p i r s) ∧ Slot l 3 u28 (V z) ∧ Slot l 4 u29 (V s) ∧ Slot l 5 u30 (V m) ∧ Slot l 6 u31 (V x) ∧ Slot l 8 u5 (.int .i64 0) ∧ Old l 7 (w.heap.size + 1) W3 w' (.cells #[.int .u64 0, .int .u64 0, .int .u64 0, .int .u64 0] 24) (.cells #[.int .u64 (wd x 0 : Int), .int .u64 (wd x 1 : Int), .int .u64 (wd x 2 : Int), .int .u64 (wd x 3 : Int)] 24) ∧ Off (fun k => k = (w.heap.size + 1)) W3 w') (by kernel_rfl) (by kernel_rfl) ?_ ⟨?_, ?_, ?_, ?_, ?_, ?_, ?_, ?_, ?_, trivial⟩ ?_
        · refine ⟨?z25, ?z26, ?z27, ?z28, ?z29, ?z30, ?z31, ?z5, ?fr, Slot.start _ _ _, Slot.start _ _ _, Slot.start _ _ _, Slot.start _ _ _, Slot.start _ _ _, Slot.start _ _ _, Slot.start _ _ _, Slot.start _ _ _, Old.start HR3.out _ _, (Off.refl _ W3).drew⟩
          case fr => first | (simp only [Act.put, List.setIfInBounds_toArray, List.set_cons_zero, List.set_cons_succ]; rfl) | simp only [Act.put, List.setIfInBounds_toArray, List.set_cons_zero, List.set_cons_succ]
        · intro l a wr hI hl hd K' hK
          obtain ⟨u25, u26, u27, u28, u29, u30, u31, u5, ha, s0, s1, s2, s3, s4, s5, s6, s8, O0, hO⟩ := hI
          simp only [Act.put, List.setIfInBounds_toArray, List.set_cons_zero, List.set_cons_succ] at ha
          subst ha
          have hc := HK3.out wr hO
          have p0 := hc.1.1
          have p1 := hc.1.2.1
          have p2 := hc.1.2.2.1
          have p3 := hc.1.2.2.2.1
          have p4 := hc.1.2.2.2.2.1
          have p5 := hc.1.2.2.2.2.2.1
          have p6 := hc.1.2.2.2.2.2.2.1
          have p7 := hc.1.2.2.2.2.2.2.2.1
          have p8 := hc.1.2.2.2.2.2.2.2.2.1
          have p9 := hc.1.2.2.2.2.2.2.2.2.2.1
          have p10 := hc.1.2.2.2.2.2.2.2.2.2.2.1
          have p11 := hc.1.2.2.2.2.2.2.2.2.2.2.2.1
          have p12 := hc.1.2.2.2.2.2.2.2.2.2.2.2.2.1
          have p13 := hc.1.2.2.2.2.2.2.2.2.2.2.2.2.2
          clear hc
          go_simp
          refine hK.out _ _ ⟨_, _, _, _, _, _, _, _, ?_, Slot.new _ _ _, s1.keep rfl, s2.keep rfl, s3.keep rfl, s4.keep rfl, s5.keep rfl, s6.keep rfl, s8.keep rfl, O0.keep (Off.refl _ wr) rfl, hO⟩
          simp only [Act.put, List.setIfInBounds_toArray, List.set_cons_zero, List.set_cons_succ]
        · intro l a wr hI hl hd K' hK
          obtain ⟨u25, u26, u27, u28, u29, u30, u31, u5, ha, s0, s1, s2, s3, s4, s5, s6, s8, O0, hO⟩ := hI
          simp only [Act.put, List.setIfInBounds_toArray, List.set_cons_zero, List.set_cons_succ] at ha
          subst ha
          have hc := HK3.out wr hO
          have p0 := hc.2.1.1
          have p1 := hc.2.1.2.1
          have p2 := hc.2.1.2.2.1
          have p3 := hc.2.1.2.2.2
          clear hc
          go_simp
          refine hK.out _ _ ⟨_, _, _, _, _, _, _, _, ?_, s0.keep rfl, Slot.new _ _ _, s2.keep rfl, s3.keep rfl, s4.keep rfl, s5.keep rfl, s6.keep rfl, s8.keep rfl, O0.keep (Off.refl _ wr) rfl, hO⟩
          simp only [Act.put, List.setIfInBounds_toArray, List.set_cons_zero, List.set_cons_succ]
        · intro l a wr hI hl hd K' hK
          obtain ⟨u25, u26, u27, u28, u29, u30, u31, u5, ha, s0, s1, s2, s3, s4, s5, s6, s8, O0, hO⟩ := hI
          simp only [Act.put, List.setIfInBounds_toArray, List.set_cons_zero, List.set_cons_succ] at ha
          subst ha
          have hc := HK3.out wr hO
          have p0 := hc.1.1
          have p1 := hc.1.2.1
          have p2 := hc.1.2.2.1
          have p3 := hc.1.2.2.2.1
          have p4 := hc.1.2.2.2.2.1
          have p5 := hc.1.2.2.2.2.2.1
          have p6 := hc.1.2.2.2.2.2.2.1
          have p7 := hc.1.2.2.2.2.2.2.2.1
          have p8 := hc.1.2.2.2.2.2.2.2.2.1
          have p9 := hc.1.2.2.2.2.2.2.2.2.2.1
          have p10 := hc.1.2.2.2.2.2.2.2.2.2.2.1
          have p11 := hc.1.2.2.2.2.2.2.2.2.2.2.2.1
          have p12 := hc.1.2.2.2.2.2.2.2.2.2.2.2.2.1
          have p13 := hc.1.2.2.2.2.2.2.2.2.2.2.2.2.2
          clear hc
          go_simp
          refine hK.out _ _ ⟨_, _, _, _, _, _, _, _, ?_, s0.keep rfl, s1.keep rfl, Slot.new _ _ _, s3.keep rfl, s4.keep rfl, s5.keep rfl, s6.keep rfl, s8.keep rfl, O0.keep (Off.refl _ wr) rfl, hO⟩
          simp only [Act.put, List.setIfInBounds_toArray, List.set_cons_zero, List.set_cons_succ]
        · intro l a wr hI hl hd K' hK
          obtain ⟨u25, u26, u27, u28, u29, u30, u31, u5, ha, s0, s1, s2, s3, s4, s5, s6, s8, O0, hO⟩ := hI
          simp only [Act.put, List.setIfInBounds_toArray, List.set_cons_zero, List.set_cons_succ] at ha
          subst ha
          have hc := HK3.out wr hO
          have p0 := hc.2.2.1.1
          have p1 := hc.2.2.1.2.1
          have p2 := hc.2.2.1.2.2.1
          have p3 := hc.2.2.1.2.2.2
          clear hc
          go_simp
          refine hK.out _ _ ⟨_, _, _, _, _, _, _, _, ?_, s0.keep rfl, s1.keep rfl, s2.keep rfl, Slot.new _ _ _, s4.keep rfl, s5.keep rfl, s6.keep rfl, s8.keep rfl, O0.keep (Off.refl _ wr) rfl, hO⟩
          simp only [Act.put, List.setIfInBounds_toArray, List.set_cons_zero, List.set_cons_succ]
        · intro l a wr hI hl hd K' hK
          obtain ⟨u25, u26, u27, u28, u29, u30, u31, u5, ha, s0, s1, s2, s3, s4, s5, s6, s8, O0, hO⟩ := hI
          simp only [Act.put, List.setIfInBounds_toArray, List.set_cons_zero, List.set_cons_succ] at ha
          subst ha
          have hc := HK3.out wr hO
          have p0 := hc.2.2.2.1.1
          have p1 := hc.2.2.2.1.2.1
          have p2 := hc.2.2.2.1.2.2.1
          have p3 := hc.2.2.2.1.2.2.2
          clear hc
          go_simp
          refine hK.out _ _ ⟨_, _, _, _, _, _, _, _, ?_, s0.keep rfl, s1.keep rfl, s2.keep rfl, s3.keep rfl, Slot.new _ _ _, s5.keep rfl, s6.keep rfl, s8.keep rfl, O0.keep (Off.refl _ wr) rfl, hO⟩
          simp only [Act.put, List.setIfInBounds_toArray, List.set_cons_zero, List.set_cons_succ]
        · intro l a wr hI hl hd K' hK
          obtain ⟨u25, u26, u27, u28, u29, u30, u31, u5, ha, s0, s1, s2, s3, s4, s5, s6, s8, O0, hO⟩ := hI
          simp only [Act.put, List.setIfInBounds_toArray, List.set_cons_zero, List.set_cons_succ] at ha
          have q2 := s2 (hd 2 (by decide))
          have q3 := s3 (hd 3 (by decide))
          have q4 := s4 (hd 4 (by decide))
          subst ha q2 q3 q4
          go_simp
          refine (held_inv (HM.out wr) hO).mono ?_
          rintro e w1 ⟨rfl, hO1, hOW⟩
          go_wp2_with fail
          refine hK.out _ _ ⟨_, _, _, _, _, _, _, _, ?_, s0.keep rfl, s1.keep rfl, s2.keep rfl, s3.keep rfl, s4.keep rfl, Slot.new _ _ _, s6.keep rfl, s8.keep rfl, O0.keep hOW rfl, hO1⟩
          simp only [Act.put, List.setIfInBounds_toArray, List.set_cons_zero, List.set_cons_succ]
        · intro l a wr hI hl hd K' hK
          obtain ⟨u25, u26, u27, u28, u29, u30, u31, u5, ha, s0, s1, s2, s3, s4, s5, s6, s8, O0, hO⟩ := hI
          simp only [Act.put, List.setIfInBounds_toArray, List.set_cons_zero, List.set_cons_succ] at ha
          have q0 := s0 (hd 0 (by decide))
          have q1 := s1 (hd 1 (by decide))
          have q5 := s5 (hd 5 (by decide))
          subst ha q0 q1 q5
          go_simp
          refine (held_inv (HA.out wr) hO).mono ?_
          rintro e w1 ⟨rfl, hO1, hOW⟩
          go_wp2_with fail
          refine hK.out _ _ ⟨_, _, _, _, _, _, _, _, ?_, s0.keep rfl, s1.keep rfl, s2.keep rfl, s3.keep rfl, s4.keep rfl, s5.keep rfl, Slot.new _ _ _, s8.keep rfl, O0.keep hOW rfl, hO1⟩
          simp only [Act.put, List.setIfInBounds_toArray, List.set_cons_zero, List.set_cons_succ]
        · intro l a wr hI hl hd K' hK
          obtain ⟨u25, u26, u27, u28, u29, u30, u31, u5, ha, s0, s1, s2, s3, s4, s5, s6, s8, O0, hO⟩ := hI
          simp only [Act.put, List.setIfInBounds_toArray, List.set_cons_zero, List.set_cons_succ] at ha
          have q6 := s6 (hd 6 (by decide))
          subst ha q6
          obtain ⟨⟨m0, m1, m2, m3⟩, fz, lt⟩ := zero_cells (O0.was hl)
          go_simp
          refine hK.out _ _ ⟨_, _, _, _, _, _, _, _, ?_, s0.keep rfl, s1.keep rfl, s2.keep rfl, s3.keep rfl, s4.keep rfl, s5.keep rfl, s6.keep rfl, s8.keep rfl, O0.put hl rfl, setCells_in hO (fun _ => rfl) [.int .u64 (wd x 0 : Int), .int .u64 (wd x 1 : Int), .int .u64 (wd x 2 : Int), .int .u64 (wd x 3 : Int)]⟩
          simp only [Act.put, List.setIfInBounds_toArray, List.set_cons_zero, List.set_cons_succ]
        · intro l a wr hI hl hd K' hK
          obtain ⟨u25, u26, u27, u28, u29, u30, u31, u5, ha, s0, s1, s2, s3, s4, s5, s6, s8, O0, hO⟩ := hI
          simp only [Act.put, List.setIfInBounds_toArray, List.set_cons_zero, List.set_cons_succ] at ha
          subst ha
          go_simp
          refine hK.out _ _ ⟨_, _, _, _, _, _, _, _, ?_, s0.keep rfl, s1.keep rfl, s2.keep rfl, s3.keep rfl, s4.keep rfl, s5.keep rfl, s6.keep rfl, Slot.new _ _ _, O0.keep (Off.refl _ wr) rfl, hO⟩
          simp only [Act.put, List.setIfInBounds_toArray, List.set_cons_zero, List.set_cons_succ]
        · intro l a wc hI hd
          obtain ⟨u25, u26, u27, u28, u29, u30, u31, u5, ha, s0, s1, s2, s3, s4, s5, s6, s8, O0, hO⟩ := hI
          simp only [Act.put, List.setIfInBounds_toArray, List.set_cons_zero, List.set_cons_succ] at ha
          have q0 := s0 (hd 0 (by decide))
          have q1 := s1 (hd 1 (by decide))
          have q2 := s2 (hd 2 (by decide))
          have q3 := s3 (hd 3 (by decide))
          have q4 := s4 (hd 4 (by decide))
          have q5 := s5 (hd 5 (by decide))
          have q6 := s6 (hd 6 (by decide))
          have q8 := s8 (hd 8 (by decide))
          have r0 : wc.heap[(w.heap.size + 1)]? = some (.cells #[.int .u64 (wd x 0 : Int), .int .u64 (wd x 1 : Int), .int .u64 (wd x 2 : Int), .int .u64 (wd x 3 : Int)] 24) := O0.now (hd 7 (by decide))
          subst ha q0 q1 q2 q3 q4 q5 q6 q8
          clear hd s0 s1 s2 s3 s4 s5 s6 s8 O0
          have hOf : Off (fun _ => False) w wc := HO3.out.trans hO (fun k hk e => by omega)
          obtain ⟨p0, p1, p2, p3⟩ := cells4 r0
          have HOf := Lib.hid hOf
          clear hOf hO HK3 HR3 HF3 HY3 HZ3 HS3 HO3 r0
          go_wp2
          refine bodyPost_ret (v := .tuple #[V x, .int .i64 0]) (by simp [results, Tryd.results18, go_sem, p0, p1, p2, p3]) rfl ⟨rfl, HOf.out⟩
  · have hd : wideV p bs = (0, 8) := by unfold wideV; rw [if_neg (by omega)]
    have h1 : ¬ ((n : Int) = 64) := by omega
    rw [hd, show V (0, 8).1 = _ from lit_small 0 (by decide)]
    clear hb hn hs hF hd
    go_enter Tryd.func18, Tryd.ntmps18
    go_wp2
    refine bodyPost_ret (v := .tuple #[.agg #[.int .u64 ((0 : Nat) : Int), .int .u64 0, .int .u64 0, .int .u64 0], .int .i64 8]) (by simp [results, Tryd.results18, go_sem]) rfl ⟨rfl, ?_⟩
    exact ((Off.refl _ w).alloc _).alloc _
end Go.Proofs.YtclknpkjnkgejaaDoor
