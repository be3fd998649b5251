/-
  Contracts of package bytecode over this seat's translation: numberOf and Encode. Conditions: as each says.
  Contracts of package bytecode over this seat's translation: Decode, Pack, Unpack and Wide. Conditions: the field's constants are those of its modulus; the slice is told by its bytes.
  Contract of Unpack of package bytecode over this seat's translation. Conditions: the field's constants are those of its modulus, the element lies below it.
  Contracts of the reference of layer 7 over this seat's translation: Encode, Number, Unpack. Conditions: as each says.
  Contract of Wide of package bytecode over this seat's translation. Conditions: the field's constants are those of its modulus; the slice is told by its bytes.
  Contracts of the reference's Decode and Wide of layer 7 over this seat's translation. Conditions: the modulus is a number of four words above 1; the slice is told by its bytes.
-/
import Derived.Test.YtclehgconbdkpaaDoorBytLow
import Derived.Test.YtclehgconbdkpaaDoorMontAll
import Derived.StillTailTactics
import Derived.Test.YtclehgconbdkpaaDoorFieldGrp
import Derived.Laws.OwnMore
import Derived.Laws.AppendOwnNone
namespace Go.Proofs.YtclehgconbdkpaaDoor
section
open Go.RowKit
theorem numB_pad (bs : List Nat) (k : Nat) : numB (bs ++ List.replicate k 0) = numB bs := by rw [numB_append, numB_zeros, Nat.mul_zero, Nat.add_zero]
theorem Small.pad {bs : List Nat} (h : Small bs) (k : Nat) : Small (bs ++ List.replicate k 0) := fun x hx => by
  rcases List.mem_append.1 hx with h1 | h1
  · exact h x h1
  · rw [(List.mem_replicate.1 h1).2]; decide
/-- What the loop of numberOf keeps. -/
structure NofAt (w wr : World) (g : Nat) (all : List Nat) (k : Nat) : Prop where
  ret : PartAt wr w.heap.size 0 0
  blk : ByBlk wr (w.heap.size + 1) 161 all
  num : PartAt wr g (numB all) k
  off : Off (fun _ => False) w wr
theorem NofAt.keep {w wr u : World} {g : Nat} {all : List Nat} {k : Nat} (h : NofAt w wr g all k) (ho : Off (fun _ => False) wr u) : NofAt w u g all k :=
  ⟨ho.heap h.ret (fun c => c), h.blk.off ho (fun c => c), ho.heap h.num (fun c => c), h.off.trans ho (fun _ _ c => c)⟩
theorem NofAt.step {w wr : World} {g : Nat} {all : List Nat} {k : Nat} (h : NofAt w wr g all k) (hg : w.heap.size + 1 < g) (hk : k < 4) : NofAt w (wr.setCell ⟨g, k, none⟩ (.int .u64 (wd (numB all) k : Int))) g all (k + 1) := by
  have far : ∀ j, j ≠ g → (wr.setCell ⟨g, k, none⟩ (.int .u64 (wd (numB all) k : Int))).heap[j]? = wr.heap[j]? := fun j hj => Below.heap_setCell _ _ _ _ hj
  exact ⟨(far _ (by omega)).trans h.ret, (far _ (by omega)).trans h.blk, h.num.step hk, h.off.setCell (fun c => by simp at c; omega) _⟩
set_option maxRecDepth 100000 in
set_option maxHeartbeats 4000000 in
theorem numberof_any (a : Option Addr) (n cap : Nat) (bs : List Nat) (S : Nat → Prop) (w : World) (hb : BsAt w a bs S) (hn : n = bs.length) (hs : Small bs) (h32 : n ≤ 32) :
    Calls Tryd.prog 83 #[.slice a n cap] w fun e w' => e = .returned (V (numB bs)) ∧ Off (fun _ => False) w w' := by
  obtain ⟨w1, hcp, hblk, hoff⟩ := copy_bytes Tryd.underlying24 (dLen := 32) (dCap := 32) (c := cap) (show BsAt ((w.alloc (.cells #[.int .u64 0, .int .u64 0, .int .u64 0, .int .u64 0] 51)).alloc (.cells #[.int .u8 0, .int .u8 0, .int .u8 0, .int .u8 0, .int .u8 0, .int .u8 0, .int .u8 0, .int .u8 0, .int .u8 0, .int .u8 0, .int .u8 0, .int .u8 0, .int .u8 0, .int .u8 0, .int .u8 0, .int .u8 0, .int .u8 0, .int .u8 0, .int .u8 0, .int .u8 0, .int .u8 0, .int .u8 0, .int .u8 0, .int .u8 0, .int .u8 0, .int .u8 0, .int .u8 0, .int .u8 0, .int .u8 0, .int .u8 0, .int .u8 0, .int .u8 0] 161)) a bs S from hb.off (((Off.refl (fun _ => False) w).alloc _).alloc _) (fun _ _ _ c => c)) hn (show ByBlk ((w.alloc (.cells #[.int .u64 0, .int .u64 0, .int .u64 0, .int .u64 0] 51)).alloc (.cells #[.int .u8 0, .int .u8 0, .int .u8 0, .int .u8 0, .int .u8 0, .int .u8 0, .int .u8 0, .int .u8 0, .int .u8 0, .int .u8 0, .int .u8 0, .int .u8 0, .int .u8 0, .int .u8 0, .int .u8 0, .int .u8 0, .int .u8 0, .int .u8 0, .int .u8 0, .int .u8 0, .int .u8 0, .int .u8 0, .int .u8 0, .int .u8 0, .int .u8 0, .int .u8 0, .int .u8 0, .int .u8 0, .int .u8 0, .int .u8 0, .int .u8 0, .int .u8 0] 161)) (w.heap.size + 1) 161 (List.replicate 32 0) from heap_new' (by simp) _) h32 (show 0 + n ≤ _ by simp; exact h32)
  obtain ⟨all, hall⟩ : ∃ all, all = bs ++ List.replicate (32 - n) 0 := ⟨_, rfl⟩
  have e1 : (List.replicate 32 0).take 0 ++ bs ++ (List.replicate 32 0).drop (0 + n) = all := by rw [hall, List.take_zero, List.nil_append, List.drop_replicate, Nat.zero_add]
  rw [e1] at hblk
  have hlen : all.length = 32 := by rw [hall]; simp; omega
  have hsm : Small all := by rw [hall]; exact hs.pad _
  have HV := Lib.hid (show numB all = numB bs by rw [hall]; exact numB_pad _ _)
  have hR : w1.heap[w.heap.size]? = some (.cells #[.int .u64 0, .int .u64 0, .int .u64 0, .int .u64 0] 51) := hoff.heap (heap_old' (heap_new' rfl _) _) (by omega)
  have hO : Off (fun _ => False) w w1 := (((Off.refl (fun _ => False) w).alloc _).alloc _).trans hoff (fun k hk e => by omega)
  have hsz := hoff.size
  simp only [World.size_alloc] at hsz
  have HB := Lib.hid hblk
  have HR := Lib.hid hR
  have HO := Lib.hid hO
  have HZ := Lib.hid hsz
  have HC := Lib.hid (fun i hi W h => wordat_any i (w.heap.size + 1) hi all hsm hlen W h)
  clear hb hs hn e1 hall hblk hoff hlen hsm hR hO hsz
  rw [← HV.out]
  clear HV
  go_enter Tryd.func83, Tryd.ntmps83
  go_wp2_with fail
  obtain ⟨g, hg⟩ : ∃ g, g = w1.heap.size := ⟨_, rfl⟩
  have hgw : w.heap.size + 1 < g := by have := HZ.out; omega
  have HS := Lib.hid (show NofAt w (w1.alloc (.cells #[.int .u64 0, .int .u64 0, .int .u64 0, .int .u64 0] 51)) g all 0 from ⟨heap_old' HR.out _, HB.out.off ((Off.refl (fun _ => False) w1).alloc _) (fun c => c), by rw [hg]; exact heap_new' rfl _, HO.out.alloc _⟩)
  rw [← hg]
  clear hcp HB HR HO HZ hg
  go_loopw [11] (fun i wr => ∃ k : Nat, k ≤ 4 ∧ i = .int .i64 k ∧ NofAt w wr g all k) (fun i _ => 4 - (intOf i).toNat)
  case atStart => exact ⟨0, by omega, rfl, HS.out⟩
  case round =>
    obtain ⟨k, hk, rfl, hA⟩ := hrel
    by_cases hlt : k < 4
    · have i1 : decide ((k : Int) < 4) = true := by simp; omega
      have i2 : (k : Int) < 4 := by omega
      have HA := Lib.hid hA
      have HCk := Lib.hid (HC.out k hlt)
      clear hA HS
      go_wp2_with (go_at_call 95; refine (HCk.out _ HA.out.blk).mono ?_; rintro e u ⟨rfl, hO⟩; have hA := HA.out.keep hO; have cr := hA.num.cell hlt; have fz := frozen_of_heap hA.num.old k; have lt := heap_lt hA.num.old; have HSt := Lib.hid (hA.step hgw hlt); clear hA hO)
      go_roundw
      case rel => exact ⟨k + 1, by omega, by go_num, HSt.out⟩
      case measure => simp [intOf]; omega
    · obtain rfl : k = 4 := by omega
      obtain ⟨c0, c1, c2, c3⟩ := hA.num.full.four
      obtain ⟨⟨r0, r1, r2, r3⟩, fz⟩ := hA.ret.four
      have lt := heap_lt hA.ret.old
      have HA := Lib.hid hA.off
      clear hA HS HC
      go_wp2
      refine bodyPost_ret (v := V (numB all)) (by simp [results, Tryd.results83, go_sem, r0, r1, r2, r3]) rfl ⟨rfl, ?_⟩
      exact off4 HA.out (by omega) _ _ _ _
end
section
open Go.RowKit
attribute [local go_sem ↓] Go.wp_at_zero Go.wp_at_succ
/-- What Decode returns: the element and the error. -/
def decV (p : Nat) (bs : List Nat) : Nat × Nat := if bs.length = 32 then (if numB bs < p then (fm p (numB bs), 0) else (0, 9)) else (0, 8)
theorem numB_r256 {bs : List Nat} (hs : Small bs) (h : bs.length ≤ 32) : numB bs < R256 := by
  rw [r256_bytes]
  exact Nat.lt_of_lt_of_le (numB_lt hs) (Nat.pow_le_pow_right (by decide) h)
/-- What Pack returns. -/
def packV (p : Nat) (bs : List Nat) : Nat × Nat := if bs.length ≤ 31 then (fm p (numB bs), 0) else (0, 8)
set_option maxRecDepth 100000 in
set_option maxHeartbeats 4000000 in
theorem pack_any {id : Int} {p i r s : Nat} (hF : Fld id p i r s) (a : Option Addr) (n cap : Nat) (bs : List Nat) (S : Nat → Prop) (w : World) (hb : BsAt w a bs S) (hn : n = bs.length) (hs : Small bs) :
    Calls Tryd.prog 60 #[FV id p i r s, .slice a n cap] w fun e w' => e = .returned (.tuple #[V (packV p bs).1, .int .i64 ((packV p bs).2 : Int)]) ∧ Off (fun _ => False) w w' := by
  by_cases h31 : n ≤ 31
  · have hx := numB_r256 hs (by omega)
    have HN := Lib.hid (fun W (h : Off (fun k => w.heap.size ≤ k) w W) => numberof_any a n cap bs _ W (hb.later h) hn hs (by omega))
    have hT := fun W => mto_any hF (numB bs) hx W
    rw [fm_mod] at hT
    have hd : packV p bs = (fm p (numB bs), 0) := by unfold packV; rw [if_pos (by omega)]
    rw [hd]
    obtain ⟨x, hxx⟩ : ∃ x, x = numB bs := ⟨_, rfl⟩
    rw [← hxx] at HN hT ⊢
    obtain ⟨y, hy⟩ : ∃ y, y = fm p x := ⟨_, rfl⟩
    rw [← hy] at hT ⊢
    have HT := Lib.hid hT
    have i1 : (n : Int) ≤ 31 := by omega
    have i2 : decide ((31 : Int) < (n : Int)) = false := by simp; omega
    clear hT hb hn hs hx hxx hF hd hy
    go_enter Tryd.func60, Tryd.ntmps60
    obtain ⟨W0, hW0⟩ : ∃ W0, W0 = (w.alloc (.cells #[.int .i64 id, .int .u64 (wd p 0 : Int), .int .u64 (wd p 1 : Int), .int .u64 (wd p 2 : Int), .int .u64 (wd p 3 : Int), .int .u64 (i : Int), .int .u64 (wd r 0 : Int), .int .u64 (wd r 1 : Int), .int .u64 (wd r 2 : Int), .int .u64 (wd r 3 : Int), .int .u64 (wd s 0 : Int), .int .u64 (wd s 1 : Int), .int .u64 (wd s 2 : Int), .int .u64 (wd s 3 : Int)] 73)).alloc (.cells #[.int .u64 0, .int .u64 0, .int .u64 0, .int .u64 0] 66) := ⟨_, rfl⟩
    have hR : W0.heap[w.heap.size + 1]? = some (.cells #[.int .u64 0, .int .u64 0, .int .u64 0, .int .u64 0] 66) := by rw [hW0]; exact heap_new' (by simp) _
    have hFc : W0.heap[w.heap.size]? = some (.cells #[.int .i64 id, .int .u64 (wd p 0 : Int), .int .u64 (wd p 1 : Int), .int .u64 (wd p 2 : Int), .int .u64 (wd p 3 : Int), .int .u64 (i : Int), .int .u64 (wd r 0 : Int), .int .u64 (wd r 1 : Int), .int .u64 (wd r 2 : Int), .int .u64 (wd r 3 : Int), .int .u64 (wd s 0 : Int), .int .u64 (wd s 1 : Int), .int .u64 (wd s 2 : Int), .int .u64 (wd s 3 : Int)] 73) := by rw [hW0]; exact heap_old' (heap_new' rfl _) _
    have HR := Lib.hid hR
    have HK : Hid (∀ W, Off (fun k => k = (w.heap.size + 1)) W0 W → (W.cell? ⟨w.heap.size, 0, none⟩ = some (.int .i64 id) ∧ W.cell? ⟨w.heap.size, 1, none⟩ = some (.int .u64 (wd p 0 : Int)) ∧ W.cell? ⟨w.heap.size, 2, none⟩ = some (.int .u64 (wd p 1 : Int)) ∧ W.cell? ⟨w.heap.size, 3, none⟩ = some (.int .u64 (wd p 2 : Int)) ∧ W.cell? ⟨w.heap.size, 4, none⟩ = some (.int .u64 (wd p 3 : Int)) ∧ W.cell? ⟨w.heap.size, 5, none⟩ = some (.int .u64 (i : Int)) ∧ W.cell? ⟨w.heap.size, 6, none⟩ = some (.int .u64 (wd r 0 : Int)) ∧ W.cell? ⟨w.heap.size, 7, none⟩ = some (.int .u64 (wd r 1 : Int)) ∧ W.cell? ⟨w.heap.size, 8, none⟩ = some (.int .u64 (wd r 2 : Int)) ∧ W.cell? ⟨w.heap.size, 9, none⟩ = some (.int .u64 (wd r 3 : Int)) ∧ W.cell? ⟨w.heap.size, 10, none⟩ = some (.int .u64 (wd s 0 : Int)) ∧ W.cell? ⟨w.heap.size, 11, none⟩ = some (.int .u64 (wd s 1 : Int)) ∧ W.cell? ⟨w.heap.size, 12, none⟩ = some (.int .u64 (wd s 2 : Int)) ∧ W.cell? ⟨w.heap.size, 13, none⟩ = some (.int .u64 (wd s 3 : Int))) ∧ Off (fun k => k = (w.heap.size + 1)) W0 W) := Lib.hid (fun W h => ⟨fv_cells (h.heap hFc (by omega)), h⟩)
    have HOw := Lib.hid (show Off (fun _ => False) w W0 by rw [hW0]; exact (((Off.refl (fun _ => False) w).alloc _).alloc _))
    have HNW := Lib.hid (fun W (h : Off (fun k => k = (w.heap.size + 1)) W0 W) => HN.out W ((HOw.out.mono (S' := fun k => w.heap.size ≤ k) (fun _ _ c => c.elim)).trans h (fun k _ e => by subst e; omega)))
    have HW0 := Lib.hid hW0
    clear hR hFc HN hW0
    go_upto_region 3 with fail
    rw [← HW0.out]
    refine wp_region_inv (fun a0 l a' w' => ∃ (u10 : Value) (u11 : Value) (u12 : Value) (u13 : Value) (u5 : Value), a' = (Act.put (Act.put (Act.put (Act.put (Act.put a0 (some 10) u10) (some 11) u11) (some 12) u12) (some 13) u13) (some 5) u5) ∧ Slot l 0 u10 (FV id p i r s) ∧ Slot l 1 u11 (.slice a n cap) ∧ Slot l 2 u12 (V x) ∧ Slot l 3 u13 (V y) ∧ Slot l 5 u5 (.int .i64 0) ∧ Old l 4 (w.heap.size + 1) W0 w' (.cells #[.int .u64 0, .int .u64 0, .int .u64 0, .int .u64 0] 66) (.cells #[.int .u64 (wd y 0 : Int), .int .u64 (wd y 1 : Int), .int .u64 (wd y 2 : Int), .int .u64 (wd y 3 : Int)] 66) ∧ Off (fun k => k = (w.heap.size + 1)) W0 w') (by kernel_rfl) (by kernel_rfl) ?_ ⟨?_, ?_, ?_, ?_, ?_, ?_, trivial⟩ ?_
    · refine ⟨?z10, ?z11, ?z12, ?z13, ?z5, ?fr, Slot.start _ _ _, Slot.start _ _ _, Slot.start _ _ _, Slot.start _ _ _, Slot.start _ _ _, Old.start HR.out _ _, (Off.refl _ W0).drew⟩
      case fr => first | (simp only [Act.put, List.setIfInBounds_toArray, List.set_cons_zero, List.set_cons_succ]; rfl) | simp only [Act.put, List.setIfInBounds_toArray, List.set_cons_zero, List.set_cons_succ]
    · intro l a wr hI hl hd K' hK
      obtain ⟨u10, u11, u12, u13, u5, ha, s0, s1, s2, s3, s5, O0, hO⟩ := hI
      simp only [Act.put, List.setIfInBounds_toArray, List.set_cons_zero, List.set_cons_succ] at ha
      subst ha
      have hc := HK.out wr hO
      have p0 := hc.1.1
      have p1 := hc.1.2.1
      have p2 := hc.1.2.2.1
      have p3 := hc.1.2.2.2.1
      have p4 := hc.1.2.2.2.2.1
      have p5 := hc.1.2.2.2.2.2.1
      have p6 := hc.1.2.2.2.2.2.2.1
      have p7 := hc.1.2.2.2.2.2.2.2.1
      have p8 := hc.1.2.2.2.2.2.2.2.2.1
      have p9 := hc.1.2.2.2.2.2.2.2.2.2.1
      have p10 := hc.1.2.2.2.2.2.2.2.2.2.2.1
      have p11 := hc.1.2.2.2.2.2.2.2.2.2.2.2.1
      have p12 := hc.1.2.2.2.2.2.2.2.2.2.2.2.2.1
      have p13 := hc.1.2.2.2.2.2.2.2.2.2.2.2.2.2
      clear hc
      go_simp
      refine hK.out _ _ ⟨_, _, _, _, _, ?_, Slot.new _ _ _, s1.keep rfl, s2.keep rfl, s3.keep rfl, s5.keep rfl, O0.keep (Off.refl _ wr) rfl, hO⟩
      simp only [Act.put, List.setIfInBounds_toArray, List.set_cons_zero, List.set_cons_succ]
    · intro l a wr hI hl hd K' hK
      obtain ⟨u10, u11, u12, u13, u5, ha, s0, s1, s2, s3, s5, O0, hO⟩ := hI
      simp only [Act.put, List.setIfInBounds_toArray, List.set_cons_zero, List.set_cons_succ] at ha
      subst ha
      go_simp
      refine hK.out _ _ ⟨_, _, _, _, _, ?_, s0.keep rfl, Slot.new _ _ _, s2.keep rfl, s3.keep rfl, s5.keep rfl, O0.keep (Off.refl _ wr) rfl, hO⟩
      simp only [Act.put, List.setIfInBounds_toArray, List.set_cons_zero, List.set_cons_succ]
    · intro l a wr hI hl hd K' hK
      obtain ⟨u10, u11, u12, u13, u5, ha, s0, s1, s2, s3, s5, O0, hO⟩ := hI
      simp only [Act.put, List.setIfInBounds_toArray, List.set_cons_zero, List.set_cons_succ] at ha
      have q1 := s1 (hd 1 (by decide))
      subst ha q1
      go_simp
      refine (held_inv (HNW.out wr hO) hO).mono ?_
      rintro e w1 ⟨rfl, hO1, hOW⟩
      go_wp2_with fail
      refine hK.out _ _ ⟨_, _, _, _, _, ?_, s0.keep rfl, s1.keep rfl, Slot.new _ _ _, s3.keep rfl, s5.keep rfl, O0.keep hOW rfl, hO1⟩
      simp only [Act.put, List.setIfInBounds_toArray, List.set_cons_zero, List.set_cons_succ]
    · intro l a wr hI hl hd K' hK
      obtain ⟨u10, u11, u12, u13, u5, ha, s0, s1, s2, s3, s5, O0, hO⟩ := hI
      simp only [Act.put, List.setIfInBounds_toArray, List.set_cons_zero, List.set_cons_succ] at ha
      have q0 := s0 (hd 0 (by decide))
      have q2 := s2 (hd 2 (by decide))
      subst ha q0 q2
      go_simp
      refine (held_inv (HT.out wr) hO).mono ?_
      rintro e w1 ⟨rfl, hO1, hOW⟩
      go_wp2_with fail
      refine hK.out _ _ ⟨_, _, _, _, _, ?_, s0.keep rfl, s1.keep rfl, s2.keep rfl, Slot.new _ _ _, s5.keep rfl, O0.keep hOW rfl, hO1⟩
      simp only [Act.put, List.setIfInBounds_toArray, List.set_cons_zero, List.set_cons_succ]
    · intro l a wr hI hl hd K' hK
      obtain ⟨u10, u11, u12, u13, u5, ha, s0, s1, s2, s3, s5, O0, hO⟩ := hI
      simp only [Act.put, List.setIfInBounds_toArray, List.set_cons_zero, List.set_cons_succ] at ha
      have q3 := s3 (hd 3 (by decide))
      subst ha q3
      obtain ⟨⟨m0, m1, m2, m3⟩, fz, lt⟩ := zero_cells (O0.was hl)
      go_simp
      refine hK.out _ _ ⟨_, _, _, _, _, ?_, s0.keep rfl, s1.keep rfl, s2.keep rfl, s3.keep rfl, s5.keep rfl, O0.put hl rfl, setCells_in hO (fun _ => rfl) [.int .u64 (wd y 0 : Int), .int .u64 (wd y 1 : Int), .int .u64 (wd y 2 : Int), .int .u64 (wd y 3 : Int)]⟩
      simp only [Act.put, List.setIfInBounds_toArray, List.set_cons_zero, List.set_cons_succ]
    · intro l a wr hI hl hd K' hK
      obtain ⟨u10, u11, u12, u13, u5, ha, s0, s1, s2, s3, s5, O0, hO⟩ := hI
      simp only [Act.put, List.setIfInBounds_toArray, List.set_cons_zero, List.set_cons_succ] at ha
      subst ha
      go_simp
      refine hK.out _ _ ⟨_, _, _, _, _, ?_, s0.keep rfl, s1.keep rfl, s2.keep rfl, s3.keep rfl, Slot.new _ _ _, O0.keep (Off.refl _ wr) rfl, hO⟩
      simp only [Act.put, List.setIfInBounds_toArray, List.set_cons_zero, List.set_cons_succ]
    · intro l a wc hI hd
      obtain ⟨u10, u11, u12, u13, u5, ha, s0, s1, s2, s3, s5, O0, hO⟩ := hI
      simp only [Act.put, List.setIfInBounds_toArray, List.set_cons_zero, List.set_cons_succ] at ha
      have q0 := s0 (hd 0 (by decide))
      have q1 := s1 (hd 1 (by decide))
      have q2 := s2 (hd 2 (by decide))
      have q3 := s3 (hd 3 (by decide))
      have q5 := s5 (hd 5 (by decide))
      have r0 : wc.heap[(w.heap.size + 1)]? = some (.cells #[.int .u64 (wd y 0 : Int), .int .u64 (wd y 1 : Int), .int .u64 (wd y 2 : Int), .int .u64 (wd y 3 : Int)] 66) := O0.now (hd 4 (by decide))
      subst ha q0 q1 q2 q3 q5
      clear hd s0 s1 s2 s3 s5 O0
      have hOf : Off (fun _ => False) w wc := HOw.out.trans hO (fun k hk e => by omega)
      obtain ⟨p0, p1, p2, p3⟩ := cells4 r0
      have HOf := Lib.hid hOf
      clear hOf hO HOw HK HR HNW r0
      go_wp2
      refine bodyPost_ret (v := .tuple #[V y, .int .i64 0]) (by simp [results, Tryd.results60, go_sem, p0, p1, p2, p3]) rfl ⟨rfl, HOf.out⟩
  · have hd : packV p bs = (0, 8) := by unfold packV; rw [if_neg (by omega)]
    have h1 : ¬ ((n : Int) ≤ 31) := by omega
    have h2 : decide ((31 : Int) < (n : Int)) = true := by simp; omega
    rw [hd, show V (0, 8).1 = _ from lit_small 0 (by decide)]
    clear hb hn hs hF hd
    go_enter Tryd.func60, Tryd.ntmps60
    go_wp2
    refine bodyPost_ret (v := .tuple #[.agg #[.int .u64 ((0 : Nat) : Int), .int .u64 0, .int .u64 0, .int .u64 0], .int .i64 8]) (by simp [results, Tryd.results60, go_sem]) rfl ⟨rfl, ?_⟩
    exact ((Off.refl _ w).alloc _).alloc _
end
section
open Go.RowKit
attribute [local go_sem ↓] Go.wp_at_zero Go.wp_at_succ
/-- What Unpack returns: the bytes and the error. -/
def unpV (v : Nat) (m : Int) : List Nat × Nat := if 0 ≤ m ∧ m ≤ 31 then (if orB ((bytesN v 32).drop m.toNat) = 0 then ((bytesN v 32).take m.toNat, 0) else ([], 10)) else ([], 8)
end
section
open Go.RowKit
/-- The slice v holds n bytes of a number in a block of its own from base on. -/
def RowB (w : World) (base : Nat) (v : Value) (n a : Nat) : Prop := w.ownsRow base 5 1 v n ((bytesN a n).map u8v)
theorem RowB.snoc {w : World} {base n a : Nat} {v : Value} {x : Int} (h : w.ownsRow base 5 1 v (n + 1) ((bytesN a n).map u8v ++ [.int .u8 x])) (hx : x = (by8 a n : Int)) : RowB w base v (n + 1) a := by
  subst hx; unfold RowB; rw [bytesN_succ, List.map_append]; exact h
theorem RowB.form {w : World} {base n a : Nat} {v : Value} (h : RowB w base v n a) (hn : 0 < n) : ∃ g cap, v = .slice (some ⟨g, 0, none⟩) n cap ∧ base ≤ g ∧ g < w.heap.size ∧ n ≤ cap := by
  obtain ⟨hl, ⟨rfl, h0⟩ | ⟨g, cap, cur, rfl, hb, hg, hn, _⟩⟩ := h
  · omega
  · exact ⟨g, cap, rfl, hb, heap_lt hg, hn⟩
theorem RowB.at {w : World} {base n a g cap : Nat} (h : RowB w base (.slice (some ⟨g, 0, none⟩) n cap) n a) : BsAt w (some ⟨g, 0, none⟩) (bytesN a n) (fun _ => True) := fun _ =>
  ⟨g, 0, rfl, trivial, fun j x hj => by
    have := World.ownsRow.cells h (g := g) rfl j (u8v x) (by rw [List.getElem?_map, hj]; rfl)
    rw [Addr.add_lit] at this
    exact this⟩
theorem RowB.push {wr w1 : World} {base n a : Nat} {v : Value} {o : Obj} (h : RowB wr base v n a) (hg : (wr.alloc o).grownBy w1 v.ownBlock) : Off (fun y => base ≤ y) wr w1 :=
  ((Off.refl _ wr).alloc o).grown hg (fun y hy => by
    refine ⟨fun _ => (World.ownsRow.lt h y hy).1, fun o' ho => ?_⟩
    rcases (World.ownsRow.alloc h o).2 with ⟨rfl, _⟩ | ⟨g, cap, cur, rfl, _, hgb, _⟩
    · simp [Value.ownBlock] at hy
    · obtain rfl : g = y := by simpa [Value.ownBlock] using hy
      rw [hgb] at ho; cases ho; rfl)
/-- The block b holds the words of the first k bytes of n. -/
def LowBAt (w : World) (b n k : Nat) : Prop := w.heap[b]? = some (.cells #[.int .u64 (lowB n k 0 : Int), .int .u64 (lowB n k 1 : Int), .int .u64 (lowB n k 2 : Int), .int .u64 (lowB n k 3 : Int)] 51 (0, 0))
theorem LowBAt.cell {w : World} {b n k : Nat} (h : LowBAt w b n k) (i : Nat) (hi : i < 4) : w.cell? ⟨b, i, none⟩ = some (.int .u64 (lowB n k i : Int)) := by
  rw [cell_of_heap h]
  have : i = 0 ∨ i = 1 ∨ i = 2 ∨ i = 3 := by omega
  rcases this with rfl | rfl | rfl | rfl <;> rfl
theorem LowBAt.step {w : World} {b n k : Nat} (h : LowBAt w b n k) (hk : k < 32) : LowBAt (w.setCell ⟨b, k / 8, none⟩ (.int .u64 (lowB n (k + 1) (k / 8) : Int))) b n (k + 1) := by
  have := heap_set h (k / 8) (.int .u64 (lowB n (k + 1) (k / 8) : Int))
  unfold LowBAt
  rw [this]
  have e : ∀ i, i ≠ k / 8 → lowB n (k + 1) i = lowB n k i := fun i hne => by rw [lowB_succ n k i, if_neg hne]; rfl
  have : k / 8 = 0 ∨ k / 8 = 1 ∨ k / 8 = 2 ∨ k / 8 = 3 := by omega
  rcases this with h4 | h4 | h4 | h4 <;> rw [h4] at e ⊢
  · simp [e 1 (by omega), e 2 (by omega), e 3 (by omega)]
  · simp [e 0 (by omega), e 2 (by omega), e 3 (by omega)]
  · simp [e 0 (by omega), e 1 (by omega), e 3 (by omega)]
  · simp [e 0 (by omega), e 1 (by omega), e 2 (by omega)]
attribute [local go_sem ↓] Go.wp_at_zero Go.wp_at_succ
set_option maxRecDepth 100000 in
set_option maxHeartbeats 4000000 in
theorem refnumber_any (a : Option Addr) (n cap : Nat) (bs : List Nat) (S : Nat → Prop) (w : World) (hb : BsAt w a bs S) (hn : n = bs.length) (hs : Small bs) (h32 : n ≤ 32) :
    Calls Tryd.prog 65 #[.slice a n cap] w fun e w' => e = .returned (V (numB bs)) ∧ Off (fun _ => False) w w' := by
  obtain ⟨N, hN⟩ : ∃ N, N = numB bs := ⟨_, rfl⟩
  have HB := Lib.hid (fun (W : World) (h : Off (fun _ => False) w W) (k : Nat) (hk : k < n) => show ∃ b off, a = some ⟨b, off, none⟩ ∧ W.cell? ⟨b, off + k, none⟩ = some (.int .u8 (by8 N k : Int)) by
    obtain ⟨b, off, ha, _, hc⟩ := hb (by omega)
    have h1 := hc k (bs[k]'(by omega)) (List.getElem?_eq_getElem _)
    have h2 := by8_numB hs (List.getElem?_eq_getElem (show k < bs.length by omega))
    exact ⟨b, off, ha, by rw [hN, h2]; exact h.cell h1 (fun c => c)⟩)
  have HF := Lib.hid (fun i => show lowB N n i = wd N i by unfold lowB; rw [hN, hn, Nat.mod_eq_of_lt (numB_lt hs)])
  rw [← hN]
  clear hb hn hs hN
  go_enter Tryd.func65, Tryd.ntmps65
  go_wp2
  go_loopw [4] (fun i wr => ∃ k : Nat, k ≤ n ∧ i = .int .i64 k ∧ LowBAt wr (w.heap.size + 1) N k ∧ PartAt wr w.heap.size 0 0 ∧ Off (fun _ => False) w wr) (fun i _ => n - (intOf i).toNat)
  case atStart => exact ⟨0, by omega, rfl, by unfold LowBAt; simp only [lowB_zero]; exact heap_new' (by simp) _, heap_old' (heap_new' rfl _) _, ((Off.refl _ w).alloc _).alloc _⟩
  case round =>
    obtain ⟨k, hk, rfl, hL, hP, hO⟩ := hrel
    by_cases hlt : k < n
    · have i1 : decide ((k : Int) < (n : Int)) = true := by simp; omega
      have i2 : decide ((k : Int) < 32) = true := by simp; omega
      have i3 : (k : Int) < (n : Int) := by omega
      have i4 : (k : Int) < 32 := by omega
      have HL := Lib.hid hL
      have HP := Lib.hid hP
      have HO := Lib.hid hO
      clear hL hP hO
      go_wp2
      go_loop [5, 6] (fun u i => ∃ j : Nat, j ≤ k % 8 ∧ i = .int .i64 j ∧ u = .int .u64 ((256 ^ j : Nat) : Int)) (fun _ i => k % 8 - (intOf i).toNat)
      case atStart => exact ⟨0, by omega, rfl, rfl⟩
      case round =>
        obtain ⟨j, hj, rfl, rfl⟩ := hrel
        by_cases hlt2 : j < k % 8
        · have j1 : (j : Int) < (k : Int) % 8 := by omega
          have HU := Lib.hid (Nat.pow_succ (n := 256) (m := j))
          have hu : 256 ^ j ≤ 256 ^ 6 := Nat.pow_le_pow_right (by omega) (by omega)
          have hu0 : 0 < 256 ^ j := Nat.pow_pos (by omega)
          obtain ⟨u, hu2⟩ : ∃ u, u = 256 ^ j := ⟨_, rfl⟩
          rw [← hu2] at HU hu hu0 ⊢
          obtain ⟨v, hv⟩ : ∃ v, v = u * 256 := ⟨_, rfl⟩
          have v0 : IntKind.u64.wrap ((u : Int) * 256) = (v : Int) := by simp at hu; rw [IntKind.wrap_u64]; omega
          rw [← hv] at HU
          clear hu2 hu hu0 hv
          go_wp2
          go_round
          case rel => exact ⟨j + 1, by omega, by go_num, by rw [HU.out]⟩
          case measure => simp [intOf]; omega
        · obtain rfl : j = k % 8 := by omega
          have j1 : ¬ ((k % 8 : Nat) : Int) < (k : Int) % 8 := by omega
          obtain ⟨q, hq⟩ : ∃ q, q = k / 8 := ⟨_, rfl⟩
          have co := HL.out.cell q (by omega)
          have q0 : (k : Int) / 8 = (q : Int) := by omega
          have q1 : (q : Int) < 4 := by omega
          have q2 : (0 : Int) ≤ (q : Int) := by omega
          obtain ⟨bb, off, rfl, cd⟩ := HB.out wr HO.out k hlt
          have hd := by8_lt N k
          have hsum := lowB_sum N k
          have hnext := lowB_succ N k q
          rw [if_pos hq] at hnext
          rw [← hq] at hsum
          have ffz := frozen_of_heap HL.out q
          have hu : 256 ^ (k % 8) ≤ 256 ^ 7 := Nat.pow_le_pow_right (by omega) (by omega)
          obtain ⟨u, hu2⟩ : ∃ u, u = 256 ^ (k % 8) := ⟨_, rfl⟩
          rw [← hu2] at hnext hsum hu ⊢
          obtain ⟨d, hd2⟩ : ∃ d, d = by8 N k := ⟨_, rfl⟩
          rw [← hd2] at cd hd hnext hsum
          obtain ⟨l, hl2⟩ : ∃ l, l = lowB N k q := ⟨_, rfl⟩
          rw [← hl2] at co hnext hsum
          obtain ⟨m, hm⟩ : ∃ m, m = d * u := ⟨_, rfl⟩
          rw [← hm] at hnext hsum
          obtain ⟨t, ht⟩ : ∃ t, t = l + m := ⟨_, rfl⟩
          rw [← ht] at hnext hsum
          have m0 : IntKind.u64.wrap ((d : Int) * (u : Int)) = (m : Int) := by rw [IntKind.wrap_u64]; omega
          have t0 : IntKind.u64.wrap ((l : Int) + (m : Int)) = (t : Int) := by rw [IntKind.wrap_u64]; omega
          have c0 : IntKind.u64.wrap (d : Int) = (d : Int) := by rw [IntKind.wrap_u64]; omega
          have HT := Lib.hid hnext
          have q3 : (k : Int).tdiv 8 = (q : Int) := by rw [Int.tdiv_eq_ediv_of_nonneg (by omega)]; exact q0
          have HQ := Lib.hid hq
          have q4 : IntKind.i64.wrap (q : Int) = (q : Int) := IntWalk.i64_in _ (by omega)
          clear hnext hsum hu hu2 hd2 hl2 hm ht hq
          go_wp2
          go_still_tail 13, (by kernel_rfl)
          change wpList _ _ _ _ _ wr.drew
          go_wp2
          go_roundw
          case rel => exact ⟨k + 1, by omega, by go_num, by rw [← HT.out, HQ.out]; exact HL.out.step (by omega), (Below.heap_setCell _ _ _ _ (by simp)).trans HP.out, (HO.out.setCell (fun c => by simp at c; omega) _).drew⟩
          case measure => simp [intOf]; omega
    · obtain rfl : k = n := by omega
      have c0 := hL.cell 0 (by omega)
      have c1 := hL.cell 1 (by omega)
      have c2 := hL.cell 2 (by omega)
      have c3 := hL.cell 3 (by omega)
      rw [HF.out] at c0 c1 c2 c3
      have fz := fun k => frozen_of_heap hP.old k
      have r0 := hP.cell0 0 (by omega)
      have r1 := hP.cell0 1 (by omega)
      have r2 := hP.cell0 2 (by omega)
      have r3 := hP.cell0 3 (by omega)
      have HO := Lib.hid hO
      clear hL hP hO
      go_wp2
      refine bodyPost_ret (v := V N) (by simp [results, Tryd.results65, go_sem, r0, r1, r2, r3]) rfl ⟨rfl, ?_⟩
      have hn : ∀ j, (⟨w.heap.size, j, none⟩ : Addr).block < w.heap.size → False := fun j c => by simp at c
      exact (((HO.out.setCell (hn 0) _).setCell (hn 1) _).setCell (hn 2) _).setCell (hn 3) _
/-- The number of at most 31 bytes, and its bytes. -/
theorem unp_pack {bs : List Nat} (hs : Small bs) (h : bs.length ≤ 31) : unpV (numB bs) (bs.length : Int) = (bs, 0) := by
  unfold unpV
  rw [if_pos ⟨by omega, by omega⟩, Int.toNat_natCast]
  have h1 : (bytesN (numB bs) 32).take bs.length = bs := by rw [bytesN_take _ _ _ (by omega), bytesN_numB hs]
  have h2 : orB ((bytesN (numB bs) 32).drop bs.length) = 0 := by
    rw [orB_zero]
    intro x hx
    obtain ⟨t, ht⟩ := List.getElem?_of_mem hx
    have hl := (List.getElem?_eq_some_iff.1 ht).1
    rw [List.length_drop, bytesN_length] at hl
    rw [List.getElem?_drop, bytesN_get _ _ _ (by omega), by8_over hs (by omega)] at ht
    exact (Option.some.inj ht).symm
  rw [if_pos h2, h1]
theorem fld_big {id : Int} {p i r s : Nat} (hF : Fld id p i r s) : 256 ^ 31 ≤ p := by
  have h := hF.mod
  have h0 := hF.mp.pos
  unfold modN at h
  split at h
  · subst h; decide +kernel
  · split at h
    · subst h; decide +kernel
    · omega
end
section
open Go.RowKit
attribute [local go_sem ↓] Go.wp_at_zero Go.wp_at_succ
/-- What Wide returns. -/
def wideV (p : Nat) (bs : List Nat) : Nat × Nat := if bs.length = 64 then (fm p (numB bs), 0) else (0, 8)
theorem wide_val {id : Int} {p i r s : Nat} (hF : Fld id p i r s) {bs : List Nat} (hl : bs.length = 64) : (fm p (numB (bs.take 32)) + mm p (fm p (numB (bs.drop 32))) s) % p = fm p (numB bs) := by
  have h1 := numB_split bs 32 (by omega)
  rw [hF.ss, mm_square hF.mp, Nat.mod_eq_of_lt (fm_lt hF.mp.pos _), fm_add, fm_mod, h1, ← r256_bytes, fm_eq p (numB (bs.drop 32)), ← fm_mod p (_ + _ % p), Nat.add_mod_mod, fm_mod]
set_option maxRecDepth 100000 in
set_option maxHeartbeats 4000000 in
theorem wide_any {id : Int} {p i r s : Nat} (hF : Fld id p i r s) (a : Option Addr) (n cap : Nat) (bs : List Nat) (S : Nat → Prop) (w : World) (hb : BsAt w a bs S) (hn : n = bs.length) (hs : Small bs) (hcap : n ≤ cap) :
    Calls Tryd.prog 85 #[FV id p i r s, .slice a n cap] w fun e w' => e = .returned (.tuple #[V (wideV p bs).1, .int .i64 ((wideV p bs).2 : Int)]) ∧ Off (fun _ => False) w w' := by
  by_cases h64 : n = 64
  · obtain ⟨bb, off, rfl, hSb, hcell⟩ := hb (by omega)
    have hlo := numB_r256 (hs.take 32) (by simp; omega)
    have hhi := numB_r256 (hs.drop 32) (by simp; omega)
    have hb0 : BsAt w (some ⟨bb, off, none⟩) bs (fun _ => True) := fun _ => ⟨bb, off, rfl, trivial, hcell⟩
    have HN1 := Lib.hid (fun W (h : Off (fun k => w.heap.size ≤ k) w W) => numberof_any (some ⟨bb, off, none⟩) 32 cap (bs.take 32) _ W ((hb0.later h).take 32) (by simp; omega) (hs.take 32) (by omega))
    have HN2 := Lib.hid (fun W (h : Off (fun k => w.heap.size ≤ k) w W) => numberof_any (some ⟨bb, off + 32, none⟩) 32 (cap - 32) (bs.drop 32) _ W ((hb0.later h).drop 32) (by simp; omega) (hs.drop 32) (by omega))
    have hs1 : ∀ W, (Instr.slice 24 (.slice (some ⟨bb, off, none⟩) 64 cap) none (some (.int .i64 32)) none).run Tryd.prog W = .ok (.slice (some ⟨bb, off, none⟩) 32 cap) W := fun W => slice_hi bb off 64 cap 32 (by omega) W
    have hs2 : ∀ W, (Instr.slice 24 (.slice (some ⟨bb, off, none⟩) 64 cap) (some (.int .i64 32)) none none).run Tryd.prog W = .ok (.slice (some ⟨bb, off + 32, none⟩) 32 (cap - 32)) W := fun W => slice_lo bb off 64 cap 32 (by omega) (by omega) W
    have hs3 : (32 : Int) ≤ (cap : Int) := by omega
    have hs4 : cap ≠ 32 := by omega
    have hv := wide_val hF (show bs.length = 64 by omega)
    have hT1 := fun W => mto_any hF (numB (bs.take 32)) hlo W
    have hT2 := fun W => mto_any hF (numB (bs.drop 32)) hhi W
    rw [fm_mod] at hT1 hT2
    have hd : wideV p bs = (fm p (numB bs), 0) := by unfold wideV; rw [if_pos (by omega)]
    rw [hd, ← hv]
    have hp := hF.mp.lt
    have hsp : s < p := by rw [hF.ss]; exact Nat.mod_lt _ hF.mp.pos
    obtain ⟨lo, hlo2⟩ : ∃ lo, lo = numB (bs.take 32) := ⟨_, rfl⟩
    obtain ⟨hi, hhi2⟩ : ∃ hi, hi = numB (bs.drop 32) := ⟨_, rfl⟩
    rw [← hlo2] at HN1 hT1 ⊢
    rw [← hhi2] at HN2 hT2 ⊢
    obtain ⟨y, hy⟩ : ∃ y, y = fm p lo := ⟨_, rfl⟩
    obtain ⟨z, hz⟩ : ∃ z, z = fm p hi := ⟨_, rfl⟩
    have hyp : y < p := by rw [hy]; exact fm_lt hF.mp.pos _
    have hzp : z < p := by rw [hz]; exact fm_lt hF.mp.pos _
    rw [← hy] at hT1 ⊢
    rw [← hz] at hT2 ⊢
    have hM := fun W => mmul_any hF z s (by omega) hsp W
    have hmz : mm p z s < p := mm_lt hF.mp _ _
    obtain ⟨m, hm⟩ : ∃ m, m = mm p z s := ⟨_, rfl⟩
    rw [← hm] at hM hmz ⊢
    have hA := fun W => madd_any hF y m hyp hmz W
    obtain ⟨x, hx⟩ : ∃ x, x = (y + m) % p := ⟨_, rfl⟩
    rw [← hx] at hA ⊢
    have HT1 := Lib.hid hT1
    have HT2 := Lib.hid hT2
    have HM := Lib.hid hM
    have HA := Lib.hid hA
    clear hT1 hT2 hM hA hb0 hcell hSb hb hn hs hlo hhi hv hd hp hsp hlo2 hhi2 hy hz hyp hzp hmz hm hx hF hcap
    subst h64
    go_enter Tryd.func85, Tryd.ntmps85
    obtain ⟨W0, hW0⟩ : ∃ W0, W0 = (w.alloc (.cells #[.int .i64 id, .int .u64 (wd p 0 : Int), .int .u64 (wd p 1 : Int), .int .u64 (wd p 2 : Int), .int .u64 (wd p 3 : Int), .int .u64 (i : Int), .int .u64 (wd r 0 : Int), .int .u64 (wd r 1 : Int), .int .u64 (wd r 2 : Int), .int .u64 (wd r 3 : Int), .int .u64 (wd s 0 : Int), .int .u64 (wd s 1 : Int), .int .u64 (wd s 2 : Int), .int .u64 (wd s 3 : Int)] 73)).alloc (.cells #[.int .u64 0, .int .u64 0, .int .u64 0, .int .u64 0] 66) := ⟨_, rfl⟩
    have HF0 := Lib.hid (show W0.heap[w.heap.size]? = some (.cells #[.int .i64 id, .int .u64 (wd p 0 : Int), .int .u64 (wd p 1 : Int), .int .u64 (wd p 2 : Int), .int .u64 (wd p 3 : Int), .int .u64 (i : Int), .int .u64 (wd r 0 : Int), .int .u64 (wd r 1 : Int), .int .u64 (wd r 2 : Int), .int .u64 (wd r 3 : Int), .int .u64 (wd s 0 : Int), .int .u64 (wd s 1 : Int), .int .u64 (wd s 2 : Int), .int .u64 (wd s 3 : Int)] 73) by rw [hW0]; exact heap_old' (heap_new' rfl _) _)
    have HR0 := Lib.hid (show W0.heap[w.heap.size + 1]? = some (.cells #[.int .u64 0, .int .u64 0, .int .u64 0, .int .u64 0] 66) by rw [hW0]; exact heap_new' (by simp) _)
    have HO0 := Lib.hid (show Off (fun _ => False) w W0 by rw [hW0]; exact (((Off.refl (fun _ => False) w).alloc _).alloc _))
    have HK0 : Hid (∀ W, Off (fun _ => False) W0 W → (W.cell? ⟨w.heap.size, 0, none⟩ = some (.int .i64 id) ∧ W.cell? ⟨w.heap.size, 1, none⟩ = some (.int .u64 (wd p 0 : Int)) ∧ W.cell? ⟨w.heap.size, 2, none⟩ = some (.int .u64 (wd p 1 : Int)) ∧ W.cell? ⟨w.heap.size, 3, none⟩ = some (.int .u64 (wd p 2 : Int)) ∧ W.cell? ⟨w.heap.size, 4, none⟩ = some (.int .u64 (wd p 3 : Int)) ∧ W.cell? ⟨w.heap.size, 5, none⟩ = some (.int .u64 (i : Int)) ∧ W.cell? ⟨w.heap.size, 6, none⟩ = some (.int .u64 (wd r 0 : Int)) ∧ W.cell? ⟨w.heap.size, 7, none⟩ = some (.int .u64 (wd r 1 : Int)) ∧ W.cell? ⟨w.heap.size, 8, none⟩ = some (.int .u64 (wd r 2 : Int)) ∧ W.cell? ⟨w.heap.size, 9, none⟩ = some (.int .u64 (wd r 3 : Int)) ∧ W.cell? ⟨w.heap.size, 10, none⟩ = some (.int .u64 (wd s 0 : Int)) ∧ W.cell? ⟨w.heap.size, 11, none⟩ = some (.int .u64 (wd s 1 : Int)) ∧ W.cell? ⟨w.heap.size, 12, none⟩ = some (.int .u64 (wd s 2 : Int)) ∧ W.cell? ⟨w.heap.size, 13, none⟩ = some (.int .u64 (wd s 3 : Int))) ∧ Off (fun _ => False) W0 W) := Lib.hid (fun W h => ⟨fv_cells (h.heap HF0.out (fun c => c)), h⟩)
    have HW0 := Lib.hid hW0
    clear hW0
    go_upto_region 3 with fail
    rw [← HW0.out]
    refine wp_region_inv (fun a0 l a' w' => ∃ (u13 : Value) (u14 : Value) (u15 : Value) (u16 : Value) (u17 : Value) (u6 : Value) (b6 : Nat), a' = (Act.put (Act.put (Act.put (Act.put (Act.put (Act.put a0 (some 13) u13) (some 14) u14) (some 15) u15) (some 16) u16) (some 17) u17) (some 6) u6) ∧ Slot l 0 u13 (FV id p i r s) ∧ Slot l 1 u14 (.slice (some ⟨bb, off, none⟩) 64 cap) ∧ Slot l 2 u15 (.slice (some ⟨bb, off, none⟩) 32 cap) ∧ Slot l 3 u16 (V lo) ∧ Slot l 4 u17 (V y) ∧ Blk l 5 6 u6 b6 W0 w' (.cells #[.int .u64 0, .int .u64 0, .int .u64 0, .int .u64 0] 66) (.cells #[.int .u64 (wd y 0 : Int), .int .u64 (wd y 1 : Int), .int .u64 (wd y 2 : Int), .int .u64 (wd y 3 : Int)] 66) ∧ Off (fun _ => False) W0 w') (by kernel_rfl) (by kernel_rfl) ?_ ⟨?_, ?_, ?_, ?_, ?_, ?_, ?_, trivial⟩ ?_
    · refine ⟨?z13, ?z14, ?z15, ?z16, ?z17, ?z6, 0, ?fr, Slot.start _ _ _, Slot.start _ _ _, Slot.start _ _ _, Slot.start _ _ _, Slot.start _ _ _, Blk.start _ _ _ _ _ _ _ _, (Off.refl _ W0).drew⟩
      case fr => first | (simp only [Act.put, List.setIfInBounds_toArray, List.set_cons_zero, List.set_cons_succ]; rfl) | simp only [Act.put, List.setIfInBounds_toArray, List.set_cons_zero, List.set_cons_succ]
    · intro l a wr hI hl hd K' hK
      obtain ⟨u13, u14, u15, u16, u17, u6, b6, ha, s0, s1, s2, s3, s4, B5, hO⟩ := hI
      simp only [Act.put, List.setIfInBounds_toArray, List.set_cons_zero, List.set_cons_succ] at ha
      subst ha
      have hc := HK0.out wr hO
      have p0 := hc.1.1
      have p1 := hc.1.2.1
      have p2 := hc.1.2.2.1
      have p3 := hc.1.2.2.2.1
      have p4 := hc.1.2.2.2.2.1
      have p5 := hc.1.2.2.2.2.2.1
      have p6 := hc.1.2.2.2.2.2.2.1
      have p7 := hc.1.2.2.2.2.2.2.2.1
      have p8 := hc.1.2.2.2.2.2.2.2.2.1
      have p9 := hc.1.2.2.2.2.2.2.2.2.2.1
      have p10 := hc.1.2.2.2.2.2.2.2.2.2.2.1
      have p11 := hc.1.2.2.2.2.2.2.2.2.2.2.2.1
      have p12 := hc.1.2.2.2.2.2.2.2.2.2.2.2.2.1
      have p13 := hc.1.2.2.2.2.2.2.2.2.2.2.2.2.2
      clear hc
      go_simp
      refine hK.out _ _ ⟨_, _, _, _, _, _, _, ?_, Slot.new _ _ _, s1.keep rfl, s2.keep rfl, s3.keep rfl, s4.keep rfl, B5.keep (Off.refl _ wr) rfl rfl, hO⟩
      simp only [Act.put, List.setIfInBounds_toArray, List.set_cons_zero, List.set_cons_succ]
    · intro l a wr hI hl hd K' hK
      obtain ⟨u13, u14, u15, u16, u17, u6, b6, ha, s0, s1, s2, s3, s4, B5, hO⟩ := hI
      simp only [Act.put, List.setIfInBounds_toArray, List.set_cons_zero, List.set_cons_succ] at ha
      subst ha
      go_simp
      refine hK.out _ _ ⟨_, _, _, _, _, _, _, ?_, s0.keep rfl, Slot.new _ _ _, s2.keep rfl, s3.keep rfl, s4.keep rfl, B5.keep (Off.refl _ wr) rfl rfl, hO⟩
      simp only [Act.put, List.setIfInBounds_toArray, List.set_cons_zero, List.set_cons_succ]
    · intro l a wr hI hl hd K' hK
      obtain ⟨u13, u14, u15, u16, u17, u6, b6, ha, s0, s1, s2, s3, s4, B5, hO⟩ := hI
      simp only [Act.put, List.setIfInBounds_toArray, List.set_cons_zero, List.set_cons_succ] at ha
      have q1 := s1 (hd 1 (by decide))
      subst ha q1
      go_simp
      refine hK.out _ _ ⟨_, _, _, _, _, _, _, ?_, s0.keep rfl, s1.keep rfl, Slot.new _ _ _, s3.keep rfl, s4.keep rfl, B5.keep (Off.refl _ wr) rfl rfl, hO⟩
      simp only [Act.put, List.setIfInBounds_toArray, List.set_cons_zero, List.set_cons_succ]
    · intro l a wr hI hl hd K' hK
      obtain ⟨u13, u14, u15, u16, u17, u6, b6, ha, s0, s1, s2, s3, s4, B5, hO⟩ := hI
      simp only [Act.put, List.setIfInBounds_toArray, List.set_cons_zero, List.set_cons_succ] at ha
      have q2 := s2 (hd 2 (by decide))
      subst ha q2
      go_simp
      refine (held_inv (HN1.out wr ((HO0.out.trans hO (fun _ _ c => c)).mono (S' := fun k => w.heap.size ≤ k) (fun _ _ c => c.elim))) hO).mono ?_
      rintro e w1 ⟨rfl, hO1, hOW⟩
      go_wp2_with fail
      refine hK.out _ _ ⟨_, _, _, _, _, _, _, ?_, s0.keep rfl, s1.keep rfl, s2.keep rfl, Slot.new _ _ _, s4.keep rfl, B5.keep hOW rfl rfl, hO1⟩
      simp only [Act.put, List.setIfInBounds_toArray, List.set_cons_zero, List.set_cons_succ]
    · intro l a wr hI hl hd K' hK
      obtain ⟨u13, u14, u15, u16, u17, u6, b6, ha, s0, s1, s2, s3, s4, B5, hO⟩ := hI
      simp only [Act.put, List.setIfInBounds_toArray, List.set_cons_zero, List.set_cons_succ] at ha
      have q0 := s0 (hd 0 (by decide))
      have q3 := s3 (hd 3 (by decide))
      subst ha q0 q3
      go_simp
      refine (held_inv (HT1.out wr) hO).mono ?_
      rintro e w1 ⟨rfl, hO1, hOW⟩
      go_wp2_with fail
      refine hK.out _ _ ⟨_, _, _, _, _, _, _, ?_, s0.keep rfl, s1.keep rfl, s2.keep rfl, s3.keep rfl, Slot.new _ _ _, B5.keep hOW rfl rfl, hO1⟩
      simp only [Act.put, List.setIfInBounds_toArray, List.set_cons_zero, List.set_cons_succ]
    · intro l a wr hI hl hd K' hK
      obtain ⟨u13, u14, u15, u16, u17, u6, b6, ha, s0, s1, s2, s3, s4, B5, hO⟩ := hI
      simp only [Act.put, List.setIfInBounds_toArray, List.set_cons_zero, List.set_cons_succ] at ha
      subst ha
      go_simp
      refine hK.out _ _ ⟨_, _, _, _, _, _, _, ?_, s0.keep rfl, s1.keep rfl, s2.keep rfl, s3.keep rfl, s4.keep rfl, B5.make hl rfl hO, hO.alloc _⟩
      simp only [Act.put, List.setIfInBounds_toArray, List.set_cons_zero, List.set_cons_succ]
    · intro l a wr hI hl hd K' hK
      obtain ⟨u13, u14, u15, u16, u17, u6, b6, ha, s0, s1, s2, s3, s4, B5, hO⟩ := hI
      simp only [Act.put, List.setIfInBounds_toArray, List.set_cons_zero, List.set_cons_succ] at ha
      have h5 := hd 5 (by decide)
      have q5 := B5.ptr h5
      have q4 := s4 (hd 4 (by decide))
      subst ha q5 q4
      obtain ⟨⟨m0, m1, m2, m3⟩, fz, lt⟩ := zero_cells (B5.was h5 hl)
      go_simp
      refine hK.out _ _ ⟨_, _, _, _, _, _, _, ?_, s0.keep rfl, s1.keep rfl, s2.keep rfl, s3.keep rfl, s4.keep rfl, B5.put hl h5 rfl rfl, setCells_in hO (fun c => absurd c (Nat.not_lt.2 (B5.new h5))) [.int .u64 (wd y 0 : Int), .int .u64 (wd y 1 : Int), .int .u64 (wd y 2 : Int), .int .u64 (wd y 3 : Int)]⟩
      simp only [Act.put, List.setIfInBounds_toArray, List.set_cons_zero, List.set_cons_succ]
    · intro l a wc hI hd
      obtain ⟨u13, u14, u15, u16, u17, u6, b6, ha, s0, s1, s2, s3, s4, B5, hO⟩ := hI
      simp only [Act.put, List.setIfInBounds_toArray, List.set_cons_zero, List.set_cons_succ] at ha
      have q0 := s0 (hd 0 (by decide))
      have q1 := s1 (hd 1 (by decide))
      have q2 := s2 (hd 2 (by decide))
      have q3 := s3 (hd 3 (by decide))
      have q4 := s4 (hd 4 (by decide))
      have q5 := B5.ptr (hd 5 (by decide))
      have n6 : wc.heap[b6]? = some (.cells #[.int .u64 (wd y 0 : Int), .int .u64 (wd y 1 : Int), .int .u64 (wd y 2 : Int), .int .u64 (wd y 3 : Int)] 66) := B5.now (hd 5 (by decide)) (hd 6 (by decide))
      have v6 := B5.new (hd 5 (by decide))
      subst ha q0 q1 q2 q3 q4 q5
      clear hd s0 s1 s2 s3 s4 B5
      obtain ⟨W1, hW1⟩ : ∃ W1, W1 = wc := ⟨_, rfl⟩
      subst hW1
      have HF1 := Lib.hid (hO.heap HF0.out (fun c => c))
      have HR1 := Lib.hid (hO.heap HR0.out (fun c => c))
      have HO1 := Lib.hid (HO0.out.trans hO (fun _ _ c => c))
      have HY1 := Lib.hid n6
      have HYN := Lib.hid (show w.heap.size + 1 < b6 from Nat.lt_of_lt_of_le (heap_lt HR0.out) v6)
      have HK1 : Hid (∀ W, Off (fun _ => False) W1 W → (W.cell? ⟨w.heap.size, 0, none⟩ = some (.int .i64 id) ∧ W.cell? ⟨w.heap.size, 1, none⟩ = some (.int .u64 (wd p 0 : Int)) ∧ W.cell? ⟨w.heap.size, 2, none⟩ = some (.int .u64 (wd p 1 : Int)) ∧ W.cell? ⟨w.heap.size, 3, none⟩ = some (.int .u64 (wd p 2 : Int)) ∧ W.cell? ⟨w.heap.size, 4, none⟩ = some (.int .u64 (wd p 3 : Int)) ∧ W.cell? ⟨w.heap.size, 5, none⟩ = some (.int .u64 (i : Int)) ∧ W.cell? ⟨w.heap.size, 6, none⟩ = some (.int .u64 (wd r 0 : Int)) ∧ W.cell? ⟨w.heap.size, 7, none⟩ = some (.int .u64 (wd r 1 : Int)) ∧ W.cell? ⟨w.heap.size, 8, none⟩ = some (.int .u64 (wd r 2 : Int)) ∧ W.cell? ⟨w.heap.size, 9, none⟩ = some (.int .u64 (wd r 3 : Int)) ∧ W.cell? ⟨w.heap.size, 10, none⟩ = some (.int .u64 (wd s 0 : Int)) ∧ W.cell? ⟨w.heap.size, 11, none⟩ = some (.int .u64 (wd s 1 : Int)) ∧ W.cell? ⟨w.heap.size, 12, none⟩ = some (.int .u64 (wd s 2 : Int)) ∧ W.cell? ⟨w.heap.size, 13, none⟩ = some (.int .u64 (wd s 3 : Int))) ∧ Off (fun _ => False) W1 W) := Lib.hid (fun W h => ⟨fv_cells (h.heap HF1.out (fun c => c)), h⟩)
      clear hO n6 v6 HW0 HK0 HF0 HR0 HO0 HN1 HT1 l
      go_upto_region 4 with fail
      refine wp_region_inv (fun a0 l a' w' => ∃ (u18 : Value) (u19 : Value) (u20 : Value) (u21 : Value) (u22 : Value) (u7 : Value) (b7 : Nat), a' = (Act.put (Act.put (Act.put (Act.put (Act.put (Act.put a0 (some 18) u18) (some 19) u19) (some 20) u20) (some 21) u21) (some 22) u22) (some 7) u7) ∧ Slot l 0 u18 (FV id p i r s) ∧ Slot l 1 u19 (.slice (some ⟨bb, off, none⟩) 64 cap) ∧ Slot l 2 u20 (.slice (some ⟨bb, off + 32, none⟩) 32 (cap - 32)) ∧ Slot l 3 u21 (V hi) ∧ Slot l 4 u22 (V z) ∧ Blk l 5 6 u7 b7 W1 w' (.cells #[.int .u64 0, .int .u64 0, .int .u64 0, .int .u64 0] 66) (.cells #[.int .u64 (wd z 0 : Int), .int .u64 (wd z 1 : Int), .int .u64 (wd z 2 : Int), .int .u64 (wd z 3 : Int)] 66) ∧ Off (fun _ => False) W1 w') (by kernel_rfl) (by kernel_rfl) ?_ ⟨?_, ?_, ?_, ?_, ?_, ?_, ?_, trivial⟩ ?_
      · refine ⟨?z18, ?z19, ?z20, ?z21, ?z22, ?z7, 0, ?fr, Slot.start _ _ _, Slot.start _ _ _, Slot.start _ _ _, Slot.start _ _ _, Slot.start _ _ _, Blk.start _ _ _ _ _ _ _ _, (Off.refl _ W1).drew⟩
        case fr => first | (simp only [Act.put, List.setIfInBounds_toArray, List.set_cons_zero, List.set_cons_succ]; rfl) | simp only [Act.put, List.setIfInBounds_toArray, List.set_cons_zero, List.set_cons_succ]
      · intro l a wr hI hl hd K' hK
        obtain ⟨u18, u19, u20, u21, u22, u7, b7, ha, s0, s1, s2, s3, s4, B5, hO⟩ := hI
        simp only [Act.put, List.setIfInBounds_toArray, List.set_cons_zero, List.set_cons_succ] at ha
        subst ha
        have hc := HK1.out wr hO
        have p0 := hc.1.1
        have p1 := hc.1.2.1
        have p2 := hc.1.2.2.1
        have p3 := hc.1.2.2.2.1
        have p4 := hc.1.2.2.2.2.1
        have p5 := hc.1.2.2.2.2.2.1
        have p6 := hc.1.2.2.2.2.2.2.1
        have p7 := hc.1.2.2.2.2.2.2.2.1
        have p8 := hc.1.2.2.2.2.2.2.2.2.1
        have p9 := hc.1.2.2.2.2.2.2.2.2.2.1
        have p10 := hc.1.2.2.2.2.2.2.2.2.2.2.1
        have p11 := hc.1.2.2.2.2.2.2.2.2.2.2.2.1
        have p12 := hc.1.2.2.2.2.2.2.2.2.2.2.2.2.1
        have p13 := hc.1.2.2.2.2.2.2.2.2.2.2.2.2.2
        clear hc
        go_simp
        refine hK.out _ _ ⟨_, _, _, _, _, _, _, ?_, Slot.new _ _ _, s1.keep rfl, s2.keep rfl, s3.keep rfl, s4.keep rfl, B5.keep (Off.refl _ wr) rfl rfl, hO⟩
        simp only [Act.put, List.setIfInBounds_toArray, List.set_cons_zero, List.set_cons_succ]
      · intro l a wr hI hl hd K' hK
        obtain ⟨u18, u19, u20, u21, u22, u7, b7, ha, s0, s1, s2, s3, s4, B5, hO⟩ := hI
        simp only [Act.put, List.setIfInBounds_toArray, List.set_cons_zero, List.set_cons_succ] at ha
        subst ha
        go_simp
        refine hK.out _ _ ⟨_, _, _, _, _, _, _, ?_, s0.keep rfl, Slot.new _ _ _, s2.keep rfl, s3.keep rfl, s4.keep rfl, B5.keep (Off.refl _ wr) rfl rfl, hO⟩
        simp only [Act.put, List.setIfInBounds_toArray, List.set_cons_zero, List.set_cons_succ]
      · intro l a wr hI hl hd K' hK
        obtain ⟨u18, u19, u20, u21, u22, u7, b7, ha, s0, s1, s2, s3, s4, B5, hO⟩ := hI
        simp only [Act.put, List.setIfInBounds_toArray, List.set_cons_zero, List.set_cons_succ] at ha
        have q1 := s1 (hd 1 (by decide))
        subst ha q1
        go_simp
        refine hK.out _ _ ⟨_, _, _, _, _, _, _, ?_, s0.keep rfl, s1.keep rfl, Slot.new _ _ _, s3.keep rfl, s4.keep rfl, B5.keep (Off.refl _ wr) rfl rfl, hO⟩
        simp only [Act.put, List.setIfInBounds_toArray, List.set_cons_zero, List.set_cons_succ]
      · intro l a wr hI hl hd K' hK
        obtain ⟨u18, u19, u20, u21, u22, u7, b7, ha, s0, s1, s2, s3, s4, B5, hO⟩ := hI
        simp only [Act.put, List.setIfInBounds_toArray, List.set_cons_zero, List.set_cons_succ] at ha
        have q2 := s2 (hd 2 (by decide))
        subst ha q2
        go_simp
        refine (held_inv (HN2.out wr ((HO1.out.trans hO (fun _ _ c => c)).mono (S' := fun k => w.heap.size ≤ k) (fun _ _ c => c.elim))) hO).mono ?_
        rintro e w1 ⟨rfl, hO1, hOW⟩
        go_wp2_with fail
        refine hK.out _ _ ⟨_, _, _, _, _, _, _, ?_, s0.keep rfl, s1.keep rfl, s2.keep rfl, Slot.new _ _ _, s4.keep rfl, B5.keep hOW rfl rfl, hO1⟩
        simp only [Act.put, List.setIfInBounds_toArray, List.set_cons_zero, List.set_cons_succ]
      · intro l a wr hI hl hd K' hK
        obtain ⟨u18, u19, u20, u21, u22, u7, b7, ha, s0, s1, s2, s3, s4, B5, hO⟩ := hI
        simp only [Act.put, List.setIfInBounds_toArray, List.set_cons_zero, List.set_cons_succ] at ha
        have q0 := s0 (hd 0 (by decide))
        have q3 := s3 (hd 3 (by decide))
        subst ha q0 q3
        go_simp
        refine (held_inv (HT2.out wr) hO).mono ?_
        rintro e w1 ⟨rfl, hO1, hOW⟩
        go_wp2_with fail
        refine hK.out _ _ ⟨_, _, _, _, _, _, _, ?_, s0.keep rfl, s1.keep rfl, s2.keep rfl, s3.keep rfl, Slot.new _ _ _, B5.keep hOW rfl rfl, hO1⟩
        simp only [Act.put, List.setIfInBounds_toArray, List.set_cons_zero, List.set_cons_succ]
      · intro l a wr hI hl hd K' hK
        obtain ⟨u18, u19, u20, u21, u22, u7, b7, ha, s0, s1, s2, s3, s4, B5, hO⟩ := hI
        simp only [Act.put, List.setIfInBounds_toArray, List.set_cons_zero, List.set_cons_succ] at ha
        subst ha
        go_simp
        refine hK.out _ _ ⟨_, _, _, _, _, _, _, ?_, s0.keep rfl, s1.keep rfl, s2.keep rfl, s3.keep rfl, s4.keep rfl, B5.make hl rfl hO, hO.alloc _⟩
        simp only [Act.put, List.setIfInBounds_toArray, List.set_cons_zero, List.set_cons_succ]
      · intro l a wr hI hl hd K' hK
        obtain ⟨u18, u19, u20, u21, u22, u7, b7, ha, s0, s1, s2, s3, s4, B5, hO⟩ := hI
        simp only [Act.put, List.setIfInBounds_toArray, List.set_cons_zero, List.set_cons_succ] at ha
        have h5 := hd 5 (by decide)
        have q5 := B5.ptr h5
        have q4 := s4 (hd 4 (by decide))
        subst ha q5 q4
        obtain ⟨⟨m0, m1, m2, m3⟩, fz, lt⟩ := zero_cells (B5.was h5 hl)
        go_simp
        refine hK.out _ _ ⟨_, _, _, _, _, _, _, ?_, s0.keep rfl, s1.keep rfl, s2.keep rfl, s3.keep rfl, s4.keep rfl, B5.put hl h5 rfl rfl, setCells_in hO (fun c => absurd c (Nat.not_lt.2 (B5.new h5))) [.int .u64 (wd z 0 : Int), .int .u64 (wd z 1 : Int), .int .u64 (wd z 2 : Int), .int .u64 (wd z 3 : Int)]⟩
        simp only [Act.put, List.setIfInBounds_toArray, List.set_cons_zero, List.set_cons_succ]
      · intro l a wc hI hd
        obtain ⟨u18, u19, u20, u21, u22, u7, b7, ha, s0, s1, s2, s3, s4, B5, hO⟩ := hI
        simp only [Act.put, List.setIfInBounds_toArray, List.set_cons_zero, List.set_cons_succ] at ha
        have q0 := s0 (hd 0 (by decide))
        have q1 := s1 (hd 1 (by decide))
        have q2 := s2 (hd 2 (by decide))
        have q3 := s3 (hd 3 (by decide))
        have q4 := s4 (hd 4 (by decide))
        have q5 := B5.ptr (hd 5 (by decide))
        have n7 : wc.heap[b7]? = some (.cells #[.int .u64 (wd z 0 : Int), .int .u64 (wd z 1 : Int), .int .u64 (wd z 2 : Int), .int .u64 (wd z 3 : Int)] 66) := B5.now (hd 5 (by decide)) (hd 6 (by decide))
        have v7 := B5.new (hd 5 (by decide))
        subst ha q0 q1 q2 q3 q4 q5
        clear hd s0 s1 s2 s3 s4 B5
        obtain ⟨W2, hW2⟩ : ∃ W2, W2 = wc := ⟨_, rfl⟩
        subst hW2
        have hFc := hO.heap HF1.out (fun c => c)
        have hRc := hO.heap HR1.out (fun c => c)
        have hYc := hO.heap HY1.out (fun c => c)
        obtain ⟨W3, hW3⟩ : ∃ W3, W3 = W2.alloc (.cells #[.int .u64 (wd s 0 : Int), .int .u64 (wd s 1 : Int), .int .u64 (wd s 2 : Int), .int .u64 (wd s 3 : Int)] 66) := ⟨_, rfl⟩
        have oW3 : Off (fun _ => False) W2 W3 := by rw [hW3]; exact (Off.refl _ W2).alloc _
        have hSc : W3.heap[W2.heap.size]? = some (.cells #[.int .u64 (wd s 0 : Int), .int .u64 (wd s 1 : Int), .int .u64 (wd s 2 : Int), .int .u64 (wd s 3 : Int)] 66) := by rw [hW3]; exact heap_new' rfl _
        have HR3 := Lib.hid (oW3.heap hRc (fun c => c))
        have HF3 := Lib.hid (oW3.heap hFc (fun c => c))
        have HY3 := Lib.hid (oW3.heap hYc (fun c => c))
        have HZ3 := Lib.hid (oW3.heap n7 (fun c => c))
        have HS3 := Lib.hid hSc
        have HO3 := Lib.hid ((HO1.out.trans hO (fun _ _ c => c)).trans oW3 (fun _ _ c => c))
        have l6 : b6 ≠ w.heap.size + 1 := by have := HO1.out.size; have h1 := heap_lt HR1.out; have h2 := HYN.out; omega
        have l7 : b7 ≠ w.heap.size + 1 := by have h1 := heap_lt HR1.out; omega
        have l8 : W2.heap.size ≠ w.heap.size + 1 := by have h1 := heap_lt hRc; omega
        have HK3 : Hid (∀ W, Off (fun k => k = (w.heap.size + 1)) W3 W → (W.cell? ⟨w.heap.size, 0, none⟩ = some (.int .i64 id) ∧ W.cell? ⟨w.heap.size, 1, none⟩ = some (.int .u64 (wd p 0 : Int)) ∧ W.cell? ⟨w.heap.size, 2, none⟩ = some (.int .u64 (wd p 1 : Int)) ∧ W.cell? ⟨w.heap.size, 3, none⟩ = some (.int .u64 (wd p 2 : Int)) ∧ W.cell? ⟨w.heap.size, 4, none⟩ = some (.int .u64 (wd p 3 : Int)) ∧ W.cell? ⟨w.heap.size, 5, none⟩ = some (.int .u64 (i : Int)) ∧ W.cell? ⟨w.heap.size, 6, none⟩ = some (.int .u64 (wd r 0 : Int)) ∧ W.cell? ⟨w.heap.size, 7, none⟩ = some (.int .u64 (wd r 1 : Int)) ∧ W.cell? ⟨w.heap.size, 8, none⟩ = some (.int .u64 (wd r 2 : Int)) ∧ W.cell? ⟨w.heap.size, 9, none⟩ = some (.int .u64 (wd r 3 : Int)) ∧ W.cell? ⟨w.heap.size, 10, none⟩ = some (.int .u64 (wd s 0 : Int)) ∧ W.cell? ⟨w.heap.size, 11, none⟩ = some (.int .u64 (wd s 1 : Int)) ∧ W.cell? ⟨w.heap.size, 12, none⟩ = some (.int .u64 (wd s 2 : Int)) ∧ W.cell? ⟨w.heap.size, 13, none⟩ = some (.int .u64 (wd s 3 : Int))) ∧ (W.cell? ⟨b6, 0, none⟩ = some (.int .u64 (wd y 0 : Int)) ∧ W.cell? ⟨b6, 1, none⟩ = some (.int .u64 (wd y 1 : Int)) ∧ W.cell? ⟨b6, 2, none⟩ = some (.int .u64 (wd y 2 : Int)) ∧ W.cell? ⟨b6, 3, none⟩ = some (.int .u64 (wd y 3 : Int))) ∧ (W.cell? ⟨b7, 0, none⟩ = some (.int .u64 (wd z 0 : Int)) ∧ W.cell? ⟨b7, 1, none⟩ = some (.int .u64 (wd z 1 : Int)) ∧ W.cell? ⟨b7, 2, none⟩ = some (.int .u64 (wd z 2 : Int)) ∧ W.cell? ⟨b7, 3, none⟩ = some (.int .u64 (wd z 3 : Int))) ∧ (W.cell? ⟨W2.heap.size, 0, none⟩ = some (.int .u64 (wd s 0 : Int)) ∧ W.cell? ⟨W2.heap.size, 1, none⟩ = some (.int .u64 (wd s 1 : Int)) ∧ W.cell? ⟨W2.heap.size, 2, none⟩ = some (.int .u64 (wd s 2 : Int)) ∧ W.cell? ⟨W2.heap.size, 3, none⟩ = some (.int .u64 (wd s 3 : Int))) ∧ Off (fun k => k = (w.heap.size + 1)) W3 W) := Lib.hid (fun W h => ⟨fv_cells (h.heap HF3.out (by omega)), cells4 (h.heap HY3.out l6), cells4 (h.heap HZ3.out l7), cells4 (h.heap HS3.out l8), h⟩)
        obtain ⟨f0, f1, f2, f3, f4, f5, f6, f7, f8, f9, f10, f11, f12, f13⟩ := fv_cells hFc
        have HW3 := Lib.hid hW3
        clear hFc hRc hYc oW3 hSc hO n7 v7 hW3 HN2 HT2 HK1 HF1 HR1 HO1 HY1
        go_upto_region 6 with fail
        rw [← HW3.out]
        clear f0 f1 f2 f3 f4 f5 f6 f7 f8 f9 f10 f11 f12 f13
        refine wp_region_inv (fun a0 l a' w' => ∃ (u25 : Value) (u26 : Value) (u27 : Value) (u28 : Value) (u29 : Value) (u30 : Value) (u31 : Value) (u5 : Value), a' = (Act.put (Act.put (Act.put (Act.put (Act.put (Act.put (Act.put (Act.put a0 (some 25) u25) (some 26) u26) (some 27) u27) (some 28) u28) (some 29) u29) (some 30) u30) (some 31) u31) (some 5) u5) ∧ Slot l 0 u25 (FV id p i r s) ∧ Slot l 1 u26 (V y) ∧ Slot l 2 u27 (FV id p i r s) ∧ Slot l 3 u28 (V z) ∧ Slot l 4 u29 (V s) ∧ Slot l 5 u30 (V m) ∧ Slot l 6 u31 (V x) ∧ Slot l 8 u5 (.int .i64 0) ∧ Old l 7 (w.heap.size + 1) W3 w' (.cells #[.int .u64 0, .int .u64 0, .int .u64 0, .int .u64 0] 66) (.cells #[.int .u64 (wd x 0 : Int), .int .u64 (wd x 1 : Int), .int .u64 (wd x 2 : Int), .int .u64 (wd x 3 : Int)] 66) ∧ Off (fun k => k = (w.heap.size + 1)) W3 w') (by kernel_rfl) (by kernel_rfl) ?_ ⟨?_, ?_, ?_, ?_, ?_, ?_, ?_, ?_, ?_, trivial⟩ ?_
        · refine ⟨?z25, ?z26, ?z27, ?z28, ?z29, ?z30, ?z31, ?z5, ?fr, Slot.start _ _ _, Slot.start _ _ _, Slot.start _ _ _, Slot.start _ _ _, Slot.start _ _ _, Slot.start _ _ _, Slot.start _ _ _, Slot.start _ _ _, Old.start HR3.out _ _, (Off.refl _ W3).drew⟩
          case fr => first | (simp only [Act.put, List.setIfInBounds_toArray, List.set_cons_zero, List.set_cons_succ]; rfl) | simp only [Act.put, List.setIfInBounds_toArray, List.set_cons_zero, List.set_cons_succ]
        · intro l a wr hI hl hd K' hK
          obtain ⟨u25, u26, u27, u28, u29, u30, u31, u5, ha, s0, s1, s2, s3, s4, s5, s6, s8, O0, hO⟩ := hI
          simp only [Act.put, List.setIfInBounds_toArray, List.set_cons_zero, List.set_cons_succ] at ha
          subst ha
          have hc := HK3.out wr hO
          have p0 := hc.1.1
          have p1 := hc.1.2.1
          have p2 := hc.1.2.2.1
          have p3 := hc.1.2.2.2.1
          have p4 := hc.1.2.2.2.2.1
          have p5 := hc.1.2.2.2.2.2.1
          have p6 := hc.1.2.2.2.2.2.2.1
          have p7 := hc.1.2.2.2.2.2.2.2.1
          have p8 := hc.1.2.2.2.2.2.2.2.2.1
          have p9 := hc.1.2.2.2.2.2.2.2.2.2.1
          have p10 := hc.1.2.2.2.2.2.2.2.2.2.2.1
          have p11 := hc.1.2.2.2.2.2.2.2.2.2.2.2.1
          have p12 := hc.1.2.2.2.2.2.2.2.2.2.2.2.2.1
          have p13 := hc.1.2.2.2.2.2.2.2.2.2.2.2.2.2
          clear hc
          go_simp
          refine hK.out _ _ ⟨_, _, _, _, _, _, _, _, ?_, Slot.new _ _ _, s1.keep rfl, s2.keep rfl, s3.keep rfl, s4.keep rfl, s5.keep rfl, s6.keep rfl, s8.keep rfl, O0.keep (Off.refl _ wr) rfl, hO⟩
          simp only [Act.put, List.setIfInBounds_toArray, List.set_cons_zero, List.set_cons_succ]
        · intro l a wr hI hl hd K' hK
          obtain ⟨u25, u26, u27, u28, u29, u30, u31, u5, ha, s0, s1, s2, s3, s4, s5, s6, s8, O0, hO⟩ := hI
          simp only [Act.put, List.setIfInBounds_toArray, List.set_cons_zero, List.set_cons_succ] at ha
          subst ha
          have hc := HK3.out wr hO
          have p0 := hc.2.1.1
          have p1 := hc.2.1.2.1
          have p2 := hc.2.1.2.2.1
          have p3 := hc.2.1.2.2.2
          clear hc
          go_simp
          refine hK.out _ _ ⟨_, _, _, _, _, _, _, _, ?_, s0.keep rfl, Slot.new _ _ _, s2.keep rfl, s3.keep rfl, s4.keep rfl, s5.keep rfl, s6.keep rfl, s8.keep rfl, O0.keep (Off.refl _ wr) rfl, hO⟩
          simp only [Act.put, List.setIfInBounds_toArray, List.set_cons_zero, List.set_cons_succ]
        · intro l a wr hI hl hd K' hK
          obtain ⟨u25, u26, u27, u28, u29, u30, u31, u5, ha, s0, s1, s2, s3, s4, s5, s6, s8, O0, hO⟩ := hI
          simp only [Act.put, List.setIfInBounds_toArray, List.set_cons_zero, List.set_cons_succ] at ha
          subst ha
          have hc := HK3.out wr hO
          have p0 := hc.1.1
          have p1 := hc.1.2.1
          have p2 := hc.1.2.2.1
          have p3 := hc.1.2.2.2.1
          have p4 := hc.1.2.2.2.2.1
          have p5 := hc.1.2.2.2.2.2.1
          have p6 := hc.1.2.2.2.2.2.2.1
          have p7 := hc.1.2.2.2.2.2.2.2.1
          have p8 := hc.1.2.2.2.2.2.2.2.2.1
          have p9 := hc.1.2.2.2.2.2.2.2.2.2.1
          have p10 := hc.1.2.2.2.2.2.2.2.2.2.2.1
          have p11 := hc.1.2.2.2.2.2.2.2.2.2.2.2.1
          have p12 := hc.1.2.2.2.2.2.2.2.2.2.2.2.2.1
          have p13 := hc.1.2.2.2.2.2.2.2.2.2.2.2.2.2
          clear hc
          go_simp
          refine hK.out _ _ ⟨_, _, _, _, _, _, _, _, ?_, s0.keep rfl, s1.keep rfl, Slot.new _ _ _, s3.keep rfl, s4.keep rfl, s5.keep rfl, s6.keep rfl, s8.keep rfl, O0.keep (Off.refl _ wr) rfl, hO⟩
          simp only [Act.put, List.setIfInBounds_toArray, List.set_cons_zero, List.set_cons_succ]
        · intro l a wr hI hl hd K' hK
          obtain ⟨u25, u26, u27, u28, u29, u30, u31, u5, ha, s0, s1, s2, s3, s4, s5, s6, s8, O0, hO⟩ := hI
          simp only [Act.put, List.setIfInBounds_toArray, List.set_cons_zero, List.set_cons_succ] at ha
          subst ha
          have hc := HK3.out wr hO
          have p0 := hc.2.2.1.1
          have p1 := hc.2.2.1.2.1
          have p2 := hc.2.2.1.2.2.1
          have p3 := hc.2.2.1.2.2.2
          clear hc
          go_simp
          refine hK.out _ _ ⟨_, _, _, _, _, _, _, _, ?_, s0.keep rfl, s1.keep rfl, s2.keep rfl, Slot.new _ _ _, s4.keep rfl, s5.keep rfl, s6.keep rfl, s8.keep rfl, O0.keep (Off.refl _ wr) rfl, hO⟩
          simp only [Act.put, List.setIfInBounds_toArray, List.set_cons_zero, List.set_cons_succ]
        · intro l a wr hI hl hd K' hK
          obtain ⟨u25, u26, u27, u28, u29, u30, u31, u5, ha, s0, s1, s2, s3, s4, s5, s6, s8, O0, hO⟩ := hI
          simp only [Act.put, List.setIfInBounds_toArray, List.set_cons_zero, List.set_cons_succ] at ha
          subst ha
          have hc := HK3.out wr hO
          have p0 := hc.2.2.2.1.1
          have p1 := hc.2.2.2.1.2.1
          have p2 := hc.2.2.2.1.2.2.1
          have p3 := hc.2.2.2.1.2.2.2
          clear hc
          go_simp
          refine hK.out _ _ ⟨_, _, _, _, _, _, _, _, ?_, s0.keep rfl, s1.keep rfl, s2.keep rfl, s3.keep rfl, Slot.new _ _ _, s5.keep rfl, s6.keep rfl, s8.keep rfl, O0.keep (Off.refl _ wr) rfl, hO⟩
          simp only [Act.put, List.setIfInBounds_toArray, List.set_cons_zero, List.set_cons_succ]
        · intro l a wr hI hl hd K' hK
          obtain ⟨u25, u26, u27, u28, u29, u30, u31, u5, ha, s0, s1, s2, s3, s4, s5, s6, s8, O0, hO⟩ := hI
          simp only [Act.put, List.setIfInBounds_toArray, List.set_cons_zero, List.set_cons_succ] at ha
          have q2 := s2 (hd 2 (by decide))
          have q3 := s3 (hd 3 (by decide))
          have q4 := s4 (hd 4 (by decide))
          subst ha q2 q3 q4
          go_simp
          refine (held_inv (HM.out wr) hO).mono ?_
          rintro e w1 ⟨rfl, hO1, hOW⟩
          go_wp2_with fail
          refine hK.out _ _ ⟨_, _, _, _, _, _, _, _, ?_, s0.keep rfl, s1.keep rfl, s2.keep rfl, s3.keep rfl, s4.keep rfl, Slot.new _ _ _, s6.keep rfl, s8.keep rfl, O0.keep hOW rfl, hO1⟩
          simp only [Act.put, List.setIfInBounds_toArray, List.set_cons_zero, List.set_cons_succ]
        · intro l a wr hI hl hd K' hK
          obtain ⟨u25, u26, u27, u28, u29, u30, u31, u5, ha, s0, s1, s2, s3, s4, s5, s6, s8, O0, hO⟩ := hI
          simp only [Act.put, List.setIfInBounds_toArray, List.set_cons_zero, List.set_cons_succ] at ha
          have q0 := s0 (hd 0 (by decide))
          have q1 := s1 (hd 1 (by decide))
          have q5 := s5 (hd 5 (by decide))
          subst ha q0 q1 q5
          go_simp
          refine (held_inv (HA.out wr) hO).mono ?_
          rintro e w1 ⟨rfl, hO1, hOW⟩
          go_wp2_with fail
          refine hK.out _ _ ⟨_, _, _, _, _, _, _, _, ?_, s0.keep rfl, s1.keep rfl, s2.keep rfl, s3.keep rfl, s4.keep rfl, s5.keep rfl, Slot.new _ _ _, s8.keep rfl, O0.keep hOW rfl, hO1⟩
          simp only [Act.put, List.setIfInBounds_toArray, List.set_cons_zero, List.set_cons_succ]
        · intro l a wr hI hl hd K' hK
          obtain ⟨u25, u26, u27, u28, u29, u30, u31, u5, ha, s0, s1, s2, s3, s4, s5, s6, s8, O0, hO⟩ := hI
          simp only [Act.put, List.setIfInBounds_toArray, List.set_cons_zero, List.set_cons_succ] at ha
          have q6 := s6 (hd 6 (by decide))
          subst ha q6
          obtain ⟨⟨m0, m1, m2, m3⟩, fz, lt⟩ := zero_cells (O0.was hl)
          go_simp
          refine hK.out _ _ ⟨_, _, _, _, _, _, _, _, ?_, s0.keep rfl, s1.keep rfl, s2.keep rfl, s3.keep rfl, s4.keep rfl, s5.keep rfl, s6.keep rfl, s8.keep rfl, O0.put hl rfl, setCells_in hO (fun _ => rfl) [.int .u64 (wd x 0 : Int), .int .u64 (wd x 1 : Int), .int .u64 (wd x 2 : Int), .int .u64 (wd x 3 : Int)]⟩
          simp only [Act.put, List.setIfInBounds_toArray, List.set_cons_zero, List.set_cons_succ]
        · intro l a wr hI hl hd K' hK
          obtain ⟨u25, u26, u27, u28, u29, u30, u31, u5, ha, s0, s1, s2, s3, s4, s5, s6, s8, O0, hO⟩ := hI
          simp only [Act.put, List.setIfInBounds_toArray, List.set_cons_zero, List.set_cons_succ] at ha
          subst ha
          go_simp
          refine hK.out _ _ ⟨_, _, _, _, _, _, _, _, ?_, s0.keep rfl, s1.keep rfl, s2.keep rfl, s3.keep rfl, s4.keep rfl, s5.keep rfl, s6.keep rfl, Slot.new _ _ _, O0.keep (Off.refl _ wr) rfl, hO⟩
          simp only [Act.put, List.setIfInBounds_toArray, List.set_cons_zero, List.set_cons_succ]
        · intro l a wc hI hd
          obtain ⟨u25, u26, u27, u28, u29, u30, u31, u5, ha, s0, s1, s2, s3, s4, s5, s6, s8, O0, hO⟩ := hI
          simp only [Act.put, List.setIfInBounds_toArray, List.set_cons_zero, List.set_cons_succ] at ha
          have q0 := s0 (hd 0 (by decide))
          have q1 := s1 (hd 1 (by decide))
          have q2 := s2 (hd 2 (by decide))
          have q3 := s3 (hd 3 (by decide))
          have q4 := s4 (hd 4 (by decide))
          have q5 := s5 (hd 5 (by decide))
          have q6 := s6 (hd 6 (by decide))
          have q8 := s8 (hd 8 (by decide))
          have r0 : wc.heap[(w.heap.size + 1)]? = some (.cells #[.int .u64 (wd x 0 : Int), .int .u64 (wd x 1 : Int), .int .u64 (wd x 2 : Int), .int .u64 (wd x 3 : Int)] 66) := O0.now (hd 7 (by decide))
          subst ha q0 q1 q2 q3 q4 q5 q6 q8
          clear hd s0 s1 s2 s3 s4 s5 s6 s8 O0
          have hOf : Off (fun _ => False) w wc := HO3.out.trans hO (fun k hk e => by omega)
          obtain ⟨p0, p1, p2, p3⟩ := cells4 r0
          have HOf := Lib.hid hOf
          clear hOf hO HK3 HR3 HF3 HY3 HZ3 HS3 HO3 r0
          go_wp2
          refine bodyPost_ret (v := .tuple #[V x, .int .i64 0]) (by simp [results, Tryd.results85, go_sem, p0, p1, p2, p3]) rfl ⟨rfl, HOf.out⟩
  · have hd : wideV p bs = (0, 8) := by unfold wideV; rw [if_neg (by omega)]
    have h1 : ¬ ((n : Int) = 64) := by omega
    rw [hd, show V (0, 8).1 = _ from lit_small 0 (by decide)]
    clear hb hn hs hF hd
    go_enter Tryd.func85, Tryd.ntmps85
    go_wp2
    refine bodyPost_ret (v := .tuple #[.agg #[.int .u64 ((0 : Nat) : Int), .int .u64 0, .int .u64 0, .int .u64 0], .int .i64 8]) (by simp [results, Tryd.results85, go_sem]) rfl ⟨rfl, ?_⟩
    exact ((Off.refl _ w).alloc _).alloc _
end
section
open Go.RowKit
attribute [local go_sem ↓] Go.wp_at_zero Go.wp_at_succ
/-- What the reference's Decode returns: the value and the error. -/
def rdecV (p : Nat) (bs : List Nat) : Nat × Nat := if bs.length = 32 then (if numB bs < p then (numB bs, 0) else (0, 9)) else (0, 8)
theorem red_eq {p x : Nat} (h0 : 0 < p) (hx : x < R256) : eqN (redV p x 0 % R256) x = decide (x < p) ∧ redV p x 0 % R256 < R256 := by
  have hR : 0 < R256 := by decide
  refine ⟨?_, Nat.mod_lt _ hR⟩
  unfold redV eqN
  by_cases h : x < p
  · rw [if_pos ⟨by decide, h⟩, Nat.mod_eq_of_lt hx]; simp [h]
  · rw [if_neg (fun c => h c.2)]
    have hs : subV x p % R256 = x - p := by
      unfold subV
      rw [show x + R256 - p = (x - p) + R256 by omega, Nat.add_mod_right, Nat.mod_eq_of_lt (by omega)]
    rw [hs]
    simp [h]
    omega
/-- What the reference's Wide returns. -/
def rwideV (p : Nat) (bs : List Nat) : Nat × Nat := if bs.length = 64 then (numB bs % p, 0) else (0, 8)
theorem rwide_val {p : Nat} {bs : List Nat} (hl : bs.length = 64) : (numB (bs.take 32) % p + radV p 256 * (numB (bs.drop 32) % p) % p) % p = numB bs % p := by
  have h1 := numB_split bs 32 (by omega)
  unfold radV
  rw [h1, ← r256_bytes, ← Nat.mul_mod, ← Nat.add_mod]
set_option maxRecDepth 100000 in
set_option maxHeartbeats 4000000 in
theorem refwide_any (p : Nat) (hp : p < R256) (h1 : 1 < p) (a : Option Addr) (n cap : Nat) (bs : List Nat) (S : Nat → Prop) (w : World) (hb : BsAt w a bs S) (hn : n = bs.length) (hs : Small bs) (hcap : n ≤ cap) :
    Calls Tryd.prog 67 #[V p, .slice a n cap] w fun e w' => e = .returned (.tuple #[V (rwideV p bs).1, .int .i64 ((rwideV p bs).2 : Int)]) ∧ Off (fun _ => False) w w' := by
  by_cases h64 : n = 64
  · obtain ⟨bb, off, rfl, hSb, hcell⟩ := hb (by omega)
    have hlo := numB_r256 (hs.take 32) (by simp; omega)
    have hhi := numB_r256 (hs.drop 32) (by simp; omega)
    have hb0 : BsAt w (some ⟨bb, off, none⟩) bs (fun _ => True) := fun _ => ⟨bb, off, rfl, trivial, hcell⟩
    have HN1 := Lib.hid (fun W (h : Off (fun k => w.heap.size ≤ k) w W) => refnumber_any (some ⟨bb, off, none⟩) 32 cap (bs.take 32) _ W ((hb0.later h).take 32) (by simp; omega) (hs.take 32) (by omega))
    have HN2 := Lib.hid (fun W (h : Off (fun k => w.heap.size ≤ k) w W) => refnumber_any (some ⟨bb, off + 32, none⟩) 32 (cap - 32) (bs.drop 32) _ W ((hb0.later h).drop 32) (by simp; omega) (hs.drop 32) (by omega))
    have hs1 : ∀ W, (Instr.slice 24 (.slice (some ⟨bb, off, none⟩) 64 cap) none (some (.int .i64 32)) none).run Tryd.prog W = .ok (.slice (some ⟨bb, off, none⟩) 32 cap) W := fun W => slice_hi bb off 64 cap 32 (by omega) W
    have hs2 : ∀ W, (Instr.slice 24 (.slice (some ⟨bb, off, none⟩) 64 cap) (some (.int .i64 32)) none none).run Tryd.prog W = .ok (.slice (some ⟨bb, off + 32, none⟩) 32 (cap - 32)) W := fun W => slice_lo bb off 64 cap 32 (by omega) (by omega) W
    have hs3 : (32 : Int) ≤ (cap : Int) := by omega
    have hs4 : cap ≠ 32 := by omega
    have hv := rwide_val (p := p) (show bs.length = 64 by omega)
    have hd : rwideV p bs = (numB bs % p, 0) := by unfold rwideV; rw [if_pos (by omega)]
    rw [hd, ← hv]
    obtain ⟨lo, hlo2⟩ : ∃ lo, lo = numB (bs.take 32) := ⟨_, rfl⟩
    obtain ⟨hi, hhi2⟩ : ∃ hi, hi = numB (bs.drop 32) := ⟨_, rfl⟩
    rw [← hlo2] at HN1 hlo ⊢
    rw [← hhi2] at HN2 hhi ⊢
    have hT1 := fun W => mod_mod p lo hp h1 hlo W
    have hT2 := fun W => mod_mod p hi hp h1 hhi W
    have hX := fun W => mod_radix p hp h1 W
    obtain ⟨y, hy⟩ : ∃ y, y = lo % p := ⟨_, rfl⟩
    obtain ⟨z, hz⟩ : ∃ z, z = hi % p := ⟨_, rfl⟩
    obtain ⟨d, hdd⟩ : ∃ d, d = radV p 256 := ⟨_, rfl⟩
    have hyp : y < p := by rw [hy]; exact Nat.mod_lt _ (by omega)
    have hzp : z < p := by rw [hz]; exact Nat.mod_lt _ (by omega)
    have hdp : d < p := by rw [hdd]; exact Nat.mod_lt _ (by omega)
    rw [← hy] at hT1 ⊢
    rw [← hz] at hT2 ⊢
    rw [← hdd] at hX ⊢
    have hM := fun W => mod_mul p d z hp h1 hdp (by omega) W
    have hmz : d * z % p < p := Nat.mod_lt _ (by omega)
    obtain ⟨m, hm⟩ : ∃ m, m = d * z % p := ⟨_, rfl⟩
    rw [← hm] at hM hmz ⊢
    have hA := fun W => mod_add p y m hp hyp hmz W
    obtain ⟨x, hx⟩ : ∃ x, x = (y + m) % p := ⟨_, rfl⟩
    rw [← hx] at hA ⊢
    have HT1 := Lib.hid hT1
    have HT2 := Lib.hid hT2
    have HX := Lib.hid hX
    have HM := Lib.hid hM
    have HA := Lib.hid hA
    clear hT1 hT2 hX hM hA hb0 hcell hSb hb hn hs hlo hhi hv hd hp h1 hlo2 hhi2 hy hz hdd hyp hzp hdp hmz hm hx hcap
    subst h64
    go_enter Tryd.func67, Tryd.ntmps67
    obtain ⟨W0, hW0⟩ : ∃ W0, W0 = (w.alloc (.cells #[.int .u64 (wd p 0 : Int), .int .u64 (wd p 1 : Int), .int .u64 (wd p 2 : Int), .int .u64 (wd p 3 : Int)] 51)).alloc (.cells #[.int .u64 0, .int .u64 0, .int .u64 0, .int .u64 0] 51) := ⟨_, rfl⟩
    have HF0 := Lib.hid (show W0.heap[w.heap.size]? = some (.cells #[.int .u64 (wd p 0 : Int), .int .u64 (wd p 1 : Int), .int .u64 (wd p 2 : Int), .int .u64 (wd p 3 : Int)] 51) by rw [hW0]; exact heap_old' (heap_new' rfl _) _)
    have HR0 := Lib.hid (show W0.heap[w.heap.size + 1]? = some (.cells #[.int .u64 0, .int .u64 0, .int .u64 0, .int .u64 0] 51) by rw [hW0]; exact heap_new' (by simp) _)
    have HO0 := Lib.hid (show Off (fun _ => False) w W0 by rw [hW0]; exact (((Off.refl (fun _ => False) w).alloc _).alloc _))
    have HK0 : Hid (∀ W, Off (fun _ => False) W0 W → (W.cell? ⟨w.heap.size, 0, none⟩ = some (.int .u64 (wd p 0 : Int)) ∧ W.cell? ⟨w.heap.size, 1, none⟩ = some (.int .u64 (wd p 1 : Int)) ∧ W.cell? ⟨w.heap.size, 2, none⟩ = some (.int .u64 (wd p 2 : Int)) ∧ W.cell? ⟨w.heap.size, 3, none⟩ = some (.int .u64 (wd p 3 : Int))) ∧ Off (fun _ => False) W0 W) := Lib.hid (fun W h => ⟨cells4 (h.heap HF0.out (fun c => c)), h⟩)
    have HW0 := Lib.hid hW0
    clear hW0
    go_upto_region 3 with fail
    rw [← HW0.out]
    refine wp_region_inv (fun a0 l a' w' => ∃ (u12 : Value) (u13 : Value) (u14 : Value) (u15 : Value) (u16 : Value) (u6 : Value) (b6 : Nat), a' = (Act.put (Act.put (Act.put (Act.put (Act.put (Act.put a0 (some 12) u12) (some 13) u13) (some 14) u14) (some 15) u15) (some 16) u16) (some 6) u6) ∧ Slot l 0 u12 (V p) ∧ Slot l 1 u13 (.slice (some ⟨bb, off, none⟩) 64 cap) ∧ Slot l 2 u14 (.slice (some ⟨bb, off, none⟩) 32 cap) ∧ Slot l 3 u15 (V lo) ∧ Slot l 4 u16 (V y) ∧ Blk l 5 6 u6 b6 W0 w' (.cells #[.int .u64 0, .int .u64 0, .int .u64 0, .int .u64 0] 51) (.cells #[.int .u64 (wd y 0 : Int), .int .u64 (wd y 1 : Int), .int .u64 (wd y 2 : Int), .int .u64 (wd y 3 : Int)] 51) ∧ Off (fun _ => False) W0 w') (by kernel_rfl) (by kernel_rfl) ?_ ⟨?_, ?_, ?_, ?_, ?_, ?_, ?_, trivial⟩ ?_
    · refine ⟨?z12, ?z13, ?z14, ?z15, ?z16, ?z6, 0, ?fr, Slot.start _ _ _, Slot.start _ _ _, Slot.start _ _ _, Slot.start _ _ _, Slot.start _ _ _, Blk.start _ _ _ _ _ _ _ _, (Off.refl _ W0).drew⟩
      case fr => first | (simp only [Act.put, List.setIfInBounds_toArray, List.set_cons_zero, List.set_cons_succ]; rfl) | simp only [Act.put, List.setIfInBounds_toArray, List.set_cons_zero, List.set_cons_succ]
    · intro l a wr hI hl hd K' hK
      obtain ⟨u12, u13, u14, u15, u16, u6, b6, ha, s0, s1, s2, s3, s4, B5, hO⟩ := hI
      simp only [Act.put, List.setIfInBounds_toArray, List.set_cons_zero, List.set_cons_succ] at ha
      subst ha
      have hc := HK0.out wr hO
      have p0 := hc.1.1
      have p1 := hc.1.2.1
      have p2 := hc.1.2.2.1
      have p3 := hc.1.2.2.2
      clear hc
      go_simp
      refine hK.out _ _ ⟨_, _, _, _, _, _, _, ?_, Slot.new _ _ _, s1.keep rfl, s2.keep rfl, s3.keep rfl, s4.keep rfl, B5.keep (Off.refl _ wr) rfl rfl, hO⟩
      simp only [Act.put, List.setIfInBounds_toArray, List.set_cons_zero, List.set_cons_succ]
    · intro l a wr hI hl hd K' hK
      obtain ⟨u12, u13, u14, u15, u16, u6, b6, ha, s0, s1, s2, s3, s4, B5, hO⟩ := hI
      simp only [Act.put, List.setIfInBounds_toArray, List.set_cons_zero, List.set_cons_succ] at ha
      subst ha
      go_simp
      refine hK.out _ _ ⟨_, _, _, _, _, _, _, ?_, s0.keep rfl, Slot.new _ _ _, s2.keep rfl, s3.keep rfl, s4.keep rfl, B5.keep (Off.refl _ wr) rfl rfl, hO⟩
      simp only [Act.put, List.setIfInBounds_toArray, List.set_cons_zero, List.set_cons_succ]
    · intro l a wr hI hl hd K' hK
      obtain ⟨u12, u13, u14, u15, u16, u6, b6, ha, s0, s1, s2, s3, s4, B5, hO⟩ := hI
      simp only [Act.put, List.setIfInBounds_toArray, List.set_cons_zero, List.set_cons_succ] at ha
      have q1 := s1 (hd 1 (by decide))
      subst ha q1
      go_simp
      refine hK.out _ _ ⟨_, _, _, _, _, _, _, ?_, s0.keep rfl, s1.keep rfl, Slot.new _ _ _, s3.keep rfl, s4.keep rfl, B5.keep (Off.refl _ wr) rfl rfl, hO⟩
      simp only [Act.put, List.setIfInBounds_toArray, List.set_cons_zero, List.set_cons_succ]
    · intro l a wr hI hl hd K' hK
      obtain ⟨u12, u13, u14, u15, u16, u6, b6, ha, s0, s1, s2, s3, s4, B5, hO⟩ := hI
      simp only [Act.put, List.setIfInBounds_toArray, List.set_cons_zero, List.set_cons_succ] at ha
      have q2 := s2 (hd 2 (by decide))
      subst ha q2
      go_simp
      refine (held_inv (HN1.out wr ((HO0.out.trans hO (fun _ _ c => c)).mono (S' := fun k => w.heap.size ≤ k) (fun _ _ c => c.elim))) hO).mono ?_
      rintro e w1 ⟨rfl, hO1, hOW⟩
      go_wp2_with fail
      refine hK.out _ _ ⟨_, _, _, _, _, _, _, ?_, s0.keep rfl, s1.keep rfl, s2.keep rfl, Slot.new _ _ _, s4.keep rfl, B5.keep hOW rfl rfl, hO1⟩
      simp only [Act.put, List.setIfInBounds_toArray, List.set_cons_zero, List.set_cons_succ]
    · intro l a wr hI hl hd K' hK
      obtain ⟨u12, u13, u14, u15, u16, u6, b6, ha, s0, s1, s2, s3, s4, B5, hO⟩ := hI
      simp only [Act.put, List.setIfInBounds_toArray, List.set_cons_zero, List.set_cons_succ] at ha
      have q0 := s0 (hd 0 (by decide))
      have q3 := s3 (hd 3 (by decide))
      subst ha q0 q3
      go_simp
      refine (held_inv (HT1.out wr) hO).mono ?_
      rintro e w1 ⟨rfl, hO1, hOW⟩
      go_wp2_with fail
      refine hK.out _ _ ⟨_, _, _, _, _, _, _, ?_, s0.keep rfl, s1.keep rfl, s2.keep rfl, s3.keep rfl, Slot.new _ _ _, B5.keep hOW rfl rfl, hO1⟩
      simp only [Act.put, List.setIfInBounds_toArray, List.set_cons_zero, List.set_cons_succ]
    · intro l a wr hI hl hd K' hK
      obtain ⟨u12, u13, u14, u15, u16, u6, b6, ha, s0, s1, s2, s3, s4, B5, hO⟩ := hI
      simp only [Act.put, List.setIfInBounds_toArray, List.set_cons_zero, List.set_cons_succ] at ha
      subst ha
      go_simp
      refine hK.out _ _ ⟨_, _, _, _, _, _, _, ?_, s0.keep rfl, s1.keep rfl, s2.keep rfl, s3.keep rfl, s4.keep rfl, B5.make hl rfl hO, hO.alloc _⟩
      simp only [Act.put, List.setIfInBounds_toArray, List.set_cons_zero, List.set_cons_succ]
    · intro l a wr hI hl hd K' hK
      obtain ⟨u12, u13, u14, u15, u16, u6, b6, ha, s0, s1, s2, s3, s4, B5, hO⟩ := hI
      simp only [Act.put, List.setIfInBounds_toArray, List.set_cons_zero, List.set_cons_succ] at ha
      have h5 := hd 5 (by decide)
      have q5 := B5.ptr h5
      have q4 := s4 (hd 4 (by decide))
      subst ha q5 q4
      obtain ⟨⟨m0, m1, m2, m3⟩, fz, lt⟩ := zero_cells (B5.was h5 hl)
      go_simp
      refine hK.out _ _ ⟨_, _, _, _, _, _, _, ?_, s0.keep rfl, s1.keep rfl, s2.keep rfl, s3.keep rfl, s4.keep rfl, B5.put hl h5 rfl rfl, setCells_in hO (fun c => absurd c (Nat.not_lt.2 (B5.new h5))) [.int .u64 (wd y 0 : Int), .int .u64 (wd y 1 : Int), .int .u64 (wd y 2 : Int), .int .u64 (wd y 3 : Int)]⟩
      simp only [Act.put, List.setIfInBounds_toArray, List.set_cons_zero, List.set_cons_succ]
    · intro l a wc hI hd
      obtain ⟨u12, u13, u14, u15, u16, u6, b6, ha, s0, s1, s2, s3, s4, B5, hO⟩ := hI
      simp only [Act.put, List.setIfInBounds_toArray, List.set_cons_zero, List.set_cons_succ] at ha
      have q0 := s0 (hd 0 (by decide))
      have q1 := s1 (hd 1 (by decide))
      have q2 := s2 (hd 2 (by decide))
      have q3 := s3 (hd 3 (by decide))
      have q4 := s4 (hd 4 (by decide))
      have q5 := B5.ptr (hd 5 (by decide))
      have n6 : wc.heap[b6]? = some (.cells #[.int .u64 (wd y 0 : Int), .int .u64 (wd y 1 : Int), .int .u64 (wd y 2 : Int), .int .u64 (wd y 3 : Int)] 51) := B5.now (hd 5 (by decide)) (hd 6 (by decide))
      have v6 := B5.new (hd 5 (by decide))
      subst ha q0 q1 q2 q3 q4 q5
      clear hd s0 s1 s2 s3 s4 B5
      obtain ⟨W1, hW1⟩ : ∃ W1, W1 = wc := ⟨_, rfl⟩
      subst hW1
      have HF1 := Lib.hid (hO.heap HF0.out (fun c => c))
      have HR1 := Lib.hid (hO.heap HR0.out (fun c => c))
      have HO1 := Lib.hid (HO0.out.trans hO (fun _ _ c => c))
      have HY1 := Lib.hid n6
      have HYN := Lib.hid (show w.heap.size + 1 < b6 from Nat.lt_of_lt_of_le (heap_lt HR0.out) v6)
      have HK1 : Hid (∀ W, Off (fun _ => False) W1 W → (W.cell? ⟨w.heap.size, 0, none⟩ = some (.int .u64 (wd p 0 : Int)) ∧ W.cell? ⟨w.heap.size, 1, none⟩ = some (.int .u64 (wd p 1 : Int)) ∧ W.cell? ⟨w.heap.size, 2, none⟩ = some (.int .u64 (wd p 2 : Int)) ∧ W.cell? ⟨w.heap.size, 3, none⟩ = some (.int .u64 (wd p 3 : Int))) ∧ Off (fun _ => False) W1 W) := Lib.hid (fun W h => ⟨cells4 (h.heap HF1.out (fun c => c)), h⟩)
      clear hO n6 v6 HW0 HK0 HF0 HR0 HO0 HN1 HT1 l
      go_upto_region 4 with fail
      refine wp_region_inv (fun a0 l a' w' => ∃ (u17 : Value) (u18 : Value) (u19 : Value) (u20 : Value) (u21 : Value) (u7 : Value) (b7 : Nat), a' = (Act.put (Act.put (Act.put (Act.put (Act.put (Act.put a0 (some 17) u17) (some 18) u18) (some 19) u19) (some 20) u20) (some 21) u21) (some 7) u7) ∧ Slot l 0 u17 (V p) ∧ Slot l 1 u18 (.slice (some ⟨bb, off, none⟩) 64 cap) ∧ Slot l 2 u19 (.slice (some ⟨bb, off + 32, none⟩) 32 (cap - 32)) ∧ Slot l 3 u20 (V hi) ∧ Slot l 4 u21 (V z) ∧ Blk l 5 6 u7 b7 W1 w' (.cells #[.int .u64 0, .int .u64 0, .int .u64 0, .int .u64 0] 51) (.cells #[.int .u64 (wd z 0 : Int), .int .u64 (wd z 1 : Int), .int .u64 (wd z 2 : Int), .int .u64 (wd z 3 : Int)] 51) ∧ Off (fun _ => False) W1 w') (by kernel_rfl) (by kernel_rfl) ?_ ⟨?_, ?_, ?_, ?_, ?_, ?_, ?_, trivial⟩ ?_
      · refine ⟨?z17, ?z18, ?z19, ?z20, ?z21, ?z7, 0, ?fr, Slot.start _ _ _, Slot.start _ _ _, Slot.start _ _ _, Slot.start _ _ _, Slot.start _ _ _, Blk.start _ _ _ _ _ _ _ _, (Off.refl _ W1).drew⟩
        case fr => first | (simp only [Act.put, List.setIfInBounds_toArray, List.set_cons_zero, List.set_cons_succ]; rfl) | simp only [Act.put, List.setIfInBounds_toArray, List.set_cons_zero, List.set_cons_succ]
      · intro l a wr hI hl hd K' hK
        obtain ⟨u17, u18, u19, u20, u21, u7, b7, ha, s0, s1, s2, s3, s4, B5, hO⟩ := hI
        simp only [Act.put, List.setIfInBounds_toArray, List.set_cons_zero, List.set_cons_succ] at ha
        subst ha
        have hc := HK1.out wr hO
        have p0 := hc.1.1
        have p1 := hc.1.2.1
        have p2 := hc.1.2.2.1
        have p3 := hc.1.2.2.2
        clear hc
        go_simp
        refine hK.out _ _ ⟨_, _, _, _, _, _, _, ?_, Slot.new _ _ _, s1.keep rfl, s2.keep rfl, s3.keep rfl, s4.keep rfl, B5.keep (Off.refl _ wr) rfl rfl, hO⟩
        simp only [Act.put, List.setIfInBounds_toArray, List.set_cons_zero, List.set_cons_succ]
      · intro l a wr hI hl hd K' hK
        obtain ⟨u17, u18, u19, u20, u21, u7, b7, ha, s0, s1, s2, s3, s4, B5, hO⟩ := hI
        simp only [Act.put, List.setIfInBounds_toArray, List.set_cons_zero, List.set_cons_succ] at ha
        subst ha
        go_simp
        refine hK.out _ _ ⟨_, _, _, _, _, _, _, ?_, s0.keep rfl, Slot.new _ _ _, s2.keep rfl, s3.keep rfl, s4.keep rfl, B5.keep (Off.refl _ wr) rfl rfl, hO⟩
        simp only [Act.put, List.setIfInBounds_toArray, List.set_cons_zero, List.set_cons_succ]
      · intro l a wr hI hl hd K' hK
        obtain ⟨u17, u18, u19, u20, u21, u7, b7, ha, s0, s1, s2, s3, s4, B5, hO⟩ := hI
        simp only [Act.put, List.setIfInBounds_toArray, List.set_cons_zero, List.set_cons_succ] at ha
        have q1 := s1 (hd 1 (by decide))
        subst ha q1
        go_simp
        refine hK.out _ _ ⟨_, _, _, _, _, _, _, ?_, s0.keep rfl, s1.keep rfl, Slot.new _ _ _, s3.keep rfl, s4.keep rfl, B5.keep (Off.refl _ wr) rfl rfl, hO⟩
        simp only [Act.put, List.setIfInBounds_toArray, List.set_cons_zero, List.set_cons_succ]
      · intro l a wr hI hl hd K' hK
        obtain ⟨u17, u18, u19, u20, u21, u7, b7, ha, s0, s1, s2, s3, s4, B5, hO⟩ := hI
        simp only [Act.put, List.setIfInBounds_toArray, List.set_cons_zero, List.set_cons_succ] at ha
        have q2 := s2 (hd 2 (by decide))
        subst ha q2
        go_simp
        refine (held_inv (HN2.out wr ((HO1.out.trans hO (fun _ _ c => c)).mono (S' := fun k => w.heap.size ≤ k) (fun _ _ c => c.elim))) hO).mono ?_
        rintro e w1 ⟨rfl, hO1, hOW⟩
        go_wp2_with fail
        refine hK.out _ _ ⟨_, _, _, _, _, _, _, ?_, s0.keep rfl, s1.keep rfl, s2.keep rfl, Slot.new _ _ _, s4.keep rfl, B5.keep hOW rfl rfl, hO1⟩
        simp only [Act.put, List.setIfInBounds_toArray, List.set_cons_zero, List.set_cons_succ]
      · intro l a wr hI hl hd K' hK
        obtain ⟨u17, u18, u19, u20, u21, u7, b7, ha, s0, s1, s2, s3, s4, B5, hO⟩ := hI
        simp only [Act.put, List.setIfInBounds_toArray, List.set_cons_zero, List.set_cons_succ] at ha
        have q0 := s0 (hd 0 (by decide))
        have q3 := s3 (hd 3 (by decide))
        subst ha q0 q3
        go_simp
        refine (held_inv (HT2.out wr) hO).mono ?_
        rintro e w1 ⟨rfl, hO1, hOW⟩
        go_wp2_with fail
        refine hK.out _ _ ⟨_, _, _, _, _, _, _, ?_, s0.keep rfl, s1.keep rfl, s2.keep rfl, s3.keep rfl, Slot.new _ _ _, B5.keep hOW rfl rfl, hO1⟩
        simp only [Act.put, List.setIfInBounds_toArray, List.set_cons_zero, List.set_cons_succ]
      · intro l a wr hI hl hd K' hK
        obtain ⟨u17, u18, u19, u20, u21, u7, b7, ha, s0, s1, s2, s3, s4, B5, hO⟩ := hI
        simp only [Act.put, List.setIfInBounds_toArray, List.set_cons_zero, List.set_cons_succ] at ha
        subst ha
        go_simp
        refine hK.out _ _ ⟨_, _, _, _, _, _, _, ?_, s0.keep rfl, s1.keep rfl, s2.keep rfl, s3.keep rfl, s4.keep rfl, B5.make hl rfl hO, hO.alloc _⟩
        simp only [Act.put, List.setIfInBounds_toArray, List.set_cons_zero, List.set_cons_succ]
      · intro l a wr hI hl hd K' hK
        obtain ⟨u17, u18, u19, u20, u21, u7, b7, ha, s0, s1, s2, s3, s4, B5, hO⟩ := hI
        simp only [Act.put, List.setIfInBounds_toArray, List.set_cons_zero, List.set_cons_succ] at ha
        have h5 := hd 5 (by decide)
        have q5 := B5.ptr h5
        have q4 := s4 (hd 4 (by decide))
        subst ha q5 q4
        obtain ⟨⟨m0, m1, m2, m3⟩, fz, lt⟩ := zero_cells (B5.was h5 hl)
        go_simp
        refine hK.out _ _ ⟨_, _, _, _, _, _, _, ?_, s0.keep rfl, s1.keep rfl, s2.keep rfl, s3.keep rfl, s4.keep rfl, B5.put hl h5 rfl rfl, setCells_in hO (fun c => absurd c (Nat.not_lt.2 (B5.new h5))) [.int .u64 (wd z 0 : Int), .int .u64 (wd z 1 : Int), .int .u64 (wd z 2 : Int), .int .u64 (wd z 3 : Int)]⟩
        simp only [Act.put, List.setIfInBounds_toArray, List.set_cons_zero, List.set_cons_succ]
      · intro l a wc hI hd
        obtain ⟨u17, u18, u19, u20, u21, u7, b7, ha, s0, s1, s2, s3, s4, B5, hO⟩ := hI
        simp only [Act.put, List.setIfInBounds_toArray, List.set_cons_zero, List.set_cons_succ] at ha
        have q0 := s0 (hd 0 (by decide))
        have q1 := s1 (hd 1 (by decide))
        have q2 := s2 (hd 2 (by decide))
        have q3 := s3 (hd 3 (by decide))
        have q4 := s4 (hd 4 (by decide))
        have q5 := B5.ptr (hd 5 (by decide))
        have n7 : wc.heap[b7]? = some (.cells #[.int .u64 (wd z 0 : Int), .int .u64 (wd z 1 : Int), .int .u64 (wd z 2 : Int), .int .u64 (wd z 3 : Int)] 51) := B5.now (hd 5 (by decide)) (hd 6 (by decide))
        have v7 := B5.new (hd 5 (by decide))
        subst ha q0 q1 q2 q3 q4 q5
        clear hd s0 s1 s2 s3 s4 B5
        obtain ⟨W3, hW2⟩ : ∃ W3, W3 = wc := ⟨_, rfl⟩
        subst hW2
        have HR3 := Lib.hid (hO.heap HR1.out (fun c => c))
        have HF3 := Lib.hid (hO.heap HF1.out (fun c => c))
        have HY3 := Lib.hid (hO.heap HY1.out (fun c => c))
        have HZ3 := Lib.hid n7
        have HO3 := Lib.hid (HO1.out.trans hO (fun _ _ c => c))
        have l6 : b6 ≠ w.heap.size + 1 := by have h2 := HYN.out; omega
        have l7 : b7 ≠ w.heap.size + 1 := by have h1 := heap_lt HR1.out; omega
        have HK3 : Hid (∀ W, Off (fun k => k = (w.heap.size + 1)) W3 W → (W.cell? ⟨w.heap.size, 0, none⟩ = some (.int .u64 (wd p 0 : Int)) ∧ W.cell? ⟨w.heap.size, 1, none⟩ = some (.int .u64 (wd p 1 : Int)) ∧ W.cell? ⟨w.heap.size, 2, none⟩ = some (.int .u64 (wd p 2 : Int)) ∧ W.cell? ⟨w.heap.size, 3, none⟩ = some (.int .u64 (wd p 3 : Int))) ∧ (W.cell? ⟨b6, 0, none⟩ = some (.int .u64 (wd y 0 : Int)) ∧ W.cell? ⟨b6, 1, none⟩ = some (.int .u64 (wd y 1 : Int)) ∧ W.cell? ⟨b6, 2, none⟩ = some (.int .u64 (wd y 2 : Int)) ∧ W.cell? ⟨b6, 3, none⟩ = some (.int .u64 (wd y 3 : Int))) ∧ (W.cell? ⟨b7, 0, none⟩ = some (.int .u64 (wd z 0 : Int)) ∧ W.cell? ⟨b7, 1, none⟩ = some (.int .u64 (wd z 1 : Int)) ∧ W.cell? ⟨b7, 2, none⟩ = some (.int .u64 (wd z 2 : Int)) ∧ W.cell? ⟨b7, 3, none⟩ = some (.int .u64 (wd z 3 : Int))) ∧ Off (fun k => k = (w.heap.size + 1)) W3 W) := Lib.hid (fun W h => ⟨cells4 (h.heap HF3.out (by omega)), cells4 (h.heap HY3.out l6), cells4 (h.heap HZ3.out l7), h⟩)
        clear hO n7 v7 HN2 HT2 HK1 HF1 HR1 HO1 HY1
        go_upto_region 5 with fail
        refine wp_region_inv (fun a0 l a' w' => ∃ (u22 : Value) (u23 : Value) (u24 : Value) (u25 : Value) (u26 : Value) (u27 : Value) (u28 : Value) (u29 : Value) (u5 : Value), a' = (Act.put (Act.put (Act.put (Act.put (Act.put (Act.put (Act.put (Act.put (Act.put a0 (some 22) u22) (some 23) u23) (some 24) u24) (some 25) u25) (some 26) u26) (some 27) u27) (some 28) u28) (some 29) u29) (some 5) u5) ∧ Slot l 0 u22 (V p) ∧ Slot l 1 u23 (V y) ∧ Slot l 2 u24 (V p) ∧ Slot l 3 u25 (V p) ∧ Slot l 4 u26 (V d) ∧ Slot l 5 u27 (V z) ∧ Slot l 6 u28 (V m) ∧ Slot l 7 u29 (V x) ∧ Slot l 9 u5 (.int .i64 0) ∧ Old l 8 (w.heap.size + 1) W3 w' (.cells #[.int .u64 0, .int .u64 0, .int .u64 0, .int .u64 0] 51) (.cells #[.int .u64 (wd x 0 : Int), .int .u64 (wd x 1 : Int), .int .u64 (wd x 2 : Int), .int .u64 (wd x 3 : Int)] 51) ∧ Off (fun k => k = (w.heap.size + 1)) W3 w') (by kernel_rfl) (by kernel_rfl) ?_ ⟨?_, ?_, ?_, ?_, ?_, ?_, ?_, ?_, ?_, ?_, trivial⟩ ?_
        · refine ⟨?z22, ?z23, ?z24, ?z25, ?z26, ?z27, ?z28, ?z29, ?z5, ?fr, Slot.start _ _ _, Slot.start _ _ _, Slot.start _ _ _, Slot.start _ _ _, Slot.start _ _ _, Slot.start _ _ _, Slot.start _ _ _, Slot.start _ _ _, Slot.start _ _ _, Old.start HR3.out _ _, (Off.refl _ W3).drew⟩
          case fr => first | (simp only [Act.put, List.setIfInBounds_toArray, List.set_cons_zero, List.set_cons_succ]; rfl) | simp only [Act.put, List.setIfInBounds_toArray, List.set_cons_zero, List.set_cons_succ]
        · intro l a wr hI hl hd K' hK
          obtain ⟨u22, u23, u24, u25, u26, u27, u28, u29, u5, ha, s0, s1, s2, s3, s4, s5, s6, s7, s9, O0, hO⟩ := hI
          simp only [Act.put, List.setIfInBounds_toArray, List.set_cons_zero, List.set_cons_succ] at ha
          subst ha
          have hc := HK3.out wr hO
          have p0 := hc.1.1
          have p1 := hc.1.2.1
          have p2 := hc.1.2.2.1
          have p3 := hc.1.2.2.2
          clear hc
          go_simp
          refine hK.out _ _ ⟨_, _, _, _, _, _, _, _, _, ?_, Slot.new _ _ _, s1.keep rfl, s2.keep rfl, s3.keep rfl, s4.keep rfl, s5.keep rfl, s6.keep rfl, s7.keep rfl, s9.keep rfl, O0.keep (Off.refl _ wr) rfl, hO⟩
          simp only [Act.put, List.setIfInBounds_toArray, List.set_cons_zero, List.set_cons_succ]
        · intro l a wr hI hl hd K' hK
          obtain ⟨u22, u23, u24, u25, u26, u27, u28, u29, u5, ha, s0, s1, s2, s3, s4, s5, s6, s7, s9, O0, hO⟩ := hI
          simp only [Act.put, List.setIfInBounds_toArray, List.set_cons_zero, List.set_cons_succ] at ha
          subst ha
          have hc := HK3.out wr hO
          have p0 := hc.2.1.1
          have p1 := hc.2.1.2.1
          have p2 := hc.2.1.2.2.1
          have p3 := hc.2.1.2.2.2
          clear hc
          go_simp
          refine hK.out _ _ ⟨_, _, _, _, _, _, _, _, _, ?_, s0.keep rfl, Slot.new _ _ _, s2.keep rfl, s3.keep rfl, s4.keep rfl, s5.keep rfl, s6.keep rfl, s7.keep rfl, s9.keep rfl, O0.keep (Off.refl _ wr) rfl, hO⟩
          simp only [Act.put, List.setIfInBounds_toArray, List.set_cons_zero, List.set_cons_succ]
        · intro l a wr hI hl hd K' hK
          obtain ⟨u22, u23, u24, u25, u26, u27, u28, u29, u5, ha, s0, s1, s2, s3, s4, s5, s6, s7, s9, O0, hO⟩ := hI
          simp only [Act.put, List.setIfInBounds_toArray, List.set_cons_zero, List.set_cons_succ] at ha
          subst ha
          have hc := HK3.out wr hO
          have p0 := hc.1.1
          have p1 := hc.1.2.1
          have p2 := hc.1.2.2.1
          have p3 := hc.1.2.2.2
          clear hc
          go_simp
          refine hK.out _ _ ⟨_, _, _, _, _, _, _, _, _, ?_, s0.keep rfl, s1.keep rfl, Slot.new _ _ _, s3.keep rfl, s4.keep rfl, s5.keep rfl, s6.keep rfl, s7.keep rfl, s9.keep rfl, O0.keep (Off.refl _ wr) rfl, hO⟩
          simp only [Act.put, List.setIfInBounds_toArray, List.set_cons_zero, List.set_cons_succ]
        · intro l a wr hI hl hd K' hK
          obtain ⟨u22, u23, u24, u25, u26, u27, u28, u29, u5, ha, s0, s1, s2, s3, s4, s5, s6, s7, s9, O0, hO⟩ := hI
          simp only [Act.put, List.setIfInBounds_toArray, List.set_cons_zero, List.set_cons_succ] at ha
          subst ha
          have hc := HK3.out wr hO
          have p0 := hc.1.1
          have p1 := hc.1.2.1
          have p2 := hc.1.2.2.1
          have p3 := hc.1.2.2.2
          clear hc
          go_simp
          refine hK.out _ _ ⟨_, _, _, _, _, _, _, _, _, ?_, s0.keep rfl, s1.keep rfl, s2.keep rfl, Slot.new _ _ _, s4.keep rfl, s5.keep rfl, s6.keep rfl, s7.keep rfl, s9.keep rfl, O0.keep (Off.refl _ wr) rfl, hO⟩
          simp only [Act.put, List.setIfInBounds_toArray, List.set_cons_zero, List.set_cons_succ]
        · intro l a wr hI hl hd K' hK
          obtain ⟨u22, u23, u24, u25, u26, u27, u28, u29, u5, ha, s0, s1, s2, s3, s4, s5, s6, s7, s9, O0, hO⟩ := hI
          simp only [Act.put, List.setIfInBounds_toArray, List.set_cons_zero, List.set_cons_succ] at ha
          have q3 := s3 (hd 3 (by decide))
          subst ha q3
          go_simp
          refine (held_inv (HX.out wr) hO).mono ?_
          rintro e w1 ⟨rfl, hO1, hOW⟩
          go_wp2_with fail
          refine hK.out _ _ ⟨_, _, _, _, _, _, _, _, _, ?_, s0.keep rfl, s1.keep rfl, s2.keep rfl, s3.keep rfl, Slot.new _ _ _, s5.keep rfl, s6.keep rfl, s7.keep rfl, s9.keep rfl, O0.keep hOW rfl, hO1⟩
          simp only [Act.put, List.setIfInBounds_toArray, List.set_cons_zero, List.set_cons_succ]
        · intro l a wr hI hl hd K' hK
          obtain ⟨u22, u23, u24, u25, u26, u27, u28, u29, u5, ha, s0, s1, s2, s3, s4, s5, s6, s7, s9, O0, hO⟩ := hI
          simp only [Act.put, List.setIfInBounds_toArray, List.set_cons_zero, List.set_cons_succ] at ha
          subst ha
          have hc := HK3.out wr hO
          have p0 := hc.2.2.1.1
          have p1 := hc.2.2.1.2.1
          have p2 := hc.2.2.1.2.2.1
          have p3 := hc.2.2.1.2.2.2
          clear hc
          go_simp
          refine hK.out _ _ ⟨_, _, _, _, _, _, _, _, _, ?_, s0.keep rfl, s1.keep rfl, s2.keep rfl, s3.keep rfl, s4.keep rfl, Slot.new _ _ _, s6.keep rfl, s7.keep rfl, s9.keep rfl, O0.keep (Off.refl _ wr) rfl, hO⟩
          simp only [Act.put, List.setIfInBounds_toArray, List.set_cons_zero, List.set_cons_succ]
        · intro l a wr hI hl hd K' hK
          obtain ⟨u22, u23, u24, u25, u26, u27, u28, u29, u5, ha, s0, s1, s2, s3, s4, s5, s6, s7, s9, O0, hO⟩ := hI
          simp only [Act.put, List.setIfInBounds_toArray, List.set_cons_zero, List.set_cons_succ] at ha
          have q2 := s2 (hd 2 (by decide))
          have q4 := s4 (hd 4 (by decide))
          have q5 := s5 (hd 5 (by decide))
          subst ha q2 q4 q5
          go_simp
          refine (held_inv (HM.out wr) hO).mono ?_
          rintro e w1 ⟨rfl, hO1, hOW⟩
          go_wp2_with fail
          refine hK.out _ _ ⟨_, _, _, _, _, _, _, _, _, ?_, s0.keep rfl, s1.keep rfl, s2.keep rfl, s3.keep rfl, s4.keep rfl, s5.keep rfl, Slot.new _ _ _, s7.keep rfl, s9.keep rfl, O0.keep hOW rfl, hO1⟩
          simp only [Act.put, List.setIfInBounds_toArray, List.set_cons_zero, List.set_cons_succ]
        · intro l a wr hI hl hd K' hK
          obtain ⟨u22, u23, u24, u25, u26, u27, u28, u29, u5, ha, s0, s1, s2, s3, s4, s5, s6, s7, s9, O0, hO⟩ := hI
          simp only [Act.put, List.setIfInBounds_toArray, List.set_cons_zero, List.set_cons_succ] at ha
          have q0 := s0 (hd 0 (by decide))
          have q1 := s1 (hd 1 (by decide))
          have q6 := s6 (hd 6 (by decide))
          subst ha q0 q1 q6
          go_simp
          refine (held_inv (HA.out wr) hO).mono ?_
          rintro e w1 ⟨rfl, hO1, hOW⟩
          go_wp2_with fail
          refine hK.out _ _ ⟨_, _, _, _, _, _, _, _, _, ?_, s0.keep rfl, s1.keep rfl, s2.keep rfl, s3.keep rfl, s4.keep rfl, s5.keep rfl, s6.keep rfl, Slot.new _ _ _, s9.keep rfl, O0.keep hOW rfl, hO1⟩
          simp only [Act.put, List.setIfInBounds_toArray, List.set_cons_zero, List.set_cons_succ]
        · intro l a wr hI hl hd K' hK
          obtain ⟨u22, u23, u24, u25, u26, u27, u28, u29, u5, ha, s0, s1, s2, s3, s4, s5, s6, s7, s9, O0, hO⟩ := hI
          simp only [Act.put, List.setIfInBounds_toArray, List.set_cons_zero, List.set_cons_succ] at ha
          have q7 := s7 (hd 7 (by decide))
          subst ha q7
          obtain ⟨⟨m0, m1, m2, m3⟩, fz, lt⟩ := zero_cells (O0.was hl)
          go_simp
          refine hK.out _ _ ⟨_, _, _, _, _, _, _, _, _, ?_, s0.keep rfl, s1.keep rfl, s2.keep rfl, s3.keep rfl, s4.keep rfl, s5.keep rfl, s6.keep rfl, s7.keep rfl, s9.keep rfl, O0.put hl rfl, setCells_in hO (fun _ => rfl) [.int .u64 (wd x 0 : Int), .int .u64 (wd x 1 : Int), .int .u64 (wd x 2 : Int), .int .u64 (wd x 3 : Int)]⟩
          simp only [Act.put, List.setIfInBounds_toArray, List.set_cons_zero, List.set_cons_succ]
        · intro l a wr hI hl hd K' hK
          obtain ⟨u22, u23, u24, u25, u26, u27, u28, u29, u5, ha, s0, s1, s2, s3, s4, s5, s6, s7, s9, O0, hO⟩ := hI
          simp only [Act.put, List.setIfInBounds_toArray, List.set_cons_zero, List.set_cons_succ] at ha
          subst ha
          go_simp
          refine hK.out _ _ ⟨_, _, _, _, _, _, _, _, _, ?_, s0.keep rfl, s1.keep rfl, s2.keep rfl, s3.keep rfl, s4.keep rfl, s5.keep rfl, s6.keep rfl, s7.keep rfl, Slot.new _ _ _, O0.keep (Off.refl _ wr) rfl, hO⟩
          simp only [Act.put, List.setIfInBounds_toArray, List.set_cons_zero, List.set_cons_succ]
        · intro l a wc hI hd
          obtain ⟨u22, u23, u24, u25, u26, u27, u28, u29, u5, ha, s0, s1, s2, s3, s4, s5, s6, s7, s9, O0, hO⟩ := hI
          simp only [Act.put, List.setIfInBounds_toArray, List.set_cons_zero, List.set_cons_succ] at ha
          have q0 := s0 (hd 0 (by decide))
          have q1 := s1 (hd 1 (by decide))
          have q2 := s2 (hd 2 (by decide))
          have q3 := s3 (hd 3 (by decide))
          have q4 := s4 (hd 4 (by decide))
          have q5 := s5 (hd 5 (by decide))
          have q6 := s6 (hd 6 (by decide))
          have q7 := s7 (hd 7 (by decide))
          have q9 := s9 (hd 9 (by decide))
          have r0 : wc.heap[(w.heap.size + 1)]? = some (.cells #[.int .u64 (wd x 0 : Int), .int .u64 (wd x 1 : Int), .int .u64 (wd x 2 : Int), .int .u64 (wd x 3 : Int)] 51) := O0.now (hd 8 (by decide))
          subst ha q0 q1 q2 q3 q4 q5 q6 q7 q9
          clear hd s0 s1 s2 s3 s4 s5 s6 s7 s9 O0
          have hOf : Off (fun _ => False) w wc := HO3.out.trans hO (fun k hk e => by omega)
          obtain ⟨p0, p1, p2, p3⟩ := cells4 r0
          have HOf := Lib.hid hOf
          clear hOf hO HK3 HR3 HF3 HY3 HZ3 HO3 r0
          go_wp2
          refine bodyPost_ret (v := .tuple #[V x, .int .i64 0]) (by simp [results, Tryd.results67, go_sem, p0, p1, p2, p3]) rfl ⟨rfl, HOf.out⟩
  · have hd : rwideV p bs = (0, 8) := by unfold rwideV; rw [if_neg (by omega)]
    have h2 : ¬ ((n : Int) = 64) := by omega
    rw [hd, show V (0, 8).1 = _ from lit_small 0 (by decide)]
    clear hb hn hs hp h1 hd
    go_enter Tryd.func67, Tryd.ntmps67
    go_wp2
    refine bodyPost_ret (v := .tuple #[.agg #[.int .u64 ((0 : Nat) : Int), .int .u64 0, .int .u64 0, .int .u64 0], .int .i64 8]) (by simp [results, Tryd.results67, go_sem]) rfl ⟨rfl, ?_⟩
    exact ((Off.refl _ w).alloc _).alloc _
end
end Go.Proofs.YtclehgconbdkpaaDoor
