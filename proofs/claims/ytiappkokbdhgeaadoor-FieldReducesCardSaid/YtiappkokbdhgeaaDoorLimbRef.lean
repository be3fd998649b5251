/-
  Contracts of the reference's Add, Sub and Less over this seat's translation: the number of the sum and of the difference, and the carry. Conditions: the arguments are numbers of four words.
-/
import Derived.Test.YtiappkokbdhgeaaDoorLimbDigits
import Derived.Deep.QuietTactic
import Derived.BigQuiet
namespace Go.Proofs.YtiappkokbdhgeaaDoor
open Go.RowKit

theorem Row.congr {w : World} {base n : Nat} {v : Value} {f f' : Nat → Nat} (h : Row w base v n f) (hf : ∀ i, i < n → f i = f' i) : Row w base v n f' := by
  have : ints f n = ints f' n := by unfold ints; exact List.map_congr_left (fun i hi => by rw [hf i (by simpa using hi)])
  unfold Row; rw [← this]; exact h
theorem Row.store {w : World} {base n g cap k x : Nat} {f f' : Nat → Nat} (h : Row w base (.slice (some ⟨g, 0, none⟩) n cap) n f) (hk : k < n) (hx : f' k = x) (hf : ∀ i, i < n → i ≠ k → f i = f' i) :
    Row (w.setCell ⟨g, k, none⟩ (.int .i64 (x : Int))) base (.slice (some ⟨g, 0, none⟩) n cap) n f' := by
  have hs := (World.ownsRow.stored h k (.int .i64 (x : Int))).1
  have : (ints f n).set k (.int .i64 (x : Int)) = ints f' n := by
    apply List.ext_getElem?
    intro i
    by_cases hi : i < n
    · rw [ints_get f' hi, List.getElem?_set]
      by_cases hki : k = i
      · subst hki; simp [ints_length, hk, hx]
      · rw [if_neg hki, ints_get f hi, hf i hi (Ne.symm hki)]
    · rw [List.getElem?_eq_none (by simp [ints_length]; omega), List.getElem?_eq_none (by simp [ints_length]; omega)]
  unfold Row; rw [← this]; exact hs
theorem Row.drewN {w : World} {base n : Nat} {v : Value} {f : Nat → Nat} (h : Row w base v n f) (m : Nat) : Row (w.drewN m) base v n f := h

/-- The digits of s below k, and those of a from k on. -/
def mixD (s a k i : Nat) : Nat := if i < k then d16 s i else d16 a i
theorem mixD_zero (s a i : Nat) : mixD s a 0 i = d16 a i := by simp [mixD]
theorem mixD_here (s a k : Nat) : mixD s a k k = d16 a k := by simp [mixD]
theorem mixD_new (s a k : Nat) : mixD s a (k + 1) k = d16 s k := by simp [mixD]
theorem mixD_other (s a k i : Nat) (h : i ≠ k) : mixD s a k i = mixD s a (k + 1) i := by
  unfold mixD; by_cases h1 : i < k
  · rw [if_pos h1, if_pos (by omega)]
  · rw [if_neg h1, if_neg (by omega)]
theorem mixD_full (s a i : Nat) (h : i < 16) : mixD s a 16 i = d16 s i := by unfold mixD; rw [if_pos h]

theorem Row.base0 {w : World} {base n : Nat} {v : Value} {f : Nat → Nat} (h : Row w base v n f) : Row w 0 v n f := by
  obtain ⟨hl, h⟩ := h
  refine ⟨hl, ?_⟩
  rcases h with hn | ⟨g, cap, cur, rfl, _, r⟩
  · exact .inl hn
  · exact .inr ⟨g, cap, cur, rfl, Nat.zero_le _, r⟩
/-- What the loops of Add and Sub keep: the digits of the first number (below k: of the result), and those of the second. -/
structure SumAt (w wr : World) (gx cx gy cy a b s k : Nat) : Prop where
  x : Row wr 0 (.slice (some ⟨gx, 0, none⟩) 16 cx) 16 (mixD s a k)
  y : Row wr 0 (.slice (some ⟨gy, 0, none⟩) 16 cy) 16 (d16 b)
  ret : PartAt wr (w.heap.size + 1 + 1) 0 0
  off : Off (fun _ => False) w wr
theorem SumAt.step {w wr : World} {gx cx gy cy a b s k m : Nat} (h : SumAt w wr gx cx gy cy a b s k) (hk : k < 16) (hxy : gx ≠ gy) (hg : w.heap.size + 1 + 1 < gx) :
    SumAt w ((wr.drewN m).setCell ⟨gx, k, none⟩ (.int .i64 (d16 s k : Int))) gx cx gy cy a b s (k + 1) := by
  have hO : Off (fun k => k = gx) wr ((wr.drewN m).setCell ⟨gx, k, none⟩ (.int .i64 (d16 s k : Int))) := ((Off.refl (fun k => k = gx) wr).drewN m).setCell (p := ⟨gx, k, none⟩) (fun _ => rfl) _
  exact ⟨(h.x.drewN m).store hk (mixD_new s a k) (fun i _ hi => mixD_other s a k i hi), h.y.off hO (fun j hj e => hxy (by simp [Value.ownBlock] at hj; omega)),
    hO.heap h.ret (by omega), h.off.trans hO (fun j hj e => by omega)⟩
set_option maxRecDepth 100000 in
set_option maxHeartbeats 4000000 in
theorem refadd_any (a b : Nat) (ha : a < R256) (hb : b < R256) (w : World) :
    Calls Tryd.prog 19 #[V a, V b] w fun e w' => e = .returned (.tuple #[V (a + b), .int .u64 (((a + b) / R256 : Nat) : Int)]) ∧ Off (fun _ => False) w w' := by
  have HT := Lib.hid (show carryA 65536 a b 16 = (a + b) / R256 by rw [r256_pow] at *; exact carryA_top ha hb)
  go_enter Tryd.func19, Tryd.ntmps19
  go_wp2_with fail
  refine (digits_any a _).mono ?_
  rintro e w1 ⟨vx, rfl, hX, hO1⟩
  obtain ⟨gx, cx, rfl, hgx, hgx2⟩ := hX.form (by omega)
  have hB : NumAt w1 (w.heap.size + 1) b := hO1.heap (heap_old' (heap_new' (by simp) _) _) (fun c => c)
  have hR : PartAt w1 (w.heap.size + 1 + 1) 0 0 := hO1.heap (heap_new' (by simp) _) (fun c => c)
  have hO1' : Off (fun _ => False) w w1 := ((((Off.refl _ w).alloc _).alloc _).alloc _).trans hO1 (fun _ _ c => c)
  obtain ⟨b0, b1, b2, b3⟩ := hB.four
  have hgx' : w.heap.size + 1 + 1 < gx := by simp at hgx; omega
  have HX := Lib.hid hX
  have HO1 := Lib.hid hO1'
  have HR := Lib.hid hR
  have HG := Lib.hid hgx2
  clear hX hO1 hO1' hB hR hgx hgx2
  go_wp2_with fail
  refine (digits_any b _).mono ?_
  rintro e w2 ⟨vy, rfl, hY, hO2⟩
  obtain ⟨gy, cy, rfl, hgy, hgy2⟩ := hY.form (by omega)
  have hxy : gx ≠ gy := by have := HG.out; omega
  have hS : SumAt w w2 gx cx gy cy a b (a + b) 0 := ⟨(HX.out.off hO2 (fun _ _ c => c)).base0.congr (fun i _ => (mixD_zero _ _ _).symm), hY.base0, hO2.heap HR.out (fun c => c), HO1.out.trans hO2 (fun _ _ c => c)⟩
  have HS := Lib.hid hS
  clear hY hO2 hgy hgy2 hS HX HO1 HR HG b0 b1 b2 b3
  go_wp2
  go_loopw [8, 9] (fun c i wr => ∃ k : Nat, k ≤ 16 ∧ i = .int .i64 k ∧ c = .int .i64 (carryA 65536 a b k : Int) ∧ SumAt w wr gx cx gy cy a b (a + b) k) (fun _ i _ => 16 - (intOf i).toNat)
  case atStart => exact ⟨0, by omega, rfl, by rw [carryA_zero]; rfl, HS.out⟩
  case round =>
    obtain ⟨k, hk, rfl, rfl, hA⟩ := hrel
    by_cases hlt : k < 16
    · have i1 : decide ((k : Int) < 16) = true := by simp; omega
      have cx0 := hA.x.cell (j := k) hlt
      rw [mixD_here] at cx0
      have cy0 := hA.y.cell (j := k) hlt
      have fz := hA.x.frozen k
      have hd := dg_add (B := 65536) (by decide) a b k
      have hc := carryA_succ (B := 65536) (by decide) a b k
      have hcl := carryA_le (B := 65536) (by decide) a b k
      have hu := d16_lt a k
      have hv := d16_lt b k
      have e1 : dg 65536 a k = d16 a k := rfl
      have e2 : dg 65536 b k = d16 b k := rfl
      have e3 : dg 65536 (a + b) k = d16 (a + b) k := rfl
      rw [e1, e2] at hd hc
      rw [e3] at hd
      obtain ⟨x, hx⟩ : ∃ x, x = d16 a k := ⟨_, rfl⟩
      obtain ⟨y, hy⟩ : ∃ y, y = d16 b k := ⟨_, rfl⟩
      obtain ⟨c, hc'⟩ : ∃ c, c = carryA 65536 a b k := ⟨_, rfl⟩
      rw [← hx] at cx0 hd hc hu
      rw [← hy] at cy0 hd hc hv
      rw [← hc'] at hd hc hcl ⊢
      have HD := Lib.hid (show (((x : Int) + (y : Int) + (c : Int)) % 65536) = (d16 (a + b) k : Int) by rw [hd]; omega)
      have HC := Lib.hid (show (((x : Int) + (y : Int) + (c : Int)) / 65536) = (carryA 65536 a b (k + 1) : Int) by rw [hc]; omega)
      have HA := Lib.hid hA
      clear hA e1 e2 e3 hx hy hc' hd hc
      go_wp2
      go_quiet (fail)
      go_wp2
      go_roundw
      case rel => exact ⟨k + 1, by omega, by go_num, by rw [HC.out], by rw [HD.out]; exact HA.out.step hlt hxy hgx'⟩
      case measure => simp [intOf]; omega
    · obtain rfl : k = 16 := by omega
      have hX := hA.x.congr (fun i hi => mixD_full (a + b) a i hi)
      have hc : ∀ j, j < 16 → wr.cell? ⟨gx, j, none⟩ = some (.int .i64 (d16 (a + b) j : Int)) := fun j hj => hX.cell hj
      have hV := vec_any (a + b) gx cx 0 16 (by omega) (by omega) wr hc
      have hct := carryA_le (B := 65536) (by decide) a b 16
      obtain ⟨c, hc'⟩ : ∃ c, c = carryA 65536 a b 16 := ⟨_, rfl⟩
      have HT2 := Lib.hid (hc'.trans HT.out)
      rw [← hc'] at hct ⊢
      have HA := Lib.hid hA
      clear hA hX hc hc'
      have hV' := Lib.hid hV
      clear hV HT
      go_wp2_with fail
      refine (hV'.out).mono ?_
      rintro e w3 ⟨rfl, hO3⟩
      have hR : PartAt w3 (w.heap.size + 1 + 1) 0 0 := hO3.heap HA.out.ret (fun c => c)
      obtain ⟨⟨r0, r1, r2, r3⟩, fz⟩ := hR.four
      have HO := Lib.hid (HA.out.off.trans hO3 (fun _ _ c => c))
      clear hR hO3 HA hV'
      go_wp2
      refine bodyPost_ret (v := .tuple #[V (a + b), .int .u64 (c : Int)]) (by simp [results, Tryd.results19, go_sem, r0, r1, r2, r3]) rfl ⟨by rw [HT2.out], ?_⟩
      have hn : ∀ j, (⟨w.heap.size + 1 + 1, j, none⟩ : Addr).block < w.heap.size → False := fun j c => by simp at c; omega
      exact (((HO.out.setCell (hn 0) _).setCell (hn 1) _).setCell (hn 2) _).setCell (hn 3) _
set_option maxRecDepth 100000 in
set_option maxHeartbeats 4000000 in
theorem refsub_any (a b : Nat) (ha : a < R256) (hb : b < R256) (w : World) :
    Calls Tryd.prog 27 #[V a, V b] w fun e w' => e = .returned (.tuple #[V (subV a b), .int .u64 (ltN a b : Int)]) ∧ Off (fun _ => False) w w' := by
  have HT := Lib.hid (show borrowA 65536 a b 16 = ltN a b by unfold borrowA ltN; rw [← r256_pow, Nat.mod_eq_of_lt ha, Nat.mod_eq_of_lt hb])
  go_enter Tryd.func27, Tryd.ntmps27
  go_wp2_with fail
  refine (digits_any a _).mono ?_
  rintro e w1 ⟨vx, rfl, hX, hO1⟩
  obtain ⟨gx, cx, rfl, hgx, hgx2⟩ := hX.form (by omega)
  have hB : NumAt w1 (w.heap.size + 1) b := hO1.heap (heap_old' (heap_new' (by simp) _) _) (fun c => c)
  have hR : PartAt w1 (w.heap.size + 1 + 1) 0 0 := hO1.heap (heap_new' (by simp) _) (fun c => c)
  have hO1' : Off (fun _ => False) w w1 := ((((Off.refl _ w).alloc _).alloc _).alloc _).trans hO1 (fun _ _ c => c)
  obtain ⟨b0, b1, b2, b3⟩ := hB.four
  have hgx' : w.heap.size + 1 + 1 < gx := by simp at hgx; omega
  have HX := Lib.hid hX
  have HO1 := Lib.hid hO1'
  have HR := Lib.hid hR
  have HG := Lib.hid hgx2
  clear hX hO1 hO1' hB hR hgx hgx2
  go_wp2_with fail
  refine (digits_any b _).mono ?_
  rintro e w2 ⟨vy, rfl, hY, hO2⟩
  obtain ⟨gy, cy, rfl, hgy, hgy2⟩ := hY.form (by omega)
  have hxy : gx ≠ gy := by have := HG.out; omega
  have hS : SumAt w w2 gx cx gy cy a b (subV a b) 0 := ⟨(HX.out.off hO2 (fun _ _ c => c)).base0.congr (fun i _ => (mixD_zero _ _ _).symm), hY.base0, hO2.heap HR.out (fun c => c), HO1.out.trans hO2 (fun _ _ c => c)⟩
  have HS := Lib.hid hS
  clear hY hO2 hgy hgy2 hS HX HO1 HR HG b0 b1 b2 b3
  go_wp2
  go_loopw [8, 9] (fun c i wr => ∃ k : Nat, k ≤ 16 ∧ i = .int .i64 k ∧ c = .int .i64 (borrowA 65536 a b k : Int) ∧ SumAt w wr gx cx gy cy a b (subV a b) k) (fun _ i _ => 16 - (intOf i).toNat)
  case atStart => exact ⟨0, by omega, rfl, by rw [borrowA_zero]; rfl, HS.out⟩
  case round =>
    obtain ⟨k, hk, rfl, rfl, hA⟩ := hrel
    by_cases hlt : k < 16
    · have i1 : decide ((k : Int) < 16) = true := by simp; omega
      have cx0 := hA.x.cell (j := k) hlt
      rw [mixD_here] at cx0
      have cy0 := hA.y.cell (j := k) hlt
      have fz := hA.x.frozen k
      have hd := dg_sub (B := 65536) (by decide) a b k 16 hlt (by rw [← r256_pow]; omega)
      have hc := borrowA_succ (B := 65536) (by decide) a b k
      have hcl := borrowA_le 65536 a b k
      have hu := d16_lt a k
      have hv := d16_lt b k
      have e1 : dg 65536 a k = d16 a k := rfl
      have e2 : dg 65536 b k = d16 b k := rfl
      have e3 : dg 65536 (a + 65536 ^ 16 - b) k = d16 (subV a b) k := by rw [← r256_pow]; rfl
      rw [e1, e2] at hd hc
      rw [e3] at hd
      obtain ⟨x, hx⟩ : ∃ x, x = d16 a k := ⟨_, rfl⟩
      obtain ⟨y, hy⟩ : ∃ y, y = d16 b k := ⟨_, rfl⟩
      obtain ⟨c, hc'⟩ : ∃ c, c = borrowA 65536 a b k := ⟨_, rfl⟩
      rw [← hx] at cx0 hd hc hu
      rw [← hy] at cy0 hd hc hv
      rw [← hc'] at hd hc hcl ⊢
      have HA := Lib.hid hA
      clear hA e1 e2 e3 hx hy hc'
      by_cases hneg : x < y + c
      · have HD := Lib.hid (show (x : Int) - (y : Int) - (c : Int) + 65536 = (d16 (subV a b) k : Int) by rw [hd]; omega)
        have HC := Lib.hid (show (1 : Int) = (borrowA 65536 a b (k + 1) : Int) by rw [hc, if_pos hneg]; rfl)
        have n0 : (x : Int) - (y : Int) - (c : Int) < 0 := by omega
        clear hd hc hneg
        go_wp2
        go_quiet (fail)
        go_wp2
        go_roundw
        case rel => exact ⟨k + 1, by omega, by go_num, by rw [← HC.out], by rw [HD.out]; exact HA.out.step hlt hxy hgx'⟩
        case measure => simp [intOf]; omega
      · have HD := Lib.hid (show (x : Int) - (y : Int) - (c : Int) = (d16 (subV a b) k : Int) by rw [hd]; omega)
        have HC := Lib.hid (show (0 : Int) = (borrowA 65536 a b (k + 1) : Int) by rw [hc, if_neg hneg]; rfl)
        have n0 : ¬ (x : Int) - (y : Int) - (c : Int) < 0 := by omega
        clear hd hc hneg
        go_wp2
        go_quiet (fail)
        go_wp2
        go_roundw
        case rel => exact ⟨k + 1, by omega, by go_num, by rw [← HC.out], by rw [HD.out]; exact HA.out.step hlt hxy hgx'⟩
        case measure => simp [intOf]; omega
    · obtain rfl : k = 16 := by omega
      have hX := hA.x.congr (fun i hi => mixD_full (subV a b) a i hi)
      have hc : ∀ j, j < 16 → wr.cell? ⟨gx, j, none⟩ = some (.int .i64 (d16 (subV a b) j : Int)) := fun j hj => hX.cell hj
      have hV := vec_any (subV a b) gx cx 0 16 (by omega) (by omega) wr hc
      have hct := borrowA_le 65536 a b 16
      obtain ⟨c, hc'⟩ : ∃ c, c = borrowA 65536 a b 16 := ⟨_, rfl⟩
      have HT2 := Lib.hid (hc'.trans HT.out)
      rw [← hc'] at hct ⊢
      have HA := Lib.hid hA
      clear hA hX hc hc'
      have hV' := Lib.hid hV
      clear hV HT
      go_wp2_with fail
      refine (hV'.out).mono ?_
      rintro e w3 ⟨rfl, hO3⟩
      have hR : PartAt w3 (w.heap.size + 1 + 1) 0 0 := hO3.heap HA.out.ret (fun c => c)
      obtain ⟨⟨r0, r1, r2, r3⟩, fz⟩ := hR.four
      have HO := Lib.hid (HA.out.off.trans hO3 (fun _ _ c => c))
      clear hR hO3 HA hV'
      go_wp2
      refine bodyPost_ret (v := .tuple #[V (subV a b), .int .u64 (c : Int)]) (by simp [results, Tryd.results27, go_sem, r0, r1, r2, r3]) rfl ⟨by rw [HT2.out], ?_⟩
      have hn : ∀ j, (⟨w.heap.size + 1 + 1, j, none⟩ : Addr).block < w.heap.size → False := fun j c => by simp at c; omega
      exact (((HO.out.setCell (hn 0) _).setCell (hn 1) _).setCell (hn 2) _).setCell (hn 3) _
end Go.Proofs.YtiappkokbdhgeaaDoor
