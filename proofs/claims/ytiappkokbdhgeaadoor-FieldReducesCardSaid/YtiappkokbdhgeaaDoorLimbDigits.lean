/-
  Contracts of the reference's Digits and Vec over this seat's translation: the digits of 16 bits of a number of four words, and the number of sixteen digits. Conditions: as each says.
-/
import Derived.Test.YtiappkokbdhgeaaDoorLimbOps
import Derived.Laws.OwnMore
import Derived.StillTailTactics
import Derived.Laws.AppendOwnNone
namespace Go.Proofs.YtiappkokbdhgeaaDoor
open Go.RowKit

/-- The cells of n integers. -/
def ints (f : Nat → Nat) (n : Nat) : List Value := (List.range n).map (fun i => .int .i64 (f i : Int))
theorem ints_length (f : Nat → Nat) (n : Nat) : (ints f n).length = n := by simp [ints]
theorem ints_get (f : Nat → Nat) {n j : Nat} (h : j < n) : (ints f n)[j]? = some (.int .i64 (f j : Int)) := by simp [ints, h]
theorem ints_snoc (f : Nat → Nat) (n : Nat) : ints f (n + 1) = ints f n ++ [.int .i64 (f n : Int)] := by simp [ints, List.range_succ]
/-- The slice v holds n integers f 0, f 1, .. in a block of its own from base on. -/
def Row (w : World) (base : Nat) (v : Value) (n : Nat) (f : Nat → Nat) : Prop := w.ownsRow base 3 1 v n (ints f n)
theorem Row.snoc {w : World} {base n : Nat} {v : Value} {f : Nat → Nat} {x : Int} (h : w.ownsRow base 3 1 v (n + 1) (ints f n ++ [.int .i64 x])) (hx : x = (f n : Int)) : Row w base v (n + 1) f := by
  unfold Row; rw [ints_snoc, ← hx]; exact h
theorem Row.form {w : World} {base n : Nat} {v : Value} {f : Nat → Nat} (h : Row w base v n f) (hn : 0 < n) : ∃ g cap, v = .slice (some ⟨g, 0, none⟩) n cap ∧ base ≤ g ∧ g < w.heap.size := by
  obtain ⟨hl, ⟨rfl, h0⟩ | ⟨g, cap, cur, rfl, hb, hg, _⟩⟩ := h
  · omega
  · exact ⟨g, cap, rfl, hb, heap_lt hg⟩
theorem Row.cell {w : World} {base n g cap : Nat} {f : Nat → Nat} (h : Row w base (.slice (some ⟨g, 0, none⟩) n cap) n f) {j : Nat} (hj : j < n) : w.cell? ⟨g, j, none⟩ = some (.int .i64 (f j : Int)) := by
  have := World.ownsRow.cells h (g := g) rfl j _ (ints_get f hj)
  rw [Addr.add_lit] at this
  simpa using this
theorem Row.frozen {w : World} {base n g cap : Nat} {f : Nat → Nat} (h : Row w base (.slice (some ⟨g, 0, none⟩) n cap) n f) (j : Nat) : w.frozen? ⟨g, j, none⟩ = false := World.ownsRow.frozenAt h j
theorem Row.off {w w' : World} {base n : Nat} {v : Value} {f : Nat → Nat} {S : Nat → Prop} (h : Row w base v n f) (ho : Off S w w') (hd : ∀ k, v.ownBlock = some k → ¬ S k) : Row w' base v n f := by
  obtain ⟨hl, h⟩ := h
  refine ⟨hl, ?_⟩
  rcases h with hn | ⟨g, cap, cur, rfl, hb, hg, r⟩
  · exact .inl hn
  · exact .inr ⟨g, cap, cur, rfl, hb, ho.heap hg (hd g (by simp [Value.ownBlock])), r⟩

theorem Row.push {wr w1 : World} {base n : Nat} {v : Value} {f : Nat → Nat} {o : Obj} (h : Row wr base v n f) (hg : (wr.alloc o).grownBy w1 v.ownBlock) : Off (fun y => base ≤ y) wr w1 :=
  ((Off.refl _ wr).alloc o).grown hg (fun y hy => by
    refine ⟨fun _ => (World.ownsRow.lt h y hy).1, fun o' ho => ?_⟩
    rcases (World.ownsRow.alloc h o).2 with ⟨rfl, _⟩ | ⟨g, cap, cur, rfl, _, hgb, _⟩
    · simp [Value.ownBlock] at hy
    · obtain rfl : g = y := by simpa [Value.ownBlock] using hy
      rw [hgb] at ho; cases ho; rfl)

theorem int_info : (Tryd.prog.info? 3).map (fun i => (i.zero, i.size, i.bytes)) = some (some (.int .i64 0), 1, 8) := by kernel_rfl
set_option maxHeartbeats 2000000 in
theorem digits_any (a : Nat) (w : World) :
    Calls Tryd.prog 32 #[V a] w fun e w' => ∃ v, e = .returned v ∧ Row w' (w.heap.size + 1) v 16 (d16 a) ∧ Off (fun _ => False) w w' := by
  obtain ⟨i0, hi, hz0, hz1, hz2⟩ := info_parts int_info
  go_enter Tryd.func32, Tryd.ntmps32
  go_wp2
  go_loopw [3, 4] (fun v i wr => ∃ k : Nat, k ≤ 4 ∧ i = .int .i64 k ∧ Row wr (w.heap.size + 1) v (4 * k) (d16 a) ∧ NumAt wr w.heap.size a ∧ Off (fun _ => False) w wr) (fun _ i _ => 4 - (intOf i).toNat)
  case atStart => exact ⟨0, by omega, rfl, World.ownsRow_nil _ _ _ _, heap_new' rfl _, (Off.refl _ w).alloc _⟩
  case round =>
    obtain ⟨k, hk, rfl, hR, hN, hO⟩ := hrel
    by_cases hlt : k < 4
    · have hc := hN.cell k hlt
      have i1 : decide ((k : Int) < 4) = true := by simp; omega
      have H3 := Lib.hid hR
      have HN := Lib.hid hN
      have HO := Lib.hid hO
      clear hR hN hO
      go_wp2
      obtain ⟨wo, rfl⟩ : ∃ wo : World, wo = wr := ⟨_, rfl⟩
      go_loopw [3, 5, 6] (fun v x i wr => ∃ j : Nat, j ≤ 4 ∧ i = .int .i64 j ∧ x = .int .u64 ((wd a k / 65536 ^ j : Nat) : Int) ∧ Row wr (w.heap.size + 1) v (4 * k + j) (d16 a) ∧ NumAt wr w.heap.size a ∧ Off (fun _ => False) w wr) (fun _ _ i _ => 4 - (intOf i).toNat)
      case atStart => exact ⟨0, by omega, rfl, by simp, H3.out, HN.out, HO.out⟩
      case round =>
        obtain ⟨j, hj, rfl, rfl, hR, hN, hO⟩ := hrel
        have HN' := Lib.hid hN
        have HO' := Lib.hid hO
        have HR' := Lib.hid hR
        clear hR hN hO H3 HN HO
        by_cases hlt2 : j < 4
        · obtain ⟨x, hx⟩ : ∃ x, x = wd a k / 65536 ^ j := ⟨_, rfl⟩
          have hxl : x < 18446744073709551616 := by rw [hx]; exact Nat.lt_of_le_of_lt (Nat.div_le_self _ _) (wd_lt a k)
          have HD := Lib.hid (show ((x % 65536 : Nat) : Int) = (d16 a (4 * k + j) : Int) by rw [hx, d16_wd a k j hlt hlt2])
          have HX := Lib.hid (show x / 65536 = wd a k / 65536 ^ (j + 1) by rw [hx, div_succ])
          rw [← hx]
          clear hx
          have j1 : (j : Int) < 4 := by omega
          have x0 : (0 : Int) ≤ (x : Int) := by omega
          have x1 : (x : Int) ≤ 18446744073709551615 := by omega
          go_wp2_with (at_builtin; refine wpList_append_own _ rfl _ _ 47 rfl (w.heap.size + 1) 3 i0 _ 1 8 Tryd.underlying47 hi hz0 hz1 hz2 rfl (by decide) _ (4 * k + j) _ rfl (World.ownsRow.alloc HR'.out _) ⟨wr.heap.size, 0, none⟩ 1 1 [.int .i64 ((x : Int) % 65536)] rfl rfl ?q1 ?q5 ?q2 ?q3 ?q4 ?_)
          case q1 =>
            intro j u hj
            cases j with
            | zero => simp at hj; subst hj; simp [go_sem]
            | succ j => simp at hj
          case q5 => simp [Value.oneCell']
          case q2 => unfold maxLen; omega
          case q3 => omega
          case q4 => have := HN'.out.lt; simp; omega
          intro v' w1 hown hgrow hnil
          have hR1 := Row.snoc hown HD.out
          have hO1 := Row.push HR'.out hgrow
          have hN1 : NumAt w1 w.heap.size a := hO1.heap HN'.out (by omega)
          have hO2 : Off (fun _ => False) w w1 := HO'.out.trans hO1 (fun y hy h => by omega)
          have HR1 := Lib.hid hR1
          have HN1 := Lib.hid hN1
          have HO2 := Lib.hid hO2
          clear hown hgrow hnil hR1 hO1 hN1 hO2 HR' HN' HO'
          go_wp2
          go_roundw
          case rel => exact ⟨j + 1, by omega, by go_num, by rw [← HX.out]; rfl, HR1.out, HN1.out, HO2.out⟩
          case measure => simp [intOf]; omega
        · obtain rfl : j = 4 := by omega
          go_wp2
          go_roundw
          case rel => exact ⟨k + 1, by omega, by go_num, by rw [Nat.mul_add]; exact HR'.out, HN'.out, HO'.out⟩
          case measure => simp [intOf]; omega
    · obtain rfl : k = 4 := by omega
      have HR := Lib.hid hR
      have HO := Lib.hid hO
      clear hR hN hO
      go_wp2
      go_ret
      exact ⟨_, rfl, HR.out, HO.out⟩
/-- The block b holds the words of the first k digits of n. -/
def LowAt (w : World) (b n k : Nat) : Prop := w.heap[b]? = some (.cells #[.int .u64 (lowW n k 0 : Int), .int .u64 (lowW n k 1 : Int), .int .u64 (lowW n k 2 : Int), .int .u64 (lowW n k 3 : Int)] 23 (0, 0))
theorem LowAt.cell {w : World} {b n k : Nat} (h : LowAt w b n k) (i : Nat) (hi : i < 4) : w.cell? ⟨b, i, none⟩ = some (.int .u64 (lowW n k i : Int)) := by
  rw [cell_of_heap h]
  have : i = 0 ∨ i = 1 ∨ i = 2 ∨ i = 3 := by omega
  rcases this with rfl | rfl | rfl | rfl <;> rfl
theorem LowAt.step {w : World} {b n k : Nat} (h : LowAt w b n k) (hk : k < 16) : LowAt (w.setCell ⟨b, k / 4, none⟩ (.int .u64 (lowW n (k + 1) (k / 4) : Int))) b n (k + 1) := by
  have := heap_set h (k / 4) (.int .u64 (lowW n (k + 1) (k / 4) : Int))
  unfold LowAt
  rw [this]
  have e : ∀ i, i < 4 → i ≠ k / 4 → lowW n (k + 1) i = lowW n k i := fun i hi hne => by rw [lowW_succ n k i hk hi, if_neg hne]; rfl
  have : k / 4 = 0 ∨ k / 4 = 1 ∨ k / 4 = 2 ∨ k / 4 = 3 := by omega
  rcases this with h4 | h4 | h4 | h4 <;> rw [h4] at e ⊢
  · simp [e 1 (by omega) (by omega), e 2 (by omega) (by omega), e 3 (by omega) (by omega)]
  · simp [e 0 (by omega) (by omega), e 2 (by omega) (by omega), e 3 (by omega) (by omega)]
  · simp [e 0 (by omega) (by omega), e 1 (by omega) (by omega), e 3 (by omega) (by omega)]
  · simp [e 0 (by omega) (by omega), e 1 (by omega) (by omega), e 2 (by omega) (by omega)]
theorem d16_shift (M fr k : Nat) : d16 (M / 65536 ^ fr) k = d16 M (fr + k) := by
  unfold d16 dg; rw [Nat.div_div_eq_div_mul, ← Nat.pow_add]

attribute [local go_sem ↓] Go.wp_at_zero Go.wp_at_succ
set_option maxRecDepth 100000 in
set_option maxHeartbeats 4000000 in
theorem vec_any (M g cap fr n : Nat) (hfr : fr + 16 ≤ n) (hn : n ≤ 1000) (w : World) (hcell : ∀ j, j < n → w.cell? ⟨g, j, none⟩ = some (.int .i64 (d16 M j : Int))) :
    Calls Tryd.prog 33 #[.slice (some ⟨g, 0, none⟩) n cap, .int .i64 (fr : Int)] w fun e w' => e = .returned (V (M / 65536 ^ fr)) ∧ Off (fun _ => False) w w' := by
  have HC := Lib.hid hcell
  clear hcell
  obtain ⟨N, hN⟩ : ∃ N, N = M / 65536 ^ fr := ⟨_, rfl⟩
  have HD := Lib.hid (show ∀ k, d16 N k = d16 M (fr + k) by rw [hN]; exact d16_shift M fr)
  rw [← hN]
  clear hN
  go_enter Tryd.func33, Tryd.ntmps33
  go_wp2
  go_loopw [6] (fun i wr => ∃ k : Nat, k ≤ 16 ∧ i = .int .i64 k ∧ LowAt wr (w.heap.size + 1) N k ∧ PartAt wr w.heap.size 0 0 ∧ Off (fun _ => False) w wr) (fun i _ => 16 - (intOf i).toNat)
  case atStart => exact ⟨0, by omega, rfl, by unfold LowAt; simp only [lowW_zero]; exact heap_new' (by simp) _, heap_old' (heap_new' rfl _) _, ((Off.refl _ w).alloc _).alloc _⟩
  case round =>
    obtain ⟨k, hk, rfl, hL, hP, hO⟩ := hrel
    by_cases hlt : k < 16
    · have i1 : decide ((k : Int) < 16) = true := by simp; omega
      have HL := Lib.hid hL
      have HP := Lib.hid hP
      have HO := Lib.hid hO
      clear hL hP hO
      go_wp2
      go_loop [7, 8] (fun u i => ∃ j : Nat, j ≤ k % 4 ∧ i = .int .i64 j ∧ u = .int .u64 ((65536 ^ j : Nat) : Int)) (fun _ i => k % 4 - (intOf i).toNat)
      case atStart => exact ⟨0, by omega, rfl, rfl⟩
      case round =>
        obtain ⟨j, hj, rfl, rfl⟩ := hrel
        by_cases hlt2 : j < k % 4
        · have j1 : (j : Int) < (k : Int) % 4 := by omega
          have HU := Lib.hid (Nat.pow_succ (n := 65536) (m := j))
          have hu : 65536 ^ j ≤ 65536 ^ 2 := Nat.pow_le_pow_right (by omega) (by omega)
          have hu0 : 0 < 65536 ^ j := Nat.pow_pos (by omega)
          obtain ⟨u, hu2⟩ : ∃ u, u = 65536 ^ j := ⟨_, rfl⟩
          rw [← hu2] at HU hu hu0 ⊢
          obtain ⟨v, hv⟩ : ∃ v, v = u * 65536 := ⟨_, rfl⟩
          have v0 : IntKind.u64.wrap ((u : Int) * 65536) = (v : Int) := by simp at hu; rw [IntKind.wrap_u64]; omega
          rw [← hv] at HU
          clear hu2 hu hu0 hv
          go_wp2
          go_round
          case rel => exact ⟨j + 1, by omega, by go_num, by rw [HU.out]⟩
          case measure => simp [intOf]; omega
        · obtain rfl : j = k % 4 := by omega
          have j1 : ¬ ((k % 4 : Nat) : Int) < (k : Int) % 4 := by omega
          obtain ⟨q, hq⟩ : ∃ q, q = k / 4 := ⟨_, rfl⟩
          have co := HL.out.cell q (by omega)
          have q0 : (k : Int) / 4 = (q : Int) := by omega
          have q1 : (q : Int) < 4 := by omega
          have q2 : (0 : Int) ≤ (q : Int) := by omega
          have cd := (Off.cell HO.out (HC.out (fr + k) (by omega)) (fun c => c))
          have hd := d16_lt M (fr + k)
          have hsum := lowW_sum N k hlt
          have hnext := lowW_succ N k q hlt (by omega)
          rw [if_pos hq, HD.out k] at hnext
          rw [HD.out k, ← hq] at hsum
          have ffz := frozen_of_heap HL.out q
          have hu : 65536 ^ (k % 4) ≤ 65536 ^ 3 := Nat.pow_le_pow_right (by omega) (by omega)
          obtain ⟨u, hu2⟩ : ∃ u, u = 65536 ^ (k % 4) := ⟨_, rfl⟩
          rw [← hu2] at hnext hsum hu ⊢
          obtain ⟨x, hx⟩ : ∃ x, x = fr + k := ⟨_, rfl⟩
          rw [← hx] at cd hd hnext hsum
          have x0 : IntKind.i64.wrap ((fr : Int) + (k : Int)) = (x : Int) := by rw [IntWalk.i64_in _ (by omega)]; omega
          have x1 : (x : Int) < (n : Int) := by omega
          have x2 : (0 : Int) ≤ (x : Int) := by omega
          obtain ⟨d, hd2⟩ : ∃ d, d = d16 M x := ⟨_, rfl⟩
          rw [← hd2] at cd hd hnext hsum
          obtain ⟨l, hl2⟩ : ∃ l, l = lowW N k q := ⟨_, rfl⟩
          rw [← hl2] at co hnext hsum
          obtain ⟨m, hm⟩ : ∃ m, m = d * u := ⟨_, rfl⟩
          rw [← hm] at hnext hsum
          obtain ⟨t, ht⟩ : ∃ t, t = l + m := ⟨_, rfl⟩
          rw [← ht] at hnext hsum
          have m0 : IntKind.u64.wrap ((d : Int) * (u : Int)) = (m : Int) := by rw [IntKind.wrap_u64]; omega
          have t0 : IntKind.u64.wrap ((l : Int) + (m : Int)) = (t : Int) := by rw [IntKind.wrap_u64]; omega
          have c0 : IntKind.u64.wrap (d : Int) = (d : Int) := by rw [IntKind.wrap_u64]; omega
          have HT := Lib.hid hnext
          have q3 : (k : Int).tdiv 4 = (q : Int) := by rw [Int.tdiv_eq_ediv_of_nonneg (by omega)]; exact q0
          have HQ := Lib.hid hq
          have q4 : IntKind.i64.wrap (q : Int) = (q : Int) := IntWalk.i64_in _ (by omega)
          clear hnext hsum hu hu2 hx hd2 hl2 hm ht hq
          go_wp2
          go_still_tail 14, (by kernel_rfl)
          change wpList _ _ _ _ _ wr.drew
          go_wp2
          go_roundw
          case rel => exact ⟨k + 1, by omega, by go_num, by rw [← HT.out, HQ.out]; exact HL.out.step hlt, (Below.heap_setCell _ _ _ _ (by simp)).trans HP.out, (HO.out.setCell (fun c => by simp at c; omega) _).drew⟩
          case measure => simp [intOf]; omega
    · obtain rfl : k = 16 := by omega
      have c0 := hL.cell 0 (by omega)
      have c1 := hL.cell 1 (by omega)
      have c2 := hL.cell 2 (by omega)
      have c3 := hL.cell 3 (by omega)
      rw [lowW_full, wd_mod _ _ (by omega)] at c0 c1 c2 c3
      have fz := fun k => frozen_of_heap hP.old k
      have r0 := hP.cell0 0 (by omega)
      have r1 := hP.cell0 1 (by omega)
      have r2 := hP.cell0 2 (by omega)
      have r3 := hP.cell0 3 (by omega)
      have HO := Lib.hid hO
      clear hL hP hO
      go_wp2
      refine bodyPost_ret (v := V N) (by simp [results, Tryd.results33, go_sem, r0, r1, r2, r3]) rfl ⟨rfl, ?_⟩
      have hn : ∀ j, (⟨w.heap.size, j, none⟩ : Addr).block < w.heap.size → False := fun j c => by simp at c
      exact (((HO.out.setCell (hn 0) _).setCell (hn 1) _).setCell (hn 2) _).setCell (hn 3) _
end Go.Proofs.YtiappkokbdhgeaaDoor
