/-
  Contracts of the reference of layer 7 over this seat's translation: Encode, Number, Unpack. Conditions: as each says.
-/
import Derived.Test.YtclknpkjnkgejaaDoorBytUnp
import Derived.Laws.OwnMore
import Derived.StillTailTactics
import Derived.Laws.AppendOwnNone
namespace Go.Proofs.YtclknpkjnkgejaaDoor
open Go.RowKit
/-- The slice v holds n bytes of a number in a block of its own from base on. -/
def RowB (w : World) (base : Nat) (v : Value) (n a : Nat) : Prop := w.ownsRow base 5 1 v n ((bytesN a n).map u8v)
theorem RowB.snoc {w : World} {base n a : Nat} {v : Value} {x : Int} (h : w.ownsRow base 5 1 v (n + 1) ((bytesN a n).map u8v ++ [.int .u8 x])) (hx : x = (by8 a n : Int)) : RowB w base v (n + 1) a := by
  subst hx; unfold RowB; rw [bytesN_succ, List.map_append]; exact h
theorem RowB.form {w : World} {base n a : Nat} {v : Value} (h : RowB w base v n a) (hn : 0 < n) : ∃ g cap, v = .slice (some ⟨g, 0, none⟩) n cap ∧ base ≤ g ∧ g < w.heap.size ∧ n ≤ cap := by
  obtain ⟨hl, ⟨rfl, h0⟩ | ⟨g, cap, cur, rfl, hb, hg, hn, _⟩⟩ := h
  · omega
  · exact ⟨g, cap, rfl, hb, heap_lt hg, hn⟩
theorem RowB.at {w : World} {base n a g cap : Nat} (h : RowB w base (.slice (some ⟨g, 0, none⟩) n cap) n a) : BsAt w (some ⟨g, 0, none⟩) (bytesN a n) (fun _ => True) := fun _ =>
  ⟨g, 0, rfl, trivial, fun j x hj => by
    have := World.ownsRow.cells h (g := g) rfl j (u8v x) (by rw [List.getElem?_map, hj]; rfl)
    rw [Addr.add_lit] at this
    exact this⟩
theorem RowB.push {wr w1 : World} {base n a : Nat} {v : Value} {o : Obj} (h : RowB wr base v n a) (hg : (wr.alloc o).grownBy w1 v.ownBlock) : Off (fun y => base ≤ y) wr w1 :=
  ((Off.refl _ wr).alloc o).grown hg (fun y hy => by
    refine ⟨fun _ => (World.ownsRow.lt h y hy).1, fun o' ho => ?_⟩
    rcases (World.ownsRow.alloc h o).2 with ⟨rfl, _⟩ | ⟨g, cap, cur, rfl, _, hgb, _⟩
    · simp [Value.ownBlock] at hy
    · obtain rfl : g = y := by simpa [Value.ownBlock] using hy
      rw [hgb] at ho; cases ho; rfl)
set_option maxHeartbeats 2000000 in
theorem refenc_any (a : Nat) (w : World) :
    Calls Tryd.prog 16 #[V a] w fun e w' => ∃ v, e = .returned v ∧ RowB w' (w.heap.size + 1) v 32 a ∧ Off (fun _ => False) w w' := by
  obtain ⟨i0, hi, hz0, hz1, hz2⟩ := info_parts byte_info
  go_enter Tryd.func16, Tryd.ntmps16
  go_wp2
  go_loopw [3, 4] (fun v i wr => ∃ k : Nat, k ≤ 4 ∧ i = .int .i64 k ∧ RowB wr (w.heap.size + 1) v (8 * k) a ∧ NumAt wr w.heap.size a ∧ Off (fun _ => False) w wr) (fun _ i _ => 4 - (intOf i).toNat)
  case atStart => exact ⟨0, by omega, rfl, World.ownsRow_nil _ _ _ _, heap_new' rfl _, (Off.refl _ w).alloc _⟩
  case round =>
    obtain ⟨k, hk, rfl, hR, hN, hO⟩ := hrel
    by_cases hlt : k < 4
    · have hc := hN.cell k hlt
      have i1 : decide ((k : Int) < 4) = true := by simp; omega
      have H3 := Lib.hid hR
      have HN := Lib.hid hN
      have HO := Lib.hid hO
      clear hR hN hO
      go_wp2
      obtain ⟨wo, rfl⟩ : ∃ wo : World, wo = wr := ⟨_, rfl⟩
      go_loopw [3, 5, 6] (fun v x i wr => ∃ j : Nat, j ≤ 8 ∧ i = .int .i64 j ∧ x = .int .u64 ((wd a k / 256 ^ j : Nat) : Int) ∧ RowB wr (w.heap.size + 1) v (8 * k + j) a ∧ NumAt wr w.heap.size a ∧ Off (fun _ => False) w wr) (fun _ _ i _ => 8 - (intOf i).toNat)
      case atStart => exact ⟨0, by omega, rfl, by simp, H3.out, HN.out, HO.out⟩
      case round =>
        obtain ⟨j, hj, rfl, rfl, hR, hN, hO⟩ := hrel
        have HN' := Lib.hid hN
        have HO' := Lib.hid hO
        have HR' := Lib.hid hR
        clear hR hN hO H3 HN HO
        by_cases hlt2 : j < 8
        · obtain ⟨x, hx⟩ : ∃ x, x = wd a k / 256 ^ j := ⟨_, rfl⟩
          have hxl : x < 18446744073709551616 := by rw [hx]; exact Nat.lt_of_le_of_lt (Nat.div_le_self _ _) (wd_lt a k)
          have HD := Lib.hid (show ((x % 256 : Nat) : Int) = (by8 a (8 * k + j) : Int) by rw [hx, ← by8_wd a k j hlt2]; rfl)
          have HX := Lib.hid (show x / 256 = wd a k / 256 ^ (j + 1) by rw [hx, div_succ])
          rw [← hx]
          clear hx
          have j1 : (j : Int) < 8 := by omega
          have x0 : (0 : Int) ≤ (x : Int) := by omega
          have x1 : (x : Int) ≤ 18446744073709551615 := by omega
          go_wp2_with (at_builtin; refine wpList_append_own _ rfl _ _ 30 rfl (w.heap.size + 1) 5 i0 _ 1 1 Tryd.underlying30 hi hz0 hz1 hz2 rfl (by decide) _ (8 * k + j) _ rfl (World.ownsRow.alloc HR'.out _) ⟨wr.heap.size, 0, none⟩ 1 1 [.int .u8 ((x : Int) % 256)] rfl rfl ?q1 ?q5 ?q2 ?q3 ?q4 ?_)
          case q1 =>
            intro j u hj
            cases j with
            | zero => simp at hj; subst hj; simp [go_sem]
            | succ j => simp at hj
          case q5 => simp [Value.oneCell']
          case q2 => unfold maxLen; omega
          case q3 => omega
          case q4 => have := HN'.out.lt; simp; omega
          intro v' w1 hown hgrow hnil
          have hR1 := RowB.snoc hown HD.out
          have hO1 := RowB.push HR'.out hgrow
          have hN1 : NumAt w1 w.heap.size a := hO1.heap HN'.out (by omega)
          have hO2 : Off (fun _ => False) w w1 := HO'.out.trans hO1 (fun y hy h => by omega)
          have HR1 := Lib.hid hR1
          have HN1 := Lib.hid hN1
          have HO2 := Lib.hid hO2
          clear hown hgrow hnil hR1 hO1 hN1 hO2 HR' HN' HO'
          go_wp2
          go_roundw
          case rel => exact ⟨j + 1, by omega, by go_num, by rw [← HX.out]; rfl, HR1.out, HN1.out, HO2.out⟩
          case measure => simp [intOf]; omega
        · obtain rfl : j = 8 := by omega
          go_wp2
          go_roundw
          case rel => exact ⟨k + 1, by omega, by go_num, by rw [Nat.mul_add]; exact HR'.out, HN'.out, HO'.out⟩
          case measure => simp [intOf]; omega
    · obtain rfl : k = 4 := by omega
      have HR := Lib.hid hR
      have HO := Lib.hid hO
      clear hR hN hO
      go_wp2
      go_ret
      exact ⟨_, rfl, HR.out, HO.out⟩
/-- The block b holds the words of the first k bytes of n. -/
def LowBAt (w : World) (b n k : Nat) : Prop := w.heap[b]? = some (.cells #[.int .u64 (lowB n k 0 : Int), .int .u64 (lowB n k 1 : Int), .int .u64 (lowB n k 2 : Int), .int .u64 (lowB n k 3 : Int)] 23 (0, 0))
theorem LowBAt.cell {w : World} {b n k : Nat} (h : LowBAt w b n k) (i : Nat) (hi : i < 4) : w.cell? ⟨b, i, none⟩ = some (.int .u64 (lowB n k i : Int)) := by
  rw [cell_of_heap h]
  have : i = 0 ∨ i = 1 ∨ i = 2 ∨ i = 3 := by omega
  rcases this with rfl | rfl | rfl | rfl <;> rfl
theorem LowBAt.step {w : World} {b n k : Nat} (h : LowBAt w b n k) (hk : k < 32) : LowBAt (w.setCell ⟨b, k / 8, none⟩ (.int .u64 (lowB n (k + 1) (k / 8) : Int))) b n (k + 1) := by
  have := heap_set h (k / 8) (.int .u64 (lowB n (k + 1) (k / 8) : Int))
  unfold LowBAt
  rw [this]
  have e : ∀ i, i ≠ k / 8 → lowB n (k + 1) i = lowB n k i := fun i hne => by rw [lowB_succ n k i, if_neg hne]; rfl
  have : k / 8 = 0 ∨ k / 8 = 1 ∨ k / 8 = 2 ∨ k / 8 = 3 := by omega
  rcases this with h4 | h4 | h4 | h4 <;> rw [h4] at e ⊢
  · simp [e 1 (by omega), e 2 (by omega), e 3 (by omega)]
  · simp [e 0 (by omega), e 2 (by omega), e 3 (by omega)]
  · simp [e 0 (by omega), e 1 (by omega), e 3 (by omega)]
  · simp [e 0 (by omega), e 1 (by omega), e 2 (by omega)]
attribute [local go_sem ↓] Go.wp_at_zero Go.wp_at_succ
set_option maxRecDepth 100000 in
set_option maxHeartbeats 4000000 in
theorem refnumber_any (a : Option Addr) (n cap : Nat) (bs : List Nat) (S : Nat → Prop) (w : World) (hb : BsAt w a bs S) (hn : n = bs.length) (hs : Small bs) (h32 : n ≤ 32) :
    Calls Tryd.prog 22 #[.slice a n cap] w fun e w' => e = .returned (V (numB bs)) ∧ Off (fun _ => False) w w' := by
  obtain ⟨N, hN⟩ : ∃ N, N = numB bs := ⟨_, rfl⟩
  have HB := Lib.hid (fun (W : World) (h : Off (fun _ => False) w W) (k : Nat) (hk : k < n) => show ∃ b off, a = some ⟨b, off, none⟩ ∧ W.cell? ⟨b, off + k, none⟩ = some (.int .u8 (by8 N k : Int)) by
    obtain ⟨b, off, ha, _, hc⟩ := hb (by omega)
    have h1 := hc k (bs[k]'(by omega)) (List.getElem?_eq_getElem _)
    have h2 := by8_numB hs (List.getElem?_eq_getElem (show k < bs.length by omega))
    exact ⟨b, off, ha, by rw [hN, h2]; exact h.cell h1 (fun c => c)⟩)
  have HF := Lib.hid (fun i => show lowB N n i = wd N i by unfold lowB; rw [hN, hn, Nat.mod_eq_of_lt (numB_lt hs)])
  rw [← hN]
  clear hb hn hs hN
  go_enter Tryd.func22, Tryd.ntmps22
  go_wp2
  go_loopw [4] (fun i wr => ∃ k : Nat, k ≤ n ∧ i = .int .i64 k ∧ LowBAt wr (w.heap.size + 1) N k ∧ PartAt wr w.heap.size 0 0 ∧ Off (fun _ => False) w wr) (fun i _ => n - (intOf i).toNat)
  case atStart => exact ⟨0, by omega, rfl, by unfold LowBAt; simp only [lowB_zero]; exact heap_new' (by simp) _, heap_old' (heap_new' rfl _) _, ((Off.refl _ w).alloc _).alloc _⟩
  case round =>
    obtain ⟨k, hk, rfl, hL, hP, hO⟩ := hrel
    by_cases hlt : k < n
    · have i1 : decide ((k : Int) < (n : Int)) = true := by simp; omega
      have i2 : decide ((k : Int) < 32) = true := by simp; omega
      have i3 : (k : Int) < (n : Int) := by omega
      have i4 : (k : Int) < 32 := by omega
      have HL := Lib.hid hL
      have HP := Lib.hid hP
      have HO := Lib.hid hO
      clear hL hP hO
      go_wp2
      go_loop [5, 6] (fun u i => ∃ j : Nat, j ≤ k % 8 ∧ i = .int .i64 j ∧ u = .int .u64 ((256 ^ j : Nat) : Int)) (fun _ i => k % 8 - (intOf i).toNat)
      case atStart => exact ⟨0, by omega, rfl, rfl⟩
      case round =>
        obtain ⟨j, hj, rfl, rfl⟩ := hrel
        by_cases hlt2 : j < k % 8
        · have j1 : (j : Int) < (k : Int) % 8 := by omega
          have HU := Lib.hid (Nat.pow_succ (n := 256) (m := j))
          have hu : 256 ^ j ≤ 256 ^ 6 := Nat.pow_le_pow_right (by omega) (by omega)
          have hu0 : 0 < 256 ^ j := Nat.pow_pos (by omega)
          obtain ⟨u, hu2⟩ : ∃ u, u = 256 ^ j := ⟨_, rfl⟩
          rw [← hu2] at HU hu hu0 ⊢
          obtain ⟨v, hv⟩ : ∃ v, v = u * 256 := ⟨_, rfl⟩
          have v0 : IntKind.u64.wrap ((u : Int) * 256) = (v : Int) := by simp at hu; rw [IntKind.wrap_u64]; omega
          rw [← hv] at HU
          clear hu2 hu hu0 hv
          go_wp2
          go_round
          case rel => exact ⟨j + 1, by omega, by go_num, by rw [HU.out]⟩
          case measure => simp [intOf]; omega
        · obtain rfl : j = k % 8 := by omega
          have j1 : ¬ ((k % 8 : Nat) : Int) < (k : Int) % 8 := by omega
          obtain ⟨q, hq⟩ : ∃ q, q = k / 8 := ⟨_, rfl⟩
          have co := HL.out.cell q (by omega)
          have q0 : (k : Int) / 8 = (q : Int) := by omega
          have q1 : (q : Int) < 4 := by omega
          have q2 : (0 : Int) ≤ (q : Int) := by omega
          obtain ⟨bb, off, rfl, cd⟩ := HB.out wr HO.out k hlt
          have hd := by8_lt N k
          have hsum := lowB_sum N k
          have hnext := lowB_succ N k q
          rw [if_pos hq] at hnext
          rw [← hq] at hsum
          have ffz := frozen_of_heap HL.out q
          have hu : 256 ^ (k % 8) ≤ 256 ^ 7 := Nat.pow_le_pow_right (by omega) (by omega)
          obtain ⟨u, hu2⟩ : ∃ u, u = 256 ^ (k % 8) := ⟨_, rfl⟩
          rw [← hu2] at hnext hsum hu ⊢
          obtain ⟨d, hd2⟩ : ∃ d, d = by8 N k := ⟨_, rfl⟩
          rw [← hd2] at cd hd hnext hsum
          obtain ⟨l, hl2⟩ : ∃ l, l = lowB N k q := ⟨_, rfl⟩
          rw [← hl2] at co hnext hsum
          obtain ⟨m, hm⟩ : ∃ m, m = d * u := ⟨_, rfl⟩
          rw [← hm] at hnext hsum
          obtain ⟨t, ht⟩ : ∃ t, t = l + m := ⟨_, rfl⟩
          rw [← ht] at hnext hsum
          have m0 : IntKind.u64.wrap ((d : Int) * (u : Int)) = (m : Int) := by rw [IntKind.wrap_u64]; omega
          have t0 : IntKind.u64.wrap ((l : Int) + (m : Int)) = (t : Int) := by rw [IntKind.wrap_u64]; omega
          have c0 : IntKind.u64.wrap (d : Int) = (d : Int) := by rw [IntKind.wrap_u64]; omega
          have HT := Lib.hid hnext
          have q3 : (k : Int).tdiv 8 = (q : Int) := by rw [Int.tdiv_eq_ediv_of_nonneg (by omega)]; exact q0
          have HQ := Lib.hid hq
          have q4 : IntKind.i64.wrap (q : Int) = (q : Int) := IntWalk.i64_in _ (by omega)
          clear hnext hsum hu hu2 hd2 hl2 hm ht hq
          go_wp2
          go_still_tail 13, (by kernel_rfl)
          change wpList _ _ _ _ _ wr.drew
          go_wp2
          go_roundw
          case rel => exact ⟨k + 1, by omega, by go_num, by rw [← HT.out, HQ.out]; exact HL.out.step (by omega), (Below.heap_setCell _ _ _ _ (by simp)).trans HP.out, (HO.out.setCell (fun c => by simp at c; omega) _).drew⟩
          case measure => simp [intOf]; omega
    · obtain rfl : k = n := by omega
      have c0 := hL.cell 0 (by omega)
      have c1 := hL.cell 1 (by omega)
      have c2 := hL.cell 2 (by omega)
      have c3 := hL.cell 3 (by omega)
      rw [HF.out] at c0 c1 c2 c3
      have fz := fun k => frozen_of_heap hP.old k
      have r0 := hP.cell0 0 (by omega)
      have r1 := hP.cell0 1 (by omega)
      have r2 := hP.cell0 2 (by omega)
      have r3 := hP.cell0 3 (by omega)
      have HO := Lib.hid hO
      clear hL hP hO
      go_wp2
      refine bodyPost_ret (v := V N) (by simp [results, Tryd.results22, go_sem, r0, r1, r2, r3]) rfl ⟨rfl, ?_⟩
      have hn : ∀ j, (⟨w.heap.size, j, none⟩ : Addr).block < w.heap.size → False := fun j c => by simp at c
      exact (((HO.out.setCell (hn 0) _).setCell (hn 1) _).setCell (hn 2) _).setCell (hn 3) _
set_option maxRecDepth 100000 in
set_option maxHeartbeats 4000000 in
theorem refunpack_any (v : Nat) (m : Int) (hm : (Lit.int .i64 m).wf = true) (w : World) :
    Calls Tryd.prog 23 #[V v, .int .i64 m] w fun e w' => ∃ sv, e = .returned (.tuple #[sv, .int .i64 ((unpV v m).2 : Int)]) ∧ SvAt w' sv (unpV v m).1 ∧ Off (fun _ => False) w w' := by
  have HE := Lib.hid (fun W => refenc_any v W)
  have hmr : -9223372036854775808 ≤ m ∧ m ≤ 9223372036854775807 := bounds_i64 hm
  clear hm
  by_cases hr : 0 ≤ m ∧ m ≤ 31
  · obtain ⟨k, rfl⟩ := Int.eq_ofNat_of_zero_le hr.1
    have hk : k ≤ 31 := by omega
    have hd : unpV v (k : Int) = if orB ((bytesN v 32).drop k) = 0 then ((bytesN v 32).take k, 0) else ([], 10) := by unfold unpV; rw [if_pos hr]; simp
    obtain ⟨q, hq⟩ : ∃ q, q = unpV v (k : Int) := ⟨_, rfl⟩
    rw [← hq] at hd ⊢
    have HQ := Lib.hid hd
    have i1 : decide ((k : Int) < 0) = false := by simp
    have i2 : decide ((31 : Int) < (k : Int)) = false := by simp; omega
    have i3 : ¬ ((k : Int) < 0) := by omega
    have i4 : (k : Int) ≤ 31 := by omega
    have i5 : (0 : Int) ≤ (k : Int) := by omega
    clear hd hr hmr hq
    go_enter Tryd.func23, Tryd.ntmps23
    go_wp2_with fail
    refine (HE.out _).mono ?_
    rintro e u1 ⟨sv, rfl, hR, hO⟩
    obtain ⟨g, cap, rfl, hg, hgl, hcap⟩ := hR.form (by omega)
    have hO1 : Off (fun _ => False) w u1 := ((Off.refl (fun _ => False) w).alloc _).trans hO (fun _ _ c => c)
    have hB := hR.at
    have hC : ∀ j, j < 32 → u1.cell? ⟨g, j, none⟩ = some (u8v (by8 v j)) := fun j hj => by
      obtain ⟨b, off, ha, _, hc⟩ := hB (by rw [bytesN_length]; omega)
      simp at ha
      obtain ⟨rfl, rfl⟩ := ha
      have := hc j _ (bytesN_get v 32 j hj)
      rwa [Nat.zero_add] at this
    have HB := Lib.hid hB
    have HO := Lib.hid hO1
    have HC := Lib.hid hC
    have HL := Lib.hid (show (∀ t, t < 32 - k → by8 v (k + t) = 0) → orB ((bytesN v 32).drop k) = 0 by
      intro h
      rw [orB_zero]
      intro x hx
      obtain ⟨t, ht⟩ := List.getElem?_of_mem hx
      have hl := (List.getElem?_eq_some_iff.1 ht).1
      rw [List.length_drop, bytesN_length] at hl
      rw [List.getElem?_drop, bytesN_get _ _ _ (by omega)] at ht
      have := h t hl
      simp at ht
      omega)
    have HM := Lib.hid (show ∀ t, t < 32 - k → by8 v (k + t) ≠ 0 → orB ((bytesN v 32).drop k) ≠ 0 by
      intro t ht h h2
      rw [orB_zero] at h2
      exact h (h2 _ (List.mem_of_getElem? (i := t) (by rw [List.getElem?_drop, bytesN_get _ _ _ (by omega)]))))
    have hhi := slice_hi g 0 32 cap k (by omega)
    clear hB hO hO1 hg HE hR hC
    obtain ⟨z, hz⟩ : ∃ z, z = orB ((bytesN v 32).drop k) := ⟨_, rfl⟩
    rw [← hz] at HQ HL HM
    clear hz
    go_wp2_with fail
    go_loop [7] (fun i' => ∃ j : Nat, k + j ≤ 32 ∧ i' = .int .i64 ((k + j : Nat) : Int) ∧ Hid (∀ t, t < j → by8 v (k + t) = 0)) (fun i' => 32 - (intOf i').toNat)
    case atStart => exact ⟨0, by omega, rfl, Lib.hid (fun t ht => absurd ht (by omega))⟩
    case round =>
      obtain ⟨j, hj, rfl, hZ⟩ := hrel
      obtain ⟨x, hx⟩ : ∃ x, x = k + j := ⟨_, rfl⟩
      have HX := Lib.hid hx
      have hx2 : x ≤ 32 := by omega
      rw [← hx]
      by_cases hlt : x < 32
      · have j1 : decide ((x : Int) < 32) = true := by simp; omega
        have j2 : (x : Int) < 32 := by omega
        have cb := HC.out x hlt
        have hM := HM.out j (by omega)
        rw [← hx] at hM
        have hb := by8_lt v x
        obtain ⟨b, hbx⟩ : ∃ b, b = by8 v x := ⟨_, rfl⟩
        rw [← hbx] at cb hb hM
        by_cases hb0 : b = 0
        · have HZ := Lib.hid (show ∀ t, t < j + 1 → by8 v (k + t) = 0 by
            intro t ht
            rcases Nat.lt_or_ge t j with h | h
            · exact hZ.out t h
            · obtain rfl : t = j := by omega
              rw [← hx, ← hbx]; exact hb0)
          subst hb0
          clear hM hb hbx hZ hx hx2
          go_wp2
          go_round
          case rel => exact ⟨j + 1, by have := HX.out; omega, by have := HX.out; rw [show k + (j + 1) = x + 1 by omega]; go_num, HZ⟩
          case measure => simp [intOf]; omega
        · have HQ2 := Lib.hid (HQ.out.trans (if_neg (hM hb0)))
          have b1 : ¬ ((b : Int) = 0) := by omega
          clear hM hb hbx hZ hx hx2 HQ hb0 HL HM
          go_wp2
          go_ret2
          have hq2 := HQ2.out
          subst hq2
          exact ⟨_, rfl, ⟨_, _, _, rfl, rfl, Nat.le_refl _, BsAt.nil _ _ _⟩, HO.out⟩
      · obtain rfl : x = 32 := by omega
        have HQ2 := Lib.hid (HQ.out.trans (if_pos (HL.out (fun t ht => hZ.out t (by omega)))))
        clear hZ hx hx2 HQ HL HM HC
        go_wp2
        go_ret2
        have hq2 := HQ2.out
        subst hq2
        exact ⟨_, rfl, ⟨_, _, _, rfl, by simp [bytesN_length]; omega, by omega, HB.out.take k⟩, HO.out⟩
  · have hd : unpV v m = ([], 8) := by unfold unpV; rw [if_neg hr]
    rw [hd]
    clear hd
    by_cases h0 : m < 0
    · have i1 : decide (m < 0) = true := by simp; omega
      clear hr hmr HE
      go_enter Tryd.func23, Tryd.ntmps23
      go_wp2
      go_ret2
      exact ⟨_, rfl, ⟨_, _, _, rfl, rfl, Nat.le_refl _, BsAt.nil _ _ _⟩, (Off.refl _ w).alloc _⟩
    · have i1 : decide (m < 0) = false := by simp; omega
      have i2 : decide ((31 : Int) < m) = true := by simp; omega
      clear hr hmr HE
      go_enter Tryd.func23, Tryd.ntmps23
      go_wp2
      go_ret2
      exact ⟨_, rfl, ⟨_, _, _, rfl, rfl, Nat.le_refl _, BsAt.nil _ _ _⟩, (Off.refl _ w).alloc _⟩
/-- The number of at most 31 bytes, and its bytes. -/
theorem unp_pack {bs : List Nat} (hs : Small bs) (h : bs.length ≤ 31) : unpV (numB bs) (bs.length : Int) = (bs, 0) := by
  unfold unpV
  rw [if_pos ⟨by omega, by omega⟩, Int.toNat_natCast]
  have h1 : (bytesN (numB bs) 32).take bs.length = bs := by rw [bytesN_take _ _ _ (by omega), bytesN_numB hs]
  have h2 : orB ((bytesN (numB bs) 32).drop bs.length) = 0 := by
    rw [orB_zero]
    intro x hx
    obtain ⟨t, ht⟩ := List.getElem?_of_mem hx
    have hl := (List.getElem?_eq_some_iff.1 ht).1
    rw [List.length_drop, bytesN_length] at hl
    rw [List.getElem?_drop, bytesN_get _ _ _ (by omega), by8_over hs (by omega)] at ht
    exact (Option.some.inj ht).symm
  rw [if_pos h2, h1]
theorem fld_big {id : Int} {p i r s : Nat} (hF : Fld id p i r s) : 256 ^ 31 ≤ p := by
  have h := hF.mod
  have h0 := hF.mp.pos
  unfold modN at h
  split at h
  · subst h; decide +kernel
  · split at h
    · subst h; decide +kernel
    · omega
end Go.Proofs.YtclknpkjnkgejaaDoor
