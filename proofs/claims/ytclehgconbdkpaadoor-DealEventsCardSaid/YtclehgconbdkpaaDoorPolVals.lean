/-
  The statements' Values of layer 8: the numbers modulo p, and their elements. Conditions: p is a number above 1 of four words, the list is short.
-/
import Derived.Test.YtclehgconbdkpaaDoorPolRefer
import Derived.Test.YtclehgconbdkpaaDoorEvOwn
import Derived.Test.YtclehgconbdkpaaDoorInvAll
import Derived.Test.YtclehgconbdkpaaDoorModAll
namespace Go.Proofs.YtclehgconbdkpaaDoor
open Go.RowKit
attribute [local go_sem ↓] Go.wp_at_zero Go.wp_at_succ
theorem rows_apart {w : World} {base base2 size size2 n m : Nat} {T T2 : TypeId} {u v : Value} {xs ys : List Value} (h : w.ownsRow base T size u n xs) (k : w.ownsRow base2 T2 size2 v m ys) (hne : T ≠ T2) : u.ownBlock = none ∨ u.ownBlock ≠ v.ownBlock := by
  rcases h.2 with ⟨rfl, _⟩ | ⟨g, cap, cur, rfl, _, hg, _⟩
  · exact .inl rfl
  · rcases k.2 with ⟨rfl, _⟩ | ⟨g2, cap2, cur2, rfl, _, hg2, _⟩
    · exact .inr (by simp [Value.ownBlock])
    · refine .inr (fun e => ?_)
      obtain rfl : g = g2 := by simpa [Value.ownBlock] using e
      rw [hg] at hg2
      simp only [Option.some.injEq, Obj.cells.injEq] at hg2
      exact hne hg2.2.1
theorem own_below {w : World} {B B' : Nat} {T : TypeId} {size n : Nat} {v : Value} {xs : List Value} (h : w.ownsRow B T size v n xs) (hb : B' ≤ B) : w.ownsRow B' T size v n xs := by
  refine ⟨h.1, ?_⟩
  rcases h.2 with h2 | ⟨g, cap, cur, h1, h2, h3⟩
  · exact .inl h2
  · exact .inr ⟨g, cap, cur, h1, Nat.le_trans hb h2, h3⟩
set_option maxRecDepth 100000 in
set_option maxHeartbeats 4000000 in
theorem values_own {p : Nat} (hp : p < R256) (h1 : 1 < p) (xs : List Nat) (hx : ∀ x ∈ xs, x < R256) (hl : xs.length ≤ 10000) (v : Value) (w : World) (hV : Ls w v xs) :
    Calls Tryd.prog 19 #[V p, v] w fun e w' => ∃ a c a2 c2, e = .returned (.tuple #[.slice a xs.length c, .slice a2 xs.length c2]) ∧ w'.ownsRow w.heap.size 51 4 (.slice a xs.length c) xs.length (flat4 (xs.map (· % p))) ∧ w'.ownsRow w.heap.size 66 4 (.slice a2 xs.length c2) xs.length (flat4 ((xs.map (· % p)).map (fm p))) ∧ Off (fun _ => False) w w' := by
  obtain ⟨a, cap, rfl, hL⟩ := hV.open
  clear hV
  obtain ⟨n, hn⟩ : ∃ n, n = xs.length := ⟨_, rfl⟩
  rw [← hn] at hL hl ⊢
  obtain ⟨ys, hys⟩ : ∃ ys, ys = xs.map (· % p) := ⟨_, rfl⟩
  obtain ⟨zs, hzs⟩ : ∃ zs, zs = ys.map (fm p) := ⟨_, rfl⟩
  rw [← hys, ← hzs]
  have hyn : ys.length = n := by rw [hys, List.length_map, hn]
  have hzn : zs.length = n := by rw [hzs, List.length_map, hyn]
  have FMa := Lib.hid (fun a ha W => mod_mod p a hp h1 ha W : ∀ a, a < R256 → ∀ W, _)
  have FFa := Lib.hid (fun a ha W => form8_any p a hp h1 ha W : ∀ a, a < R256 → ∀ W, _)
  obtain ⟨i0, hi, hz0, hz1, hz2⟩ := info_parts elem_info
  obtain ⟨j0, hj, hj0, hj1, hj2⟩ := info_parts vec_info
  have HN := Lib.hid hn
  have HYs := Lib.hid hys
  have HZs := Lib.hid hzs
  have HYn := Lib.hid hyn
  have HZn := Lib.hid hzn
  have HL := Lib.hid hL
  clear hn hys hzs hyn hzn hL
  go_enter Tryd.func19, Tryd.ntmps19
  go_wp2_with fail
  obtain ⟨W0, hW0⟩ : ∃ W0, W0 = w.alloc (.cells #[.int .u64 (wd p 0 : Int), .int .u64 (wd p 1 : Int), .int .u64 (wd p 2 : Int), .int .u64 (wd p 3 : Int)] 51) := ⟨_, rfl⟩
  rw [← hW0]
  have hOw : Off (fun _ => False) w W0 := by rw [hW0]; exact (Off.refl _ w).alloc _
  have hP0 : W0.heap[w.heap.size]? = some (.cells #[.int .u64 (wd p 0 : Int), .int .u64 (wd p 1 : Int), .int .u64 (wd p 2 : Int), .int .u64 (wd p 3 : Int)] 51 (0, 0)) := by rw [hW0]; exact heap_new' rfl _
  obtain ⟨bp, hbp⟩ : ∃ bp, bp = w.heap.size := ⟨_, rfl⟩
  rw [← hbp] at hP0 ⊢
  have HOw := Lib.hid hOw
  have HP := Lib.hid hP0
  have hb0 : W0.heap.size ≤ W0.heap.size := Nat.le_refl _
  have HB0 := Lib.hid (show w.heap.size ≤ W0.heap.size from HOw.out.size)
  clear hbp hW0 hOw hP0
  go_loopw [6, 7, 12] (fun v x i wr => ∃ k : Nat, k ≤ n ∧ i = .int .i64 (k : Int) ∧ (∃ a c, v = .slice a k c ∧ wr.ownsRow W0.heap.size 51 4 v k (flat4 (ys.take k))) ∧ (∃ a c, x = .slice a k c ∧ wr.ownsRow W0.heap.size 66 4 x k (flat4 (zs.take k))) ∧ Off (fun _ => False) W0 wr) (fun _ _ i _ => n - (intOf i).toNat)
  case atStart => exact ⟨0, Nat.zero_le _, rfl, ⟨none, 0, rfl, World.ownsRow_nil _ _ _ _⟩, ⟨none, 0, rfl, World.ownsRow_nil _ _ _ _⟩, Off.refl _ _⟩
  case round =>
    obtain ⟨k, hk, rfl, ⟨va, vc, rfl, hov⟩, ⟨vx, cx, rfl, hox⟩, hO⟩ := hrel
    by_cases hlt : k < n
    · obtain ⟨x, b, off, hxk, rfl, c0, c1, c2, c3⟩ := (HL.out.off (HOw.out.trans hO (fun _ _ c => c)) (fun _ _ _ c => c)).at hlt
      have hxR : x < R256 := hx x (List.mem_of_getElem? hxk)
      obtain ⟨m, hm⟩ : ∃ m, m = x % p := ⟨_, rfl⟩
      obtain ⟨z, hz⟩ : ∃ z, z = fm p m := ⟨_, rfl⟩
      have hmR : m < R256 := by rw [hm]; exact Nat.lt_trans (Nat.mod_lt _ (by omega)) hp
      have hyk : ys[k]? = some m := by rw [HYs.out, List.getElem?_map, hxk, hm]; rfl
      have hzk : zs[k]? = some z := by rw [HZs.out, List.getElem?_map, hyk, hz]; rfl
      have tk : ∀ {l : List Nat} {y : Nat}, l[k]? = some y → l.take (k + 1) = l.take k ++ [y] := fun h => by
        obtain ⟨hlk, hxk⟩ := List.getElem?_eq_some_iff.1 h
        rw [List.take_succ_eq_append_getElem hlk, hxk]
      have HYt := Lib.hid (show flat4 (ys.take k) ++ words4 m = flat4 (ys.take (k + 1)) by rw [tk hyk, flat4_append]; rfl)
      have HZt := Lib.hid (show flat4 (zs.take k) ++ words4 z = flat4 (zs.take (k + 1)) by rw [tk hzk, flat4_append]; rfl)
      have HFl := Lib.hid (show (flat4 (ys.take (k + 1))).length = (k + 1) * 4 by rw [flat4_length, List.length_take, HYn.out, Nat.min_eq_left (by omega)])
      have HFg := Lib.hid (show (ys.take (k + 1))[k]? = some m by rw [List.getElem?_take, if_pos (by omega)]; exact hyk)
      have FMo := Lib.hid (fun W => by have h := FMa.out x hxR W; rw [← hm] at h; exact h)
      have FFo := Lib.hid (fun W => by have h := FFa.out m hmR W; rw [← hz] at h; exact h)
      have hkn : (k : Int) < (n : Int) := by omega
      have hwk : IntKind.i64.wrap ((k : Int) + 1) = (k : Int) + 1 := by rw [IntKind.wrap_i64]; omega
      have hwk2 : IntKind.i64.wrap (k : Int) = (k : Int) := by rw [IntKind.wrap_i64]; omega
      have hkk : (k : Int) < (k : Int) + 1 := by omega
      have hP := hO.heap HP.out (fun c => c)
      obtain ⟨p0, p1, p2, p3⟩ := cells4 hP
      have hpl := heap_lt hP
      have HO := Lib.hid hO
      have HOv := Lib.hid hov
      have HOx := Lib.hid hox
      clear hP hO hov hox hxk hxR hm hz hmR hyk hzk tk
      go_wp2_with fail
      refine (FMo.out _).mono ?_
      rintro e u1 ⟨rfl, hO1⟩
      have hOa : Off (fun _ => False) wr u1 := ((Off.refl _ wr).alloc _).trans hO1 (fun _ _ c => c)
      have HOa := Lib.hid hOa
      have HO2 := Lib.hid (HO.out.trans hOa (fun _ _ c => c))
      have HOv2 := Lib.hid (own_off HOv.out hOa)
      have HOx2 := Lib.hid (own_off HOx.out hOa)
      clear p0 p1 p2 p3 hpl c0 c1 c2 c3 hO1 hOa
      go_wp2_with (at_builtin; refine wpList_append_own _ rfl _ _ 46 rfl W0.heap.size 51 j0 _ 4 32 Tryd.underlying46 hj hj0 hj1 hj2 rfl (by decide) _ k _ rfl (HOv2.out.alloc _) ⟨u1.heap.size, 0, none⟩ 1 1 (words4 m) rfl rfl ?q1 (words4_one _) ?q2 ?q3 ?q4 ?_)
      case q1 => exact words4_at (heap_new' rfl _)
      case q2 => unfold maxLen; omega
      case q3 => omega
      case q4 => have := HO2.out.size; simp; omega
      intro v' w1 hown' hgrow hnil
      have hox3 := (HOx2.out.alloc (.cells #[.int .u64 (wd m 0 : Int), .int .u64 (wd m 1 : Int), .int .u64 (wd m 2 : Int), .int .u64 (wd m 3 : Int)] 51)).kept hgrow (rows_apart (HOx2.out.alloc (.cells #[.int .u64 (wd m 0 : Int), .int .u64 (wd m 1 : Int), .int .u64 (wd m 2 : Int), .int .u64 (wd m 3 : Int)] 51)) (HOv2.out.alloc (.cells #[.int .u64 (wd m 0 : Int), .int .u64 (wd m 1 : Int), .int .u64 (wd m 2 : Int), .int .u64 (wd m 3 : Int)] 51)) (by decide))
      obtain ⟨g6, c6, rfl⟩ := ownsRow_succ hown'
      have hO3 : Off (fun _ => False) W0 w1 := grown_off (HO2.out.alloc _) (Nat.le_refl _) (HOv2.out.alloc _) hgrow
      rw [HYt.out] at hown'
      have hcc := hown'.cells (g := g6) rfl
      obtain ⟨f0, f1, f2, f3⟩ := flat4_get _ _ _ HFg.out
      have c0 := hcc _ _ f0
      have c1 := hcc _ _ f1
      have c2 := hcc _ _ f2
      have c3 := hcc _ _ f3
      rw [Addr.add_lit, Nat.zero_add] at c0 c1 c2 c3
      obtain ⟨W1, hW1⟩ : ∃ W1, W1 = w1 := ⟨_, rfl⟩
      subst hW1
      have hP1 := hO3.heap HP.out (fun c => c)
      have HK : Hid (∀ W', Off (fun _ => False) W1 W' → (W'.cell? ⟨bp, 0, none⟩ = some (.int .u64 (wd p 0 : Int)) ∧ W'.cell? ⟨bp, 1, none⟩ = some (.int .u64 (wd p 1 : Int)) ∧ W'.cell? ⟨bp, 2, none⟩ = some (.int .u64 (wd p 2 : Int)) ∧ W'.cell? ⟨bp, 3, none⟩ = some (.int .u64 (wd p 3 : Int))) ∧ (W'.cell? ⟨g6, k * 4, none⟩ = some (.int .u64 (wd m 0 : Int)) ∧ W'.cell? ⟨g6, k * 4 + 1, none⟩ = some (.int .u64 (wd m 1 : Int)) ∧ W'.cell? ⟨g6, k * 4 + 2, none⟩ = some (.int .u64 (wd m 2 : Int)) ∧ W'.cell? ⟨g6, k * 4 + 3, none⟩ = some (.int .u64 (wd m 3 : Int))) ∧ Off (fun _ => False) W1 W') := Lib.hid (fun W' h => ⟨cells4 (h.heap hP1 (fun c => c)), ⟨h.cell c0 (fun c => c), h.cell c1 (fun c => c), h.cell c2 (fun c => c), h.cell c3 (fun c => c)⟩, h⟩)
      obtain ⟨L, hL⟩ : ∃ L, L = flat4 (zs.take k) := ⟨_, rfl⟩
      obtain ⟨L6, hL6⟩ : ∃ L6, L6 = flat4 (ys.take (k + 1)) := ⟨_, rfl⟩
      rw [← hL] at hox3 HZt
      rw [← hL6] at hown'
      have HL6 := Lib.hid hL6
      have HRow := Lib.hid hox3
      have HRv := Lib.hid hown'
      have HW01 := Lib.hid hO3
      have hbase : W0.heap.size ≤ W1.heap.size := hO3.size
      clear hox3 hown' hgrow hnil hO3 hcc f0 f1 f2 f3 c0 c1 c2 c3 hP1 hL hL6
      go_upto_region 7 with fail
      refine wp_region_inv (fun a0 l a' w' => ∃ (u22 : Value) (u23 : Value) (u24 : Value) (u25 : Value) (u26 : Value) (u27 : Value) (u28 : Value) (u29 : Value) (u30 : Value) (u31 : Value) (u32 : Value) (u7 : Value) (B : Nat), a' = (Act.put (Act.put (Act.put (Act.put (Act.put (Act.put (Act.put (Act.put (Act.put (Act.put (Act.put (Act.put a0 (some 22) u22) (some 23) u23) (some 24) u24) (some 25) u25) (some 26) u26) (some 27) u27) (some 28) u28) (some 29) u29) (some 30) u30) (some 31) u31) (some 32) u32) (some 7) u7) ∧ Slot l 0 u22 (.slice vx k cx) ∧ Slot l 1 u23 (V p) ∧ Slot l 2 u24 (.slice (some ⟨g6, 0, none⟩) (k + 1) c6) ∧ Slot l 3 u25 (.slice (some ⟨g6, 0, none⟩) (k + 1) c6) ∧ Slot l 4 u26 (.int .i64 ((k : Int) + 1)) ∧ Slot l 5 u27 (.int .i64 (k : Int)) ∧ Slot l 6 u28 (.pointer (some ⟨g6, k * 4, none⟩)) ∧ Slot l 7 u29 (V m) ∧ Slot l 8 u30 (V z) ∧ (l 9 = true → u31 = .slice (some ⟨B, 0, none⟩) 1 1 ∧ (l 10 = false → w'.heap[B]? = some (.cells #[.int .u64 (wd z 0 : Int), .int .u64 (wd z 1 : Int), .int .u64 (wd z 2 : Int), .int .u64 (wd z 3 : Int)] 66))) ∧ (l 10 = false → w'.ownsRow W0.heap.size 66 4 (.slice vx k cx) k L ∧ Off (fun _ => False) W1 w') ∧ (l 10 = true → w'.ownsRow W0.heap.size 66 4 u32 (k + 1) (L ++ words4 z) ∧ Off (fun _ => False) W0 w') ∧ ((l 11 = true → u7 = u32) ∧ (l 11 = false → u7 = .slice vx k cx)) ∧ w'.ownsRow W0.heap.size 51 4 (.slice (some ⟨g6, 0, none⟩) (k + 1) c6) (k + 1) L6 ∧ Dep l 3 4 ∧ Dep l 4 5 ∧ Dep l 2 6 ∧ Dep l 5 6 ∧ Dep l 6 7 ∧ Dep l 1 8 ∧ Dep l 7 8 ∧ Dep l 8 9 ∧ Dep l 0 10 ∧ Dep l 9 10 ∧ Dep l 10 11) (by kernel_rfl) (by kernel_rfl) ?_ ⟨?_, ?_, ?_, ?_, ?_, ?_, ?_, ?_, ?_, ?_, ?_, ?_, trivial⟩ ?_
      · refine ⟨?z22, ?z23, ?z24, ?z25, ?z26, ?z27, ?z28, ?z29, ?z30, ?z31, ?z32, (.slice vx k cx), 0, ?fr, Slot.start _ _ _, Slot.start _ _ _, Slot.start _ _ _, Slot.start _ _ _, Slot.start _ _ _, Slot.start _ _ _, Slot.start _ _ _, Slot.start _ _ _, Slot.start _ _ _, (fun h => by cases h), (fun _ => ⟨HRow.out, (Off.refl _ W1).drew⟩), (fun h => by cases h), ⟨fun h => (by cases h), fun _ => rfl⟩, own_off HRv.out (Off.refl _ W1).drew, Dep.start _ _, Dep.start _ _, Dep.start _ _, Dep.start _ _, Dep.start _ _, Dep.start _ _, Dep.start _ _, Dep.start _ _, Dep.start _ _, Dep.start _ _, Dep.start _ _⟩
        case fr => first | (simp only [Act.put, List.setIfInBounds_toArray, List.set_cons_zero, List.set_cons_succ]; rfl) | simp only [Act.put, List.setIfInBounds_toArray, List.set_cons_zero, List.set_cons_succ]
      · as_aux_lemma =>
          intro l a wr hI hl hd K' hK
          obtain ⟨u22, u23, u24, u25, u26, u27, u28, u29, u30, u31, u32, u7, B, ha, s0, s1, s2, s3, s4, s5, s6, s7, s8, hB, hN, hA, h8, hV, P3_4, P4_5, P2_6, P5_6, P6_7, P1_8, P7_8, P8_9, P0_10, P9_10, P10_11⟩ := hI
          simp only [Act.put, List.setIfInBounds_toArray, List.set_cons_zero, List.set_cons_succ] at ha
          have h7 := (P0_10 hl)
          have hO := (hN h7).2
          have q8 := h8.2 (P10_11 h7)
          subst ha q8
          go_simp
          refine hK.out _ _ ⟨_, _, _, _, _, _, _, _, _, _, _, _, B, ?_, Slot.new _ _ _, s1.keep rfl, s2.keep rfl, s3.keep rfl, s4.keep rfl, s5.keep rfl, s6.keep rfl, s7.keep rfl, s8.keep rfl, (fun h => by obtain ⟨h1, h2⟩ := hB (by rw [upd_ne _ (by decide)] at h; exact h); exact ⟨h1, fun h' => h2 (by rw [upd_ne _ (by decide)] at h'; exact h')⟩), (fun h => hN (by rw [upd_ne _ (by decide)] at h; exact h)), (fun h => by rw [upd_ne _ (by decide), h7] at h; cases h), ⟨fun h => h8.1 (by rw [upd_ne _ (by decide)] at h; exact h), fun h => h8.2 (by rw [upd_ne _ (by decide)] at h; exact h)⟩, hV, P3_4.keep rfl, P4_5.keep rfl, P2_6.keep rfl, P5_6.keep rfl, P6_7.keep rfl, P1_8.keep rfl, P7_8.keep rfl, P8_9.keep rfl, P0_10.keep rfl, P9_10.keep rfl, P10_11.keep rfl⟩
          simp only [Act.put, List.setIfInBounds_toArray, List.set_cons_zero, List.set_cons_succ]
      · as_aux_lemma =>
          intro l a wr hI hl hd K' hK
          obtain ⟨u22, u23, u24, u25, u26, u27, u28, u29, u30, u31, u32, u7, B, ha, s0, s1, s2, s3, s4, s5, s6, s7, s8, hB, hN, hA, h8, hV, P3_4, P4_5, P2_6, P5_6, P6_7, P1_8, P7_8, P8_9, P0_10, P9_10, P10_11⟩ := hI
          simp only [Act.put, List.setIfInBounds_toArray, List.set_cons_zero, List.set_cons_succ] at ha
          have h7 := (P9_10 (P8_9 (P1_8 hl)))
          have hO := (hN h7).2
          subst ha
          have hc := HK.out wr hO
          have p0 := hc.1.1
          have p1 := hc.1.2.1
          have p2 := hc.1.2.2.1
          have p3 := hc.1.2.2.2
          clear hc
          go_simp
          refine hK.out _ _ ⟨_, _, _, _, _, _, _, _, _, _, _, _, B, ?_, s0.keep rfl, Slot.new _ _ _, s2.keep rfl, s3.keep rfl, s4.keep rfl, s5.keep rfl, s6.keep rfl, s7.keep rfl, s8.keep rfl, (fun h => by obtain ⟨h1, h2⟩ := hB (by rw [upd_ne _ (by decide)] at h; exact h); exact ⟨h1, fun h' => h2 (by rw [upd_ne _ (by decide)] at h'; exact h')⟩), (fun h => hN (by rw [upd_ne _ (by decide)] at h; exact h)), (fun h => by rw [upd_ne _ (by decide), h7] at h; cases h), ⟨fun h => h8.1 (by rw [upd_ne _ (by decide)] at h; exact h), fun h => h8.2 (by rw [upd_ne _ (by decide)] at h; exact h)⟩, hV, P3_4.keep rfl, P4_5.keep rfl, P2_6.keep rfl, P5_6.keep rfl, P6_7.keep rfl, P1_8.keep rfl, P7_8.keep rfl, P8_9.keep rfl, P0_10.keep rfl, P9_10.keep rfl, P10_11.keep rfl⟩
          simp only [Act.put, List.setIfInBounds_toArray, List.set_cons_zero, List.set_cons_succ]
      · as_aux_lemma =>
          intro l a wr hI hl hd K' hK
          obtain ⟨u22, u23, u24, u25, u26, u27, u28, u29, u30, u31, u32, u7, B, ha, s0, s1, s2, s3, s4, s5, s6, s7, s8, hB, hN, hA, h8, hV, P3_4, P4_5, P2_6, P5_6, P6_7, P1_8, P7_8, P8_9, P0_10, P9_10, P10_11⟩ := hI
          simp only [Act.put, List.setIfInBounds_toArray, List.set_cons_zero, List.set_cons_succ] at ha
          have h7 := (P9_10 (P8_9 (P7_8 (P6_7 (P2_6 hl)))))
          have hO := (hN h7).2
          subst ha
          go_simp
          refine hK.out _ _ ⟨_, _, _, _, _, _, _, _, _, _, _, _, B, ?_, s0.keep rfl, s1.keep rfl, Slot.new _ _ _, s3.keep rfl, s4.keep rfl, s5.keep rfl, s6.keep rfl, s7.keep rfl, s8.keep rfl, (fun h => by obtain ⟨h1, h2⟩ := hB (by rw [upd_ne _ (by decide)] at h; exact h); exact ⟨h1, fun h' => h2 (by rw [upd_ne _ (by decide)] at h'; exact h')⟩), (fun h => hN (by rw [upd_ne _ (by decide)] at h; exact h)), (fun h => by rw [upd_ne _ (by decide), h7] at h; cases h), ⟨fun h => h8.1 (by rw [upd_ne _ (by decide)] at h; exact h), fun h => h8.2 (by rw [upd_ne _ (by decide)] at h; exact h)⟩, hV, P3_4.keep rfl, P4_5.keep rfl, P2_6.keep rfl, P5_6.keep rfl, P6_7.keep rfl, P1_8.keep rfl, P7_8.keep rfl, P8_9.keep rfl, P0_10.keep rfl, P9_10.keep rfl, P10_11.keep rfl⟩
          simp only [Act.put, List.setIfInBounds_toArray, List.set_cons_zero, List.set_cons_succ]
      · as_aux_lemma =>
          intro l a wr hI hl hd K' hK
          obtain ⟨u22, u23, u24, u25, u26, u27, u28, u29, u30, u31, u32, u7, B, ha, s0, s1, s2, s3, s4, s5, s6, s7, s8, hB, hN, hA, h8, hV, P3_4, P4_5, P2_6, P5_6, P6_7, P1_8, P7_8, P8_9, P0_10, P9_10, P10_11⟩ := hI
          simp only [Act.put, List.setIfInBounds_toArray, List.set_cons_zero, List.set_cons_succ] at ha
          have h7 := (P9_10 (P8_9 (P7_8 (P6_7 (P5_6 (P4_5 (P3_4 hl)))))))
          have hO := (hN h7).2
          subst ha
          go_simp
          refine hK.out _ _ ⟨_, _, _, _, _, _, _, _, _, _, _, _, B, ?_, s0.keep rfl, s1.keep rfl, s2.keep rfl, Slot.new _ _ _, s4.keep rfl, s5.keep rfl, s6.keep rfl, s7.keep rfl, s8.keep rfl, (fun h => by obtain ⟨h1, h2⟩ := hB (by rw [upd_ne _ (by decide)] at h; exact h); exact ⟨h1, fun h' => h2 (by rw [upd_ne _ (by decide)] at h'; exact h')⟩), (fun h => hN (by rw [upd_ne _ (by decide)] at h; exact h)), (fun h => by rw [upd_ne _ (by decide), h7] at h; cases h), ⟨fun h => h8.1 (by rw [upd_ne _ (by decide)] at h; exact h), fun h => h8.2 (by rw [upd_ne _ (by decide)] at h; exact h)⟩, hV, P3_4.keep rfl, P4_5.keep rfl, P2_6.keep rfl, P5_6.keep rfl, P6_7.keep rfl, P1_8.keep rfl, P7_8.keep rfl, P8_9.keep rfl, P0_10.keep rfl, P9_10.keep rfl, P10_11.keep rfl⟩
          simp only [Act.put, List.setIfInBounds_toArray, List.set_cons_zero, List.set_cons_succ]
      · as_aux_lemma =>
          intro l a wr hI hl hd K' hK
          obtain ⟨u22, u23, u24, u25, u26, u27, u28, u29, u30, u31, u32, u7, B, ha, s0, s1, s2, s3, s4, s5, s6, s7, s8, hB, hN, hA, h8, hV, P3_4, P4_5, P2_6, P5_6, P6_7, P1_8, P7_8, P8_9, P0_10, P9_10, P10_11⟩ := hI
          simp only [Act.put, List.setIfInBounds_toArray, List.set_cons_zero, List.set_cons_succ] at ha
          have q3 := s3 (hd 3 (by decide))
          have h7 := (P9_10 (P8_9 (P7_8 (P6_7 (P5_6 (P4_5 hl))))))
          have hO := (hN h7).2
          subst ha q3
          go_simp
          refine hK.out _ _ ⟨_, _, _, _, _, _, _, _, _, _, _, _, B, ?_, s0.keep rfl, s1.keep rfl, s2.keep rfl, s3.keep rfl, Slot.new _ _ _, s5.keep rfl, s6.keep rfl, s7.keep rfl, s8.keep rfl, (fun h => by obtain ⟨h1, h2⟩ := hB (by rw [upd_ne _ (by decide)] at h; exact h); exact ⟨h1, fun h' => h2 (by rw [upd_ne _ (by decide)] at h'; exact h')⟩), (fun h => hN (by rw [upd_ne _ (by decide)] at h; exact h)), (fun h => by rw [upd_ne _ (by decide), h7] at h; cases h), ⟨fun h => h8.1 (by rw [upd_ne _ (by decide)] at h; exact h), fun h => h8.2 (by rw [upd_ne _ (by decide)] at h; exact h)⟩, hV, Dep.at (hd 3 (by decide)), P4_5.keep rfl, P2_6.keep rfl, P5_6.keep rfl, P6_7.keep rfl, P1_8.keep rfl, P7_8.keep rfl, P8_9.keep rfl, P0_10.keep rfl, P9_10.keep rfl, P10_11.keep rfl⟩
          simp only [Act.put, List.setIfInBounds_toArray, List.set_cons_zero, List.set_cons_succ]
      · as_aux_lemma =>
          intro l a wr hI hl hd K' hK
          obtain ⟨u22, u23, u24, u25, u26, u27, u28, u29, u30, u31, u32, u7, B, ha, s0, s1, s2, s3, s4, s5, s6, s7, s8, hB, hN, hA, h8, hV, P3_4, P4_5, P2_6, P5_6, P6_7, P1_8, P7_8, P8_9, P0_10, P9_10, P10_11⟩ := hI
          simp only [Act.put, List.setIfInBounds_toArray, List.set_cons_zero, List.set_cons_succ] at ha
          have q4 := s4 (hd 4 (by decide))
          have h7 := (P9_10 (P8_9 (P7_8 (P6_7 (P5_6 hl)))))
          have hO := (hN h7).2
          subst ha q4
          go_simp
          refine hK.out _ _ ⟨_, _, _, _, _, _, _, _, _, _, _, _, B, ?_, s0.keep rfl, s1.keep rfl, s2.keep rfl, s3.keep rfl, s4.keep rfl, Slot.new _ _ _, s6.keep rfl, s7.keep rfl, s8.keep rfl, (fun h => by obtain ⟨h1, h2⟩ := hB (by rw [upd_ne _ (by decide)] at h; exact h); exact ⟨h1, fun h' => h2 (by rw [upd_ne _ (by decide)] at h'; exact h')⟩), (fun h => hN (by rw [upd_ne _ (by decide)] at h; exact h)), (fun h => by rw [upd_ne _ (by decide), h7] at h; cases h), ⟨fun h => h8.1 (by rw [upd_ne _ (by decide)] at h; exact h), fun h => h8.2 (by rw [upd_ne _ (by decide)] at h; exact h)⟩, hV, P3_4.keep rfl, Dep.at (hd 4 (by decide)), P2_6.keep rfl, P5_6.keep rfl, P6_7.keep rfl, P1_8.keep rfl, P7_8.keep rfl, P8_9.keep rfl, P0_10.keep rfl, P9_10.keep rfl, P10_11.keep rfl⟩
          simp only [Act.put, List.setIfInBounds_toArray, List.set_cons_zero, List.set_cons_succ]
      · as_aux_lemma =>
          intro l a wr hI hl hd K' hK
          obtain ⟨u22, u23, u24, u25, u26, u27, u28, u29, u30, u31, u32, u7, B, ha, s0, s1, s2, s3, s4, s5, s6, s7, s8, hB, hN, hA, h8, hV, P3_4, P4_5, P2_6, P5_6, P6_7, P1_8, P7_8, P8_9, P0_10, P9_10, P10_11⟩ := hI
          simp only [Act.put, List.setIfInBounds_toArray, List.set_cons_zero, List.set_cons_succ] at ha
          have q2 := s2 (hd 2 (by decide))
          have q5 := s5 (hd 5 (by decide))
          have h7 := (P9_10 (P8_9 (P7_8 (P6_7 hl))))
          have hO := (hN h7).2
          subst ha q2 q5
          go_simp
          refine hK.out _ _ ⟨_, _, _, _, _, _, _, _, _, _, _, _, B, ?_, s0.keep rfl, s1.keep rfl, s2.keep rfl, s3.keep rfl, s4.keep rfl, s5.keep rfl, Slot.new _ _ _, s7.keep rfl, s8.keep rfl, (fun h => by obtain ⟨h1, h2⟩ := hB (by rw [upd_ne _ (by decide)] at h; exact h); exact ⟨h1, fun h' => h2 (by rw [upd_ne _ (by decide)] at h'; exact h')⟩), (fun h => hN (by rw [upd_ne _ (by decide)] at h; exact h)), (fun h => by rw [upd_ne _ (by decide), h7] at h; cases h), ⟨fun h => h8.1 (by rw [upd_ne _ (by decide)] at h; exact h), fun h => h8.2 (by rw [upd_ne _ (by decide)] at h; exact h)⟩, hV, P3_4.keep rfl, P4_5.keep rfl, Dep.at (hd 2 (by decide)), Dep.at (hd 5 (by decide)), P6_7.keep rfl, P1_8.keep rfl, P7_8.keep rfl, P8_9.keep rfl, P0_10.keep rfl, P9_10.keep rfl, P10_11.keep rfl⟩
          simp only [Act.put, List.setIfInBounds_toArray, List.set_cons_zero, List.set_cons_succ]
      · as_aux_lemma =>
          intro l a wr hI hl hd K' hK
          obtain ⟨u22, u23, u24, u25, u26, u27, u28, u29, u30, u31, u32, u7, B, ha, s0, s1, s2, s3, s4, s5, s6, s7, s8, hB, hN, hA, h8, hV, P3_4, P4_5, P2_6, P5_6, P6_7, P1_8, P7_8, P8_9, P0_10, P9_10, P10_11⟩ := hI
          simp only [Act.put, List.setIfInBounds_toArray, List.set_cons_zero, List.set_cons_succ] at ha
          have q6 := s6 (hd 6 (by decide))
          have h7 := (P9_10 (P8_9 (P7_8 hl)))
          have hO := (hN h7).2
          subst ha q6
          have hc := HK.out wr hO
          have p0 := hc.2.1.1
          have p1 := hc.2.1.2.1
          have p2 := hc.2.1.2.2.1
          have p3 := hc.2.1.2.2.2
          clear hc
          go_simp
          refine hK.out _ _ ⟨_, _, _, _, _, _, _, _, _, _, _, _, B, ?_, s0.keep rfl, s1.keep rfl, s2.keep rfl, s3.keep rfl, s4.keep rfl, s5.keep rfl, s6.keep rfl, Slot.new _ _ _, s8.keep rfl, (fun h => by obtain ⟨h1, h2⟩ := hB (by rw [upd_ne _ (by decide)] at h; exact h); exact ⟨h1, fun h' => h2 (by rw [upd_ne _ (by decide)] at h'; exact h')⟩), (fun h => hN (by rw [upd_ne _ (by decide)] at h; exact h)), (fun h => by rw [upd_ne _ (by decide), h7] at h; cases h), ⟨fun h => h8.1 (by rw [upd_ne _ (by decide)] at h; exact h), fun h => h8.2 (by rw [upd_ne _ (by decide)] at h; exact h)⟩, hV, P3_4.keep rfl, P4_5.keep rfl, P2_6.keep rfl, P5_6.keep rfl, Dep.at (hd 6 (by decide)), P1_8.keep rfl, P7_8.keep rfl, P8_9.keep rfl, P0_10.keep rfl, P9_10.keep rfl, P10_11.keep rfl⟩
          simp only [Act.put, List.setIfInBounds_toArray, List.set_cons_zero, List.set_cons_succ]
      · as_aux_lemma =>
          intro l a wr hI hl hd K' hK
          obtain ⟨u22, u23, u24, u25, u26, u27, u28, u29, u30, u31, u32, u7, B, ha, s0, s1, s2, s3, s4, s5, s6, s7, s8, hB, hN, hA, h8, hV, P3_4, P4_5, P2_6, P5_6, P6_7, P1_8, P7_8, P8_9, P0_10, P9_10, P10_11⟩ := hI
          simp only [Act.put, List.setIfInBounds_toArray, List.set_cons_zero, List.set_cons_succ] at ha
          have q1 := s1 (hd 1 (by decide))
          have q7 := s7 (hd 7 (by decide))
          have h7 := (P9_10 (P8_9 hl))
          have hO := (hN h7).2
          subst ha q1 q7
          go_simp
          refine (held_inv (FFo.out wr) hO).mono ?_
          rintro e w1 ⟨rfl, hO1, hOW⟩
          go_wp2_with fail
          refine hK.out _ _ ⟨_, _, _, _, _, _, _, _, _, _, _, _, B, ?_, s0.keep rfl, s1.keep rfl, s2.keep rfl, s3.keep rfl, s4.keep rfl, s5.keep rfl, s6.keep rfl, s7.keep rfl, Slot.new _ _ _, (fun h => by obtain ⟨h1, h2⟩ := hB (by rw [upd_ne _ (by decide)] at h; exact h); exact ⟨h1, fun h' => hOW.heap (h2 (by rw [upd_ne _ (by decide)] at h'; exact h')) (fun c => c)⟩), (fun _ => ⟨own_off (hN h7).1 hOW, hO1⟩), (fun h => by rw [upd_ne _ (by decide), h7] at h; cases h), ⟨fun h => h8.1 (by rw [upd_ne _ (by decide)] at h; exact h), fun h => h8.2 (by rw [upd_ne _ (by decide)] at h; exact h)⟩, own_off hV hOW, P3_4.keep rfl, P4_5.keep rfl, P2_6.keep rfl, P5_6.keep rfl, P6_7.keep rfl, Dep.at (hd 1 (by decide)), Dep.at (hd 7 (by decide)), P8_9.keep rfl, P0_10.keep rfl, P9_10.keep rfl, P10_11.keep rfl⟩
          simp only [Act.put, List.setIfInBounds_toArray, List.set_cons_zero, List.set_cons_succ]
      · as_aux_lemma =>
          intro l a wr hI hl hd K' hK
          obtain ⟨u22, u23, u24, u25, u26, u27, u28, u29, u30, u31, u32, u7, B, ha, s0, s1, s2, s3, s4, s5, s6, s7, s8, hB, hN, hA, h8, hV, P3_4, P4_5, P2_6, P5_6, P6_7, P1_8, P7_8, P8_9, P0_10, P9_10, P10_11⟩ := hI
          simp only [Act.put, List.setIfInBounds_toArray, List.set_cons_zero, List.set_cons_succ] at ha
          have q8 := s8 (hd 8 (by decide))
          have h7 := (P9_10 hl)
          have hO := (hN h7).2
          subst ha q8
          go_simp
          refine hK.out _ _ ⟨_, _, _, _, _, _, _, _, _, _, _, _, wr.heap.size, ?_, s0.keep rfl, s1.keep rfl, s2.keep rfl, s3.keep rfl, s4.keep rfl, s5.keep rfl, s6.keep rfl, s7.keep rfl, s8.keep rfl, (fun _ => ⟨rfl, fun _ => heap_new' rfl _⟩), (fun _ => ⟨own_off (hN h7).1 ((Off.refl _ wr).alloc _), hO.alloc _⟩), (fun h => by rw [upd_ne _ (by decide), h7] at h; cases h), ⟨fun h => h8.1 (by rw [upd_ne _ (by decide)] at h; exact h), fun h => h8.2 (by rw [upd_ne _ (by decide)] at h; exact h)⟩, own_off hV ((Off.refl _ wr).alloc _), P3_4.keep rfl, P4_5.keep rfl, P2_6.keep rfl, P5_6.keep rfl, P6_7.keep rfl, P1_8.keep rfl, P7_8.keep rfl, Dep.at (hd 8 (by decide)), P0_10.keep rfl, P9_10.keep rfl, P10_11.keep rfl⟩
          simp only [Act.put, List.setIfInBounds_toArray, List.set_cons_zero, List.set_cons_succ]
      · as_aux_lemma =>
          intro l a wr hI hl hd K' hK
          obtain ⟨u22, u23, u24, u25, u26, u27, u28, u29, u30, u31, u32, u7, B, ha, s0, s1, s2, s3, s4, s5, s6, s7, s8, hB, hN, hA, h8, hV, P3_4, P4_5, P2_6, P5_6, P6_7, P1_8, P7_8, P8_9, P0_10, P9_10, P10_11⟩ := hI
          simp only [Act.put, List.setIfInBounds_toArray, List.set_cons_zero, List.set_cons_succ] at ha
          have q0 := s0 (hd 0 (by decide))
          have hB6 := hB (hd 9 (by decide))
          have q9 := hB6.1
          subst ha q0 q9
          obtain ⟨hr7, hO⟩ := hN hl
          have hcb := hB6.2 hl
          obtain ⟨v', w1, hrun, ho1, hg1, _, _⟩ := run_append_own_at (P := Tryd.prog) wr W0.heap.size 47 47 66 i0 _ 4 32 Tryd.underlying47 hi hz0 hz1 hz2 rfl (by decide) (.slice vx k cx) k L hr7 ⟨B, 0, none⟩ 1 1 (words4 z) rfl (words4_at hcb) (words4_one z) (by unfold maxLen; omega) (by omega) (Nat.le_trans hbase hO.size)
          have hO1 : Off (fun _ => False) W0 w1 := grown_off (HW01.out.trans hO (fun _ _ c => c)) hb0 hr7 hg1
          have hV1 := hV.kept hg1 (rows_apart hV hr7 (by decide))
          rw [if_pos (by rfl)]
          refine append_oper rfl rfl rfl hrun ?_
          refine hK.out _ _ ⟨_, _, _, _, _, _, _, _, _, _, _, _, B, ?_, s0.keep rfl, s1.keep rfl, s2.keep rfl, s3.keep rfl, s4.keep rfl, s5.keep rfl, s6.keep rfl, s7.keep rfl, s8.keep rfl, (fun _ => ⟨rfl, fun h => by rw [upd_same] at h; cases h⟩), (fun h => by rw [upd_same] at h; cases h), (fun _ => ⟨ho1, hO1⟩), ⟨fun h => (by rw [upd_ne _ (by decide), P10_11 hl] at h <;> cases h), fun h => h8.2 (by rw [upd_ne _ (by decide)] at h; exact h)⟩, hV1, P3_4.keep rfl, P4_5.keep rfl, P2_6.keep rfl, P5_6.keep rfl, P6_7.keep rfl, P1_8.keep rfl, P7_8.keep rfl, P8_9.keep rfl, Dep.at (hd 0 (by decide)), Dep.at (hd 9 (by decide)), P10_11.keep rfl⟩
          simp only [Act.put, List.setIfInBounds_toArray, List.set_cons_zero, List.set_cons_succ]
      · as_aux_lemma =>
          intro l a wr hI hl hd K' hK
          obtain ⟨u22, u23, u24, u25, u26, u27, u28, u29, u30, u31, u32, u7, B, ha, s0, s1, s2, s3, s4, s5, s6, s7, s8, hB, hN, hA, h8, hV, P3_4, P4_5, P2_6, P5_6, P6_7, P1_8, P7_8, P8_9, P0_10, P9_10, P10_11⟩ := hI
          simp only [Act.put, List.setIfInBounds_toArray, List.set_cons_zero, List.set_cons_succ] at ha
          subst ha
          go_simp
          refine hK.out _ _ ⟨_, _, _, _, _, _, _, _, _, _, _, _, B, ?_, s0.keep rfl, s1.keep rfl, s2.keep rfl, s3.keep rfl, s4.keep rfl, s5.keep rfl, s6.keep rfl, s7.keep rfl, s8.keep rfl, (fun h => by obtain ⟨h1, h2⟩ := hB (by rw [upd_ne _ (by decide)] at h; exact h); exact ⟨h1, fun h' => h2 (by rw [upd_ne _ (by decide)] at h'; exact h')⟩), (fun h => hN (by rw [upd_ne _ (by decide)] at h; exact h)), (fun h => hA (by rw [upd_ne _ (by decide)] at h; exact h)), ⟨fun _ => rfl, fun h => by rw [upd_same] at h; cases h⟩, hV, P3_4.keep rfl, P4_5.keep rfl, P2_6.keep rfl, P5_6.keep rfl, P6_7.keep rfl, P1_8.keep rfl, P7_8.keep rfl, P8_9.keep rfl, P0_10.keep rfl, P9_10.keep rfl, Dep.at (hd 10 (by decide))⟩
          simp only [Act.put, List.setIfInBounds_toArray, List.set_cons_zero, List.set_cons_succ]
      · intro l a wc hI hd
        obtain ⟨u22, u23, u24, u25, u26, u27, u28, u29, u30, u31, u32, u7, B, ha, s0, s1, s2, s3, s4, s5, s6, s7, s8, hB, hN, hA, h8, hV, P3_4, P4_5, P2_6, P5_6, P6_7, P1_8, P7_8, P8_9, P0_10, P9_10, P10_11⟩ := hI
        simp only [Act.put, List.setIfInBounds_toArray, List.set_cons_zero, List.set_cons_succ] at ha
        have q0 := s0 (hd 0 (by decide))
        have q1 := s1 (hd 1 (by decide))
        have q2 := s2 (hd 2 (by decide))
        have q3 := s3 (hd 3 (by decide))
        have q4 := s4 (hd 4 (by decide))
        have q5 := s5 (hd 5 (by decide))
        have q6 := s6 (hd 6 (by decide))
        have q7 := s7 (hd 7 (by decide))
        have q8 := s8 (hd 8 (by decide))
        have q9 := (hB (hd 9 (by decide))).1
        have q8 := h8.1 (hd 11 (by decide))
        obtain ⟨hown, hO⟩ := hA (hd 10 (by decide))
        subst ha q0 q1 q2 q3 q4 q5 q6 q7 q8 q9 q8
        clear hd s0 s1 s2 s3 s4 s5 s6 s7 s8 hB hN hA h8 P3_4 P4_5 P2_6 P5_6 P6_7 P1_8 P7_8 P8_9 P0_10 P9_10 P10_11
        obtain ⟨g', cap', rfl⟩ := ownsRow_succ hown
        rw [HZt.out] at hown
        rw [HL6.out] at hV
        have H1 := Lib.hid hown
        have H2 := Lib.hid hV
        have HO5 := Lib.hid hO
        clear hown hV hO
        go_wp2
        go_roundw
        case rel => exact ⟨k + 1, by omega, by simp, ⟨_, _, rfl, H2.out⟩, ⟨_, _, rfl, H1.out⟩, HO5.out⟩
        case measure => simp [intOf] <;> omega
    · obtain rfl : k = n := by omega
      have hov2 := hov
      have hox2 := hox
      rw [List.take_of_length_le (by rw [HYn.out]; omega)] at hov2
      rw [List.take_of_length_le (by rw [HZn.out]; omega)] at hox2
      have H1 := Lib.hid (own_below hov2 HB0.out)
      have H2 := Lib.hid (own_below hox2 HB0.out)
      have HO := Lib.hid hO
      clear hov hox hov2 hox2 hO
      go_wp2
      refine bodyPost_ret (results_tmp2 rfl _ _ _) rfl ?_
      exact ⟨_, _, _, _, rfl, H1.out, H2.out, HOw.out.trans HO.out (fun _ _ c => c)⟩
theorem values_any {p : Nat} (hp : p < R256) (h1 : 1 < p) (xs : List Nat) (hx : ∀ x ∈ xs, x < R256) (hl : xs.length ≤ 10000) (v : Value) (w : World) (hV : Ls w v xs) :
    Calls Tryd.prog 19 #[V p, v] w fun e w' => ∃ z1 z2, e = .returned (.tuple #[z1, z2]) ∧ Ls w' z1 (xs.map (· % p)) ∧ Ls w' z2 ((xs.map (· % p)).map (fm p)) ∧ Off (fun _ => False) w w' := by
  refine (values_own hp h1 xs hx hl v w hV).mono ?_
  rintro e w' ⟨a, c, a2, c2, rfl, hown, h2, hO⟩
  exact ⟨_, _, rfl, Ls.of (ls_of_own hown (by simp) (by omega)), Ls.of (ls_of_own h2 (by simp) (by omega)), hO⟩
end Go.Proofs.YtclehgconbdkpaaDoor
