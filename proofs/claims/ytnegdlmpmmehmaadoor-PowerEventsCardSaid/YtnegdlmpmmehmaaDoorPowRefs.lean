/-
  The contracts of the reference's PowEvents and BatchEvents over this seat's translation: the lists of events, newly made. Condition: the number of elements is small.
-/
import Derived.Test.YtnegdlmpmmehmaaDoorPowLists
import Derived.Maps.AppendAt
import Derived.Test.YtnegdlmpmmehmaaDoorTapeSince
import Derived.Laws.AppendOwn
import Derived.Laws.OwnMore
namespace Go.Proofs.YtnegdlmpmmehmaaDoor
open Go.RowKit

theorem grown_off {w W w1 : World} {n k size : Nat} {T : TypeId} {v : Value} {xs : List Value} (hO : Off (fun _ => False) w W) (hn : w.heap.size ≤ n) (h : W.ownsRow n T size v k xs) (hg : W.grownBy w1 v.ownBlock) : Off (fun _ => False) w w1 :=
  hO.grown hg (fun j ej => by
    have hx := (h.lt j ej).1
    refine ⟨fun h => by omega, fun o ho => ?_⟩
    rcases h.2 with ⟨rfl, _⟩ | ⟨g, cap, cur, rfl, _, hgb, _⟩
    · simp [Value.ownBlock] at ej
    · obtain rfl : g = j := by simpa [Value.ownBlock] using ej
      rw [hgb] at ho; cases ho; rfl)
set_option maxHeartbeats 4000000 in
set_option maxRecDepth 100000 in
theorem powevents_any (w : World) :
    Calls Tryd.prog 20 #[] w fun e w' => ∃ v, e = .returned v ∧ w'.ownsRow w.heap.size 76 3 v (powE 64).length (flat (powE 64)) ∧ Off (fun _ => False) w w' := by
  obtain ⟨i0, hi, hz0, hz1, hz2⟩ := info_parts ev_info
  go_enter Tryd.func20, Tryd.ntmps20
  go_wp2
  go_loopw [1, 2] (fun v i wr => ∃ k : Nat, k ≤ 64 ∧ i = .int .i64 ((63 : Int) - (k : Int)) ∧ (∃ a c, v = .slice a (k * 17) c ∧ wr.ownsRow w.heap.size 76 3 v (k * 17) (flat (powE k))) ∧ Off (fun _ => False) w wr) (fun _ i _ => (intOf i + 1).toNat)
  case atStart => exact ⟨0, Nat.zero_le _, by simp, ⟨none, 0, rfl, World.ownsRow_nil _ _ _ _⟩, Off.refl _ w⟩
  case round =>
    obtain ⟨k, hk, rfl, ⟨va, vc, rfl, hown⟩, hO⟩ := hrel
    by_cases hlt : k < 64
    · obtain ⟨ea, hea⟩ : ∃ ea : Int, ea = (63 : Int) - (k : Int) := ⟨_, rfl⟩
      have hge : decide ((0 : Int) ≤ ea) = true := by simp; omega
      have hwr : IntKind.i64.wrap (ea - 1) = ea - 1 := by rw [IntKind.wrap_i64]; omega
      have hnx : ea - 1 = (63 : Int) - ((k + 1 : Nat) : Int) := by omega
      have hpe : powE (k + 1) = powE k ++ ((6 : Int), ea, (0 : Int)) :: scanE 16 := by rw [powE_next, hea]
      rw [← hea]
      obtain ⟨m, hm⟩ : ∃ m, m = k * 17 := ⟨_, rfl⟩
      rw [← hm] at hown ⊢
      have hml : m ≤ 2000 := by omega
      have HPE := Lib.hid hpe
      have HNx := Lib.hid hnx
      have HM := Lib.hid hm
      have HE := Lib.hid hea
      have H3 := Lib.hid hown
      have HO := Lib.hid hO
      clear hown hO hpe hea hnx hm
      go_wp2_with (at_builtin; refine wpList_append_own _ rfl _ _ 43 rfl w.heap.size 76 i0 _ 3 24 Tryd.underlying43 hi hz0 hz1 hz2 rfl (by decide) _ m _ rfl (H3.out.alloc _) ⟨wr.heap.size, 0, none⟩ 1 1 (flat [((6 : Int), ea, (0 : Int))]) rfl rfl ?q1 (flat_one _) ?q2 ?q3 ?q4 ?_)
      case q1 =>
        intro j u hj
        have : j = 0 ∨ j = 1 ∨ j = 2 := by
          have := (List.getElem?_eq_some_iff.1 hj).1
          simp [flat] at this; omega
        rcases this with rfl | rfl | rfl <;> simp [flat] at hj <;> subst hj <;> simp [go_sem]
      case q2 => unfold maxLen; omega
      case q3 => omega
      case q4 => have := HO.out.size; simp; omega
      intro v' w1 hown' hgrow hnil
      obtain ⟨g', cap', rfl⟩ := ownsRow_succ hown'
      have hO1 : Off (fun _ => False) w w1 := grown_off (HO.out.alloc _) (Nat.le_refl _) (H3.out.alloc _) hgrow
      have HO1 := Lib.hid hO1
      have HW1 := Lib.hid hown'
      clear hown' hgrow hnil hO1
      go_wp2
      go_loopw [1, 3] (fun v i wr => ∃ j : Nat, j ≤ 16 ∧ i = .int .i64 (j : Int) ∧ (∃ a c, v = .slice a (m + 1 + j) c ∧ wr.ownsRow w.heap.size 76 3 v (m + 1 + j) (flat (powE k ++ ((6 : Int), ea, (0 : Int)) :: scanE j))) ∧ Off (fun _ => False) w wr) (fun _ i _ => 16 - (intOf i).toNat)
      case atStart => exact ⟨0, Nat.zero_le _, rfl, ⟨_, _, rfl, by rw [flat_append]; exact HW1.out⟩, HO1.out⟩
      case round =>
        obtain ⟨j, hj, rfl, ⟨va2, vc2, rfl, hown⟩, hO⟩ := hrel
        clear HO1 HW1
        by_cases hlt2 : j < 16
        · obtain ⟨n, hn⟩ : ∃ n, n = m + 1 + j := ⟨_, rfl⟩
          rw [← hn] at hown ⊢
          have hnl : n ≤ 3000 := by omega
          have hjb : (j : Int) < 16 := by omega
          have hwj : IntKind.i64.wrap ((j : Int) + 1) = (j : Int) + 1 := by rw [IntKind.wrap_i64]; omega
          have HN := Lib.hid (show n + 1 = m + 1 + (j + 1) by omega)
          have HF := Lib.hid (show flat (powE k ++ ((6 : Int), ea, (0 : Int)) :: scanE j) ++ flat [((1 : Int), (j : Int), (0 : Int))] = flat (powE k ++ ((6 : Int), ea, (0 : Int)) :: scanE (j + 1)) by rw [← flat_append, scanE_next]; simp)
          have H4 := Lib.hid hown
          have HO4 := Lib.hid hO
          clear hown hO hn
          go_wp2_with (at_builtin; refine wpList_append_own _ rfl _ _ 43 rfl w.heap.size 76 i0 _ 3 24 Tryd.underlying43 hi hz0 hz1 hz2 rfl (by decide) _ n _ rfl (H4.out.alloc _) ⟨wr.heap.size, 0, none⟩ 1 1 (flat [((1 : Int), (j : Int), (0 : Int))]) rfl rfl ?q1 (flat_one _) ?q2 ?q3 ?q4 ?_)
          case q1 =>
            intro j u hj
            have : j = 0 ∨ j = 1 ∨ j = 2 := by
              have := (List.getElem?_eq_some_iff.1 hj).1
              simp [flat] at this; omega
            rcases this with rfl | rfl | rfl <;> simp [flat] at hj <;> subst hj <;> simp [go_sem]
          case q2 => unfold maxLen; omega
          case q3 => omega
          case q4 => have := HO4.out.size; simp; omega
          intro v' w1 hown' hgrow hnil
          obtain ⟨g', cap', rfl⟩ := ownsRow_succ hown'
          have hO1 : Off (fun _ => False) w w1 := grown_off (HO4.out.alloc _) (Nat.le_refl _) (H4.out.alloc _) hgrow
          have HO1 := Lib.hid hO1
          have HW1 := Lib.hid hown'
          clear hown' hgrow hnil hO1
          go_wp2
          go_roundw
          case rel => exact ⟨j + 1, by omega, by simp, ⟨_, _, by rw [← HN.out], by rw [← HN.out, ← HF.out]; exact HW1.out⟩, HO1.out⟩
          case measure => simp [intOf] <;> omega
        · obtain rfl : j = 16 := by omega
          have H5 := Lib.hid hown
          have HO5 := Lib.hid hO
          clear hown hO
          go_wp2
          go_roundw
          case rel => exact ⟨k + 1, by omega, by rw [HNx.out], ⟨_, _, by rw [show m + 1 + 16 = (k + 1) * 17 by have := HM.out; omega], by rw [HPE.out, show (k + 1) * 17 = m + 1 + 16 by have := HM.out; omega]; exact H5.out⟩, HO5.out⟩
          case measure => have := HE.out; simp [intOf] <;> omega
    · obtain rfl : k = 64 := by omega
      have hge : decide ((0 : Int) ≤ (63 : Int) - ((64 : Nat) : Int)) = false := by simp
      have H5 := Lib.hid hown
      have HO5 := Lib.hid hO
      clear hown hO
      go_wp2
      go_ret
      exact ⟨_, rfl, by rw [powE_length]; exact H5.out, HO5.out⟩
theorem words4_at {w : World} {b z : Nat} {T : TypeId} (h : w.heap[b]? = some (.cells #[.int .u64 (wd z 0 : Int), .int .u64 (wd z 1 : Int), .int .u64 (wd z 2 : Int), .int .u64 (wd z 3 : Int)] T (0, 0))) : ∀ j u, (words4 z)[j]? = some u → w.cell? ((⟨b, 0, none⟩ : Addr).add j) = some u := by
  intro j u hj
  rw [Addr.add_lit, Nat.zero_add, cell_of_heap h]
  simpa using hj
theorem append_oper {P : Program} {o : Oper} {a : Act} {w w' : World} {K : Act → World → Prop} {Q : Exit → Act → World → Prop} {s x : Operand} {t : TypeId} {v xv v' : Value}
    (ho : o.op = .call { callee := .builtin .append, args := #[s, x], argTypes := #[t, t] }) (hs : a.eval s = v) (hx : a.eval x = xv) (hr : (Builtin.append_ #[t, t] o.type #[v, xv]).run P w = .ok v' w') (hK : K (a.put o.dst v') w') : o.wp P a w K Q := by
  unfold Oper.wp execOp
  simp only [ho, resolve, invoke, builtin, Sem.run_bind, Sem.run_pure, Result.andThen_ok, List.map_toArray, List.map_cons, List.map_nil, hs, hx, hr]
  exact hK
/-- A row of the call's own that holds elements. -/
theorem ls_of_own {w : World} {base n cap : Nat} {a : Option Addr} {T : TypeId} {ys : List Nat} (h : w.ownsRow base T 4 (.slice a n cap) n (flat4 ys)) (hn : n = ys.length) (hl : n ≤ 100000) : LsAt w (.slice a n cap) ys (fun k => base ≤ k ∧ k < w.heap.size) := by
  refine ⟨a, cap, by rw [hn], by omega, fun hp => ?_⟩
  obtain ⟨m, rfl⟩ : ∃ m, n = m + 1 := ⟨n - 1, by omega⟩
  obtain ⟨g, c, e⟩ := ownsRow_succ h
  simp at e
  obtain ⟨rfl, rfl⟩ := e
  have hc := h.cells (g := g) rfl
  refine ⟨g, 0, rfl, h.lt g rfl, fun j x hx => ?_⟩
  obtain ⟨h0, h1, h2, h3⟩ := flat4_get ys j x hx
  have k0 := hc _ _ h0
  have k1 := hc _ _ h1
  have k2 := hc _ _ h2
  have k3 := hc _ _ h3
  rw [Addr.add_lit] at k0 k1 k2 k3
  exact ⟨k0, by rw [Nat.add_assoc]; exact k1, by rw [Nat.add_assoc]; exact k2, by rw [Nat.add_assoc]; exact k3⟩
/-- A new tape without events. -/
theorem new_tp (w : World) : Calls Tryd.prog 19 #[.slice none 0 0] w fun r w' => r = .returned (.pointer (some ⟨w.heap.size, 0, none⟩)) ∧ Tp w' (some ⟨w.heap.size, 0, none⟩) [] (fun k => w.heap.size ≤ k ∧ k < w'.heap.size) ∧ Off (fun _ => False) w w' := by
  refine (new_any (.slice none 0 0) [] (fun _ => False) w ⟨none, 0, rfl, Nat.le_refl _, by unfold maxLen; omega, fun _ => rfl, fun h => by simp at h⟩ (by simp)).mono ?_
  rintro r w' ⟨rfl, h1, h2⟩
  exact ⟨rfl, ⟨.inr ⟨w.heap.size, rfl, TapeG.mono h1 (fun k hk c => ⟨c, hk⟩)⟩, fun k c => c.2⟩, h2⟩
theorem ext_new (b : Nat) (l : List Ev) : ext (some ⟨b, 0, none⟩) [] l = l := by simp [ext]
theorem words4_one (z : Nat) : ∀ u ∈ words4 z, u.oneCell' = true := by
  intro u hu
  simp only [words4, List.mem_cons, List.not_mem_nil, or_false] at hu
  rcases hu with rfl | rfl | rfl | rfl <;> rfl
theorem own_off {w w' : World} {base size n : Nat} {T : TypeId} {v : Value} {xs : List Value} (h : w.ownsRow base T size v n xs) (ho : Off (fun _ => False) w w') : w'.ownsRow base T size v n xs :=
  h.kept ho.to_grown (by by_cases e : v.ownBlock = none; exact .inl e; exact .inr e)
set_option maxHeartbeats 400000 in
theorem batchevents_none (w : World) : Calls Tryd.prog 23 #[.int .i64 0] w fun e w' => ∃ v, e = .returned v ∧ w'.ownsRow w.heap.size 76 3 v (batE 0).length (flat (batE 0)) ∧ Off (fun _ => False) w w' := by
  go_enter Tryd.func23, Tryd.ntmps23
  go_wp2
  go_ret
  exact ⟨_, rfl, World.ownsRow_nil _ _ _ _, Off.refl _ _⟩
theorem coefU_range (n k : Nat) (hk : k < n) : coefU n (List.range (k + 1)) = coefU n (List.range k) ++ [((2 : Int), (k : Int), (0 : Int))] := by
  rw [List.range_succ, coefU_snoc, Nat.mod_eq_of_lt hk]
theorem coefD_range (n k : Nat) : coefD n (List.range (k + 1)) = coefD n (List.range k) ++ [((2 : Int), ((n - 1 - k : Nat) : Int), (0 : Int))] := by
  rw [List.range_succ, coefD_snoc]
set_option maxHeartbeats 4000000 in
set_option maxRecDepth 100000 in
theorem batchevents_some (n : Nat) (h0 : 0 < n) (hn2 : n ≤ 10000) (w : World) :
    Calls Tryd.prog 23 #[.int .i64 (n : Int)] w fun e w' => ∃ v, e = .returned v ∧ w'.ownsRow w.heap.size 76 3 v (batE n).length (flat (batE n)) ∧ Off (fun _ => False) w w' := by
  obtain ⟨i0, hi, hz0, hz1, hz2⟩ := info_parts ev_info
  have hne : ((n : Int) == 0) = false := by simp; omega
  have hwn : IntKind.i64.wrap ((n : Int) - 1) = (n : Int) - 1 := by rw [IntKind.wrap_i64]; omega
  go_enter Tryd.func23, Tryd.ntmps23
  go_wp2
  go_loopw [3, 4] (fun v i wr => ∃ j : Nat, j ≤ n ∧ i = .int .i64 (j : Int) ∧ (∃ a c, v = .slice a j c ∧ wr.ownsRow w.heap.size 76 3 v j (flat (coefU n (List.range j)))) ∧ Off (fun _ => False) w wr) (fun _ i _ => n - (intOf i).toNat)
  case atStart => exact ⟨0, Nat.zero_le _, rfl, ⟨none, 0, rfl, World.ownsRow_nil _ _ _ _⟩, Off.refl _ w⟩
  case round =>
    obtain ⟨j, hj, rfl, ⟨va, vc, rfl, hown⟩, hO⟩ := hrel
    by_cases hlt : j < n
    · have hjb : (j : Int) < (n : Int) := by omega
      have hwj : IntKind.i64.wrap ((j : Int) + 1) = (j : Int) + 1 := by rw [IntKind.wrap_i64]; omega
      have HF := Lib.hid (show flat (coefU n (List.range j)) ++ flat [((2 : Int), (j : Int), (0 : Int))] = flat (coefU n (List.range (j + 1))) by rw [← flat_append, coefU_range n j hlt])
      have H3 := Lib.hid hown
      have HO := Lib.hid hO
      clear hown hO
      go_wp2_with (at_builtin; refine wpList_append_own _ rfl _ _ 43 rfl w.heap.size 76 i0 _ 3 24 Tryd.underlying43 hi hz0 hz1 hz2 rfl (by decide) _ j _ rfl (H3.out.alloc _) ⟨wr.heap.size, 0, none⟩ 1 1 (flat [((2 : Int), (j : Int), (0 : Int))]) rfl rfl ?q1 (flat_one _) ?q2 ?q3 ?q4 ?_)
      case q1 =>
        intro j u hj
        have : j = 0 ∨ j = 1 ∨ j = 2 := by
          have := (List.getElem?_eq_some_iff.1 hj).1
          simp [flat] at this; omega
        rcases this with rfl | rfl | rfl <;> simp [flat] at hj <;> subst hj <;> simp [go_sem]
      case q2 => unfold maxLen; omega
      case q3 => omega
      case q4 => have := HO.out.size; simp; omega
      intro v' w1 hown' hgrow hnil
      obtain ⟨g', cap', rfl⟩ := ownsRow_succ hown'
      have hO1 : Off (fun _ => False) w w1 := grown_off (HO.out.alloc _) (Nat.le_refl _) (H3.out.alloc _) hgrow
      have HO1 := Lib.hid hO1
      have HW1 := Lib.hid hown'
      clear hown' hgrow hnil hO1
      go_wp2
      go_roundw
      case rel => exact ⟨j + 1, by omega, by simp, ⟨_, _, rfl, by rw [← HF.out]; exact HW1.out⟩, HO1.out⟩
      case measure => simp [intOf] <;> omega
    · obtain rfl : j = n := by omega
      have H3 := Lib.hid hown
      have HO := Lib.hid hO
      clear hown hO
      go_wp2_with fail
      refine (powevents_any _).mono ?_
      rintro e u1 ⟨pv, rfl, hpo, hOp⟩
      rw [powE_length] at hpo
      obtain ⟨g2, c2, rfl⟩ := ownsRow_succ (k := 1087) hpo
      have hpc := hpo.cells (g := g2) rfl
      have H4 := Lib.hid (own_off H3.out hOp)
      have HO4 := Lib.hid (HO.out.trans hOp (fun _ _ c => c))
      clear hOp
      go_wp2_with (at_builtin; refine wpList_append_own _ rfl _ _ 43 rfl w.heap.size 76 i0 _ 3 24 Tryd.underlying43 hi hz0 hz1 hz2 rfl (by decide) _ j _ rfl H4.out ⟨g2, 0, none⟩ (64 * 17) c2 (flat (powE 64)) rfl (by rw [flat_length, powE_length]) hpc (flat_one _) ?q2 ?q3 ?q4 ?_)
      case q2 => unfold maxLen; omega
      case q3 => omega
      case q4 => exact HO4.out.size
      intro v' w1 hown' hgrow hnil
      have hO1 : Off (fun _ => False) w w1 := grown_off HO4.out (Nat.le_refl _) H4.out hgrow
      rw [show j + 64 * 17 = (j + 1087) + 1 by omega, ← flat_append] at hown'
      obtain ⟨g', cap', rfl⟩ := ownsRow_succ hown'
      have HO1 := Lib.hid hO1
      have HW1 := Lib.hid hown'
      clear hown' hgrow hnil hO1 hpo hpc
      go_wp2
      go_loopw [3, 5] (fun v i wr => ∃ k : Nat, k ≤ j ∧ i = .int .i64 ((j : Int) - 1 - (k : Int)) ∧ (∃ a c, v = .slice a (j + 1088 + k) c ∧ wr.ownsRow w.heap.size 76 3 v (j + 1088 + k) (flat (coefU j (List.range j) ++ (powE 64 ++ coefD j (List.range k))))) ∧ Off (fun _ => False) w wr) (fun _ i _ => (intOf i + 1).toNat)
      case atStart => exact ⟨0, Nat.zero_le _, by simp, ⟨_, _, rfl, by rw [show coefD j (List.range 0) = [] from rfl, List.append_nil]; exact HW1.out⟩, HO1.out⟩
      case round =>
        obtain ⟨k, hk, rfl, ⟨va2, vc2, rfl, hown⟩, hO⟩ := hrel
        clear HO1 HW1 H4 HO4 H3 HO
        by_cases hlt2 : k < j
        · obtain ⟨d, hd⟩ : ∃ d, d = j - 1 - k := ⟨_, rfl⟩
          have hij : (j : Int) - 1 - (k : Int) = (d : Int) := by omega
          have hge : decide ((0 : Int) ≤ (d : Int)) = true := by simp
          have hwd : IntKind.i64.wrap ((d : Int) - 1) = (d : Int) - 1 := by rw [IntKind.wrap_i64]; omega
          have HNx := Lib.hid (show (d : Int) - 1 = (j : Int) - 1 - ((k + 1 : Nat) : Int) by omega)
          have HF := Lib.hid (show flat (coefU j (List.range j) ++ (powE 64 ++ coefD j (List.range k))) ++ flat [((2 : Int), (d : Int), (0 : Int))] = flat (coefU j (List.range j) ++ (powE 64 ++ coefD j (List.range (k + 1)))) by rw [← flat_append, coefD_range, hd]; simp only [List.append_assoc])
          obtain ⟨m, hm⟩ : ∃ m, m = j + 1088 + k := ⟨_, rfl⟩
          rw [← hm] at hown ⊢
          rw [hij]
          have hml : m ≤ 30000 := by omega
          have HM := Lib.hid (show m + 1 = j + 1088 + (k + 1) by omega)
          have H3 := Lib.hid hown
          have HO := Lib.hid hO
          clear hown hO hm hij hd
          go_wp2_with (at_builtin; refine wpList_append_own _ rfl _ _ 43 rfl w.heap.size 76 i0 _ 3 24 Tryd.underlying43 hi hz0 hz1 hz2 rfl (by decide) _ m _ rfl (H3.out.alloc _) ⟨wr.heap.size, 0, none⟩ 1 1 (flat [((2 : Int), (d : Int), (0 : Int))]) rfl rfl ?q1 (flat_one _) ?q2 ?q3 ?q4 ?_)
          case q1 =>
            intro j u hj
            have : j = 0 ∨ j = 1 ∨ j = 2 := by
              have := (List.getElem?_eq_some_iff.1 hj).1
              simp [flat] at this; omega
            rcases this with rfl | rfl | rfl <;> simp [flat] at hj <;> subst hj <;> simp [go_sem]
          case q2 => unfold maxLen; omega
          case q3 => omega
          case q4 => have := HO.out.size; simp; omega
          intro v' w1 hown' hgrow hnil
          obtain ⟨g', cap', rfl⟩ := ownsRow_succ hown'
          have hO1 : Off (fun _ => False) w w1 := grown_off (HO.out.alloc _) (Nat.le_refl _) (H3.out.alloc _) hgrow
          have HO1 := Lib.hid hO1
          have HW1 := Lib.hid hown'
          clear hown' hgrow hnil hO1
          go_wp2
          go_roundw
          case rel => exact ⟨k + 1, by omega, by rw [HNx.out], ⟨_, _, by rw [← HM.out], by rw [← HM.out, ← HF.out]; exact HW1.out⟩, HO1.out⟩
          case measure => have := HNx.out; simp [intOf] <;> omega
        · obtain rfl : k = j := by omega
          have hge : decide ((0 : Int) ≤ (k : Int) - 1 - (k : Int)) = false := by simp; omega
          have HE := Lib.hid (show batE k = coefU k (List.range k) ++ (powE 64 ++ coefD k (List.range k)) by unfold batE; rw [if_neg (by omega), List.append_assoc])
          have H5 := Lib.hid hown
          have HO5 := Lib.hid hO
          clear hown hO
          go_wp2
          go_ret
          refine ⟨_, rfl, ?_, HO5.out⟩
          rw [HE.out]
          have hl : (coefU k (List.range k) ++ (powE 64 ++ coefD k (List.range k))).length = k + 1088 + k := by
            rw [List.length_append, List.length_append, coefU_length, coefD_length, powE_length, List.length_range]; omega
          rw [hl]
          exact H5.out
theorem batchevents_any (n : Nat) (hn2 : n ≤ 10000) (w : World) :
    Calls Tryd.prog 23 #[.int .i64 (n : Int)] w fun e w' => ∃ v, e = .returned v ∧ w'.ownsRow w.heap.size 76 3 v (batE n).length (flat (batE n)) ∧ Off (fun _ => False) w w' := by
  by_cases h : n = 0
  · subst h; exact batchevents_none w
  · exact batchevents_some n (by omega) hn2 w
end Go.Proofs.YtnegdlmpmmehmaaDoor
