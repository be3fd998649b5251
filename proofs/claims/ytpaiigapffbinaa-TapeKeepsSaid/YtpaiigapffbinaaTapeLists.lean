/-
  Contracts of the reference's Of (its length), slices.Clone, slices.Grow and slices.Concat at lists of events, and of the statements' function 'long', over this seat's translation. Conditions: the lists lie in memory as their slices say.
-/
import Derived.Test.YtpaiigapffbinaaTapeSince
import Derived.Test.YtpaiigapffbinaaTapeCount
import Derived.Test.YtpaiigapffbinaaTapePlay
import Derived.Lib.AppendZeros
import Derived.Laws.AppendOwnNone
namespace Go.Proofs.Ytpaiigapffbinaa
open Go.RowKit

theorem countV_take {es : List Ev} {k : Nat} {e : Ev} (h : es[k]? = some e) (kind : Int) : countV (es.take (k + 1)) kind = countV (es.take k) kind + (if e.1 = kind then 1 else 0) := by
  rw [take_push h, countV_snoc]

set_option maxHeartbeats 2000000 in
set_option maxRecDepth 100000 in
theorem of_any (sv : Value) (es : List Ev) (S : Nat → Prop) (kind : Int) (w : World) (hI : EvsAt w sv es S) (hl : es.length ≤ 90000) :
    Calls Try.prog 18 #[sv, .int .i64 kind] w fun e w' => (∃ a cap, e = .returned (.slice a (countV es kind) cap)) ∧ Off (fun _ => False) w w' := by
  obtain ⟨i0, hi, hz0, hz1, hz2⟩ := info_parts ev_info
  obtain ⟨a, cap, rfl, h1, h2, h3, h4⟩ := hI
  obtain ⟨n, hn⟩ : ∃ n, n = es.length := ⟨_, rfl⟩
  rw [← hn] at h4 hl ⊢
  have HN := Lib.hid hn
  clear hn h1 h2 h3
  go_enter Try.func18, Try.ntmps18
  go_wp2
  go_loopw [5, 6] (fun v i wr => ∃ k : Nat, k ≤ n ∧ i = .int .i64 k ∧ (∃ a c xs, v = .slice a (countV (es.take k) kind) c ∧ wr.ownsRow w.heap.size 28 3 v (countV (es.take k) kind) xs) ∧ Off (fun _ => False) w wr) (fun _ i _ => n - (intOf i).toNat)
  case atStart => exact ⟨0, Nat.zero_le _, rfl, ⟨none, 0, [], rfl, World.ownsRow_nil _ _ _ _⟩, Off.refl _ w⟩
  case round =>
    obtain ⟨k, hk, rfl, ⟨va, vc, xs, rfl, hown⟩, hO⟩ := hrel
    by_cases hlt : k < n
    · obtain ⟨b, off, rfl, _, hcell⟩ := h4 (by omega)
      obtain ⟨e, he⟩ : ∃ e, es[k]? = some e := ⟨es[k]'(by have := HN.out; omega), List.getElem?_eq_getElem _⟩
      obtain ⟨c0, c1, c2⟩ := hO.ev (hcell k e he) (fun c => c)
      have hct := countV_take he kind
      obtain ⟨ek, ea, eo⟩ := e
      obtain ⟨m, hm⟩ : ∃ m, m = countV (es.take k) kind := ⟨_, rfl⟩
      have hmk : m ≤ k := by rw [hm]; exact Nat.le_trans List.countP_le_length (by rw [List.length_take]; omega)
      rw [← hm] at hown hct ⊢
      have HO := Lib.hid hO
      have H3 := Lib.hid hown
      clear h4 hcell he hm hown hO
      by_cases hek : ek = kind
      · have hk' : (ek == kind) = true := by simp [hek]
        have HCT := Lib.hid (by simpa [hek] using hct : countV (es.take (k + 1)) kind = m + 1)
        clear hek hct
        go_wp2_with (at_builtin; refine wpList_append_own _ rfl _ _ 22 rfl w.heap.size 28 i0 _ 3 24 Try.underlying22 hi hz0 hz1 hz2 rfl (by decide) _ m xs rfl (H3.out.alloc _) ⟨wr.heap.size, 0, none⟩ 1 1 (flat [(ek, ea, eo)]) rfl rfl ?q1 (flat_one _) ?q2 ?q3 ?q4 ?_)
        case q1 =>
          intro j u hj
          have : j = 0 ∨ j = 1 ∨ j = 2 := by
            have := (List.getElem?_eq_some_iff.1 hj).1
            simp [flat] at this; omega
          rcases this with rfl | rfl | rfl <;> simp [flat] at hj <;> subst hj <;> simp [go_sem]
        case q2 => unfold maxLen; omega
        case q3 => omega
        case q4 => have := HO.out.size; omega
        intro v' w1 hown' hgrow hnil
        obtain ⟨g', cap', rfl⟩ := ownsRow_succ hown'
        have hO1 : Off (fun _ => False) w w1 := (HO.out.alloc _).grown hgrow (fun j ej => by
          have hx := (H3.out.lt j ej).1
          refine ⟨fun h => by omega, fun o ho => ?_⟩
          rcases (H3.out.alloc (.cells #[.int .i64 ek, .int .i64 ea, .int .i64 eo] 28)).2 with ⟨hv, _⟩ | ⟨g, cap, cur, hv, _, hgb, _⟩
          · rw [hv] at ej; simp [Value.ownBlock] at ej
          · rw [hv] at ej
            obtain rfl : g = j := by simpa [Value.ownBlock] using ej
            rw [hgb] at ho; cases ho; rfl)
        have HO1 := Lib.hid hO1
        have HW1 := Lib.hid hown'
        clear hown' hgrow hnil hO1 HO H3
        go_wp2
        go_roundw
        case rel => exact ⟨k + 1, by omega, by go_num, ⟨_, _, _, by rw [HCT.out], by rw [HCT.out]; exact HW1.out⟩, HO1.out⟩
        case measure => simp [intOf]; omega
      · have hk' : (ek == kind) = false := by simp [hek]
        have HCT := Lib.hid (by simpa [hek] using hct : countV (es.take (k + 1)) kind = m)
        clear hek hct
        go_wp2
        go_roundw
        case rel => exact ⟨k + 1, by omega, by go_num, ⟨_, _, _, by rw [HCT.out], by rw [HCT.out]; exact H3.out⟩, HO.out⟩
        case measure => simp [intOf]; omega
    · obtain rfl : k = n := by omega
      have hf : countV (es.take k) kind = countV es kind := by rw [HN.out, List.take_length]
      rw [hf]
      have HF := Lib.hid hO
      clear h4 hown hO hf
      go_wp2
      go_ret
      exact ⟨⟨_, _, rfl⟩, HF.out⟩

theorem evs_nil {w : World} {n cap : Nat} {es : List Ev} {S : Nat → Prop} (h : EvsAt w (.slice none n cap) es S) : n = 0 ∧ cap = 0 ∧ es = [] := by
  obtain ⟨a, c, hv, h1, h2, h3, h4⟩ := h
  simp at hv
  obtain ⟨rfl, rfl, rfl⟩ := hv
  have h0 : es.length = 0 := by
    rcases Nat.eq_zero_or_pos es.length with h | h
    · exact h
    · obtain ⟨b, off, he, _⟩ := h4 h
      cases he
  exact ⟨h0, h3 rfl, List.eq_nil_of_length_eq_zero h0⟩
/-- The cells of a list, as an append of it asks for them. -/
theorem evs_news {w : World} {x : Addr} {n cap : Nat} {es : List Ev} {S : Nat → Prop} (h : EvsAt w (.slice (some x) n cap) es S) : ∀ j u, (flat es)[j]? = some u → w.cell? (x.add j) = some u := by
  obtain ⟨a, c, hv, h1, h2, h3, h4⟩ := h
  simp at hv
  obtain ⟨rfl, rfl, rfl⟩ := hv
  intro j u hj
  have hlt := (List.getElem?_eq_some_iff.1 hj).1
  rw [flat_length] at hlt
  obtain ⟨b, off, he, _, hc⟩ := h4 (by omega)
  cases he
  rw [Addr.add_lit]
  exact flat_cells hc j u hj
theorem evs_nil_new (w : World) (S : Nat → Prop) : EvsAt w (.slice none 0 0) [] S := ⟨none, 0, rfl, Nat.le_refl _, by unfold maxLen; omega, fun _ => rfl, fun h => by simp at h⟩

set_option maxHeartbeats 2000000 in
set_option maxRecDepth 100000 in
theorem clone_some (x : Addr) (n cap : Nat) (es : List Ev) (S : Nat → Prop) (w : World) (hI : EvsAt w (.slice (some x) n cap) es S) (hl : es.length ≤ 90000) :
    Calls Try.prog 25 #[.slice (some x) n cap] w fun e w' => ∃ v', e = .returned v' ∧ w'.ownsRow w.heap.size 28 3 v' es.length (flat es) ∧ Off (fun _ => False) w w' := by
  have hn := evs_len hI
  have A : Aside (∀ j u, (flat es)[j]? = some u → w.cell? (x.add j) = some u) := evs_news hI
  have HL := Lib.hid (show (flat es).length = n * 3 by rw [flat_length, hn])
  have HN := Lib.hid hn
  rw [← hn] at hl
  clear hI hn
  obtain ⟨i0, hi, hz0, hz1, hz2⟩ := info_parts ev_info
  have q22 : ∀ (w : World) (a : Option Addr) (n c n' c' : Nat), (binOp .eql 22 (.slice a n c) (.slice none n' c')).run Try.prog w = .ok (.bool a.isNone) w := fun w a n c n' c' => Lib.run_eql_slice_nil w _ _ a n c n' c' Try.underlying22
  go_enter Try.func25, Try.ntmps25
  go_wp2_with (at_builtin; refine wpList_append_own _ rfl _ _ 22 rfl w.heap.size 28 i0 _ 3 24 Try.underlying22 hi hz0 hz1 hz2 rfl (by decide) _ 0 [] rfl (World.ownsRow_made w #[] 0 (Nat.le_refl _) (Nat.zero_le _) (by simp)) x n cap (flat es) rfl HL.out ?qc2 (flat_one _) ?qc4 ?qc5 ?qc6 ?_)
  case qc2 =>
    intro j u hj
    exact Lib.cell?_alloc_some _ (A.out j u hj)
  case qc4 => unfold maxLen; omega
  case qc5 => omega
  case qc6 => simp
  intro v' w1 hown hgrow hnil
  have hO : Off (fun _ => False) w w1 := ((Off.refl (fun _ => False) w).alloc _).grown hgrow (fun k hk => by
    have : k = w.heap.size := by simpa [Value.ownBlock] using hk.symm
    subst this
    refine ⟨fun h => absurd h (Nat.lt_irrefl _), fun o ho => ?_⟩
    rw [World.alloc_heap_new] at ho; cases ho; rfl)
  have hown' : w1.ownsRow w.heap.size 28 3 v' n (flat es) := by simpa using hown
  have HO := Lib.hid hO
  have HW := Lib.hid hown'
  clear hown hgrow hnil hO hown'
  go_wp2
  go_ret
  exact ⟨v', rfl, by rw [← HN.out]; exact HW.out, HO.out⟩

set_option maxHeartbeats 400000 in
theorem clone_nil (w : World) :
    Calls Try.prog 25 #[.slice none 0 0] w fun e w' => e = .returned (.slice none 0 0) ∧ w = w' := by
  have q22 : ∀ (w : World) (a : Option Addr) (n c n' c' : Nat), (binOp .eql 22 (.slice a n c) (.slice none n' c')).run Try.prog w = .ok (.bool a.isNone) w := fun w a n c n' c' => Lib.run_eql_slice_nil w _ _ a n c n' c' Try.underlying22
  go_enter Try.func25, Try.ntmps25
  go_wp2
  go_ret
  exact ⟨rfl, rfl⟩

theorem clone_any (sv : Value) (es : List Ev) (S : Nat → Prop) (w : World) (hI : EvsAt w sv es S) (hl : es.length ≤ 90000) :
    Calls Try.prog 25 #[sv] w fun e w' => ∃ v', e = .returned v' ∧ w'.ownsRow w.heap.size 28 3 v' es.length (flat es) ∧ Off (fun _ => False) w w' := by
  have hI' := hI
  obtain ⟨a, cap, rfl, _⟩ := hI
  cases a with
  | some x => exact clone_some x _ cap es S w hI' hl
  | none =>
    obtain ⟨h1, h2, h3⟩ := evs_nil hI'
    subst h3; subst h2
    refine (clone_nil w).mono ?_
    rintro e w' ⟨rfl, rfl⟩
    exact ⟨_, rfl, World.ownsRow_nil _ _ _ _, Off.refl _ _⟩

set_option maxHeartbeats 1000000 in
set_option maxRecDepth 100000 in
theorem grow_pos (n : Nat) (hn : 0 < n) (hl : n ≤ 200000) (w : World) :
    Calls Try.prog 26 #[.slice none 0 0, .int .i64 (n : Int)] w fun e w' => (∃ c, e = .returned (.slice (some ⟨w.heap.size, 0, none⟩) 0 c) ∧ w'.ownsRow w.heap.size 28 3 (.slice (some ⟨w.heap.size, 0, none⟩) 0 c) 0 []) ∧ Off (fun _ => False) w w' := by
  obtain ⟨i0, hi, hz0, hz1, hz2⟩ := info_parts ev_info
  have hr := fun ty => Lib.run_append_nil_zeros (P := Try.prog) w 22 3 ty 28 i0 _ .i64 .i64 Try.underlying22 Try.underlying3 hi hz0 n hn (by omega) (by omega) (by rw [hz2]; omega)
  obtain ⟨c, hc⟩ : ∃ c, c = grownCap w n 0 28 := ⟨_, rfl⟩
  have hcn : n ≤ c := by rw [hc]; exact grownCap_ge w n 0 _
  have hcm : c ≤ maxLen := by rw [hc]; exact grownCap_le_maxLen w n 0 _ (by unfold maxLen; omega)
  rw [← hc] at hr
  obtain ⟨Z, hZ⟩ : ∃ Z, Z = Builtin.zeroCells (Value.cells (.agg #[.int .i64 0, .int .i64 0, .int .i64 0])) n ++ Builtin.zeroCells (Value.cells (.agg #[.int .i64 0, .int .i64 0, .int .i64 0])) (c - n) := ⟨_, rfl⟩
  have hzs : Z.size = c * 3 := by
    rw [hZ, Array.size_append, size_zeroCells, size_zeroCells]
    show n * 3 + (c - n) * 3 = c * 3
    omega
  rw [← hZ] at hr
  have hrow : (w.alloc (.cells Z 28)).drew.ownsRow w.heap.size 28 3 (.slice (some ⟨w.heap.size, 0, none⟩) 0 c) 0 [] := World.ownsRow_made w Z c (Nat.le_refl _) hcm hzs
  have hO : Off (fun _ => False) w (w.alloc (.cells Z 28)).drew := ((Off.refl (fun _ => False) w).alloc _).drew
  have HR := Lib.hid hrow
  have HO := Lib.hid hO
  have HRUN := Lib.hid hr
  clear hc hcn hcm hZ hzs hrow hO hr hz0 hz1 hz2 hi
  go_enter Try.func26, Try.ntmps26
  go_wp2_with (at_builtin; refine Lib.wpList_append_run _ rfl _ _ _ _ rfl _ _ rfl rfl _ _ (HRUN.out _) ?_)
  go_ret
  exact ⟨⟨c, rfl, HR.out⟩, HO.out⟩

set_option maxHeartbeats 400000 in
theorem grow_zero (w : World) :
    Calls Try.prog 26 #[.slice none 0 0, .int .i64 0] w fun e w' => e = .returned (.slice none 0 0) ∧ w = w' := by
  go_enter Try.func26, Try.ntmps26
  go_wp2
  go_ret
  exact ⟨rfl, rfl⟩

theorem grow_any (n : Nat) (hl : n ≤ 200000) (w : World) :
    Calls Try.prog 26 #[.slice none 0 0, .int .i64 (n : Int)] w fun e w' => (∃ a c, e = .returned (.slice a 0 c) ∧ w'.ownsRow w.heap.size 28 3 (.slice a 0 c) 0 []) ∧ Off (fun _ => False) w w' := by
  rcases Nat.eq_zero_or_pos n with rfl | h
  · refine (grow_zero w).mono ?_
    rintro e w' ⟨rfl, rfl⟩
    exact ⟨⟨none, 0, rfl, World.ownsRow_nil _ _ _ _⟩, Off.refl _ _⟩
  · refine (grow_pos n h hl w).mono ?_
    rintro e w' ⟨⟨c, rfl, hr⟩, ho⟩
    exact ⟨⟨_, c, rfl, hr⟩, ho⟩

/-- An append to a row of the call's own leaves what lay before as it lay. -/
theorem off_append {w W w1 : World} {n k : Nat} {T : TypeId} {v : Value} {xs : List Value} (hO : Off (fun _ => False) w W) (hn : w.heap.size ≤ n) (h : W.ownsRow n T 3 v k xs) (hg : W.grownBy w1 v.ownBlock) : Off (fun _ => False) w w1 :=
  hO.grown hg (fun j ej => by
    have hx := (h.lt j ej).1
    refine ⟨fun h => by omega, fun o ho => ?_⟩
    rcases h.2 with ⟨rfl, _⟩ | ⟨g, cap, cur, rfl, _, hgb, _⟩
    · simp [Value.ownBlock] at ej
    · obtain rfl : g = j := by simpa [Value.ownBlock] using ej
      rw [hgb] at ho; cases ho; rfl)

set_option maxHeartbeats 4000000 in
set_option maxRecDepth 100000 in
theorem concat_any (b : Nat) (sx sy : Value) (ls ms : List Ev) (Sx Sy : Nat → Prop) (w : World) (c0 : w.cell? ⟨b, 0, none⟩ = some sx) (c1 : w.cell? ⟨b, 1, none⟩ = some sy) (hx : EvsAt w sx ls Sx) (hy : EvsAt w sy ms Sy) (hl : ls.length ≤ 90000) (hm : ms.length ≤ 90000) :
    Calls Try.prog 16 #[.slice (some ⟨b, 0, none⟩) 2 2] w fun e w' => ∃ v, e = .returned v ∧ w'.ownsRow w.heap.size 28 3 v (ls.length + ms.length) (flat (ls ++ ms)) ∧ Off (fun _ => False) w w' := by
  obtain ⟨i0, hi, hz0, hz1, hz2⟩ := info_parts ev_info
  have HX := Lib.hid hx
  have HY := Lib.hid hy
  obtain ⟨a, cap, rfl, _⟩ := hx
  obtain ⟨a2, cap2, rfl, _⟩ := hy
  have HG := fun X => grow_any (ls.length + ms.length) (by omega) X
  have hcast : ((ls.length : Int) + (ms.length : Int)) = ((ls.length + ms.length : Nat) : Int) := by omega
  obtain ⟨m, hm'⟩ : ∃ m, m = ls.length := ⟨_, rfl⟩
  obtain ⟨n, hn'⟩ : ∃ n, n = ms.length := ⟨_, rfl⟩
  rw [← hm', ← hn'] at hcast
  rw [← hm'] at c0 hl ⊢
  rw [← hn'] at c1 hm ⊢
  simp only [← hm', ← hn'] at HG HX HY
  have HM := Lib.hid hm'
  have HN := Lib.hid hn'
  have HG2 : ∀ X, Calls Try.prog 26 #[.slice none 0 0, .int .i64 ((m : Int) + n)] X fun e w' => (∃ a c, e = .returned (.slice a 0 c) ∧ w'.ownsRow X.heap.size 28 3 (.slice a 0 c) 0 []) ∧ Off (fun _ => False) X w' := by
    intro X; rw [hcast]; exact HG X
  have HGG := Lib.hid HG2
  clear hm' hn' hcast HG HG2
  go_enter Try.func16, Try.ntmps16
  go_wp2
  go_loop [3, 11] (fun t i => (i = .int .i64 0 ∧ t = .int .i64 0) ∨ (i = .int .i64 1 ∧ t = .int .i64 m) ∨ (i = .int .i64 2 ∧ t = .int .i64 ((m : Int) + n))) (fun _ i => 2 - (intOf i).toNat)
  case atStart => exact .inl ⟨rfl, rfl⟩
  case round =>
    rcases hrel with ⟨rfl, rfl⟩ | ⟨rfl, rfl⟩ | ⟨rfl, rfl⟩
    · go_wp2
      go_round
      case rel => exact .inr (.inl ⟨by go_num, rfl⟩)
      case measure => simp [intOf]
    · go_wp2
      go_round
      case rel => exact .inr (.inr ⟨by go_num, by go_num⟩)
      case measure => simp [intOf]
    · go_wp2_with fail
      refine (HGG.out _).mono ?_
      rintro e w0 ⟨⟨ga, gc, rfl, hr0⟩, hO0⟩
      have HR0 := Lib.hid hr0
      have HO0 := Lib.hid hO0
      clear hr0 hO0 HGG
      go_wp2
      go_loopw [6, 27] (fun v i wr => Off (fun _ => False) w wr ∧ ((i = .int .i64 0 ∧ ∃ a c, v = .slice a 0 c ∧ wr.ownsRow w.heap.size 28 3 v 0 []) ∨
          (i = .int .i64 1 ∧ ∃ a c, v = .slice a m c ∧ wr.ownsRow w.heap.size 28 3 v m (flat ls)) ∨ (i = .int .i64 2 ∧ ∃ a c, v = .slice a (m + n) c ∧ wr.ownsRow w.heap.size 28 3 v (m + n) (flat ls ++ flat ms)))) (fun _ i _ => 2 - (intOf i).toNat)
      case atStart => exact ⟨HO0.out, .inl ⟨rfl, _, _, rfl, HR0.out⟩⟩
      case round =>
        obtain ⟨hO, ⟨rfl, va, vc, rfl, hr⟩ | ⟨rfl, va, vc, rfl, hr⟩ | ⟨rfl, va, vc, rfl, hr⟩⟩ := hrel
        · have d0 := hO.cell c0 (fun c => c)
          have hX := HX.out.off hO (fun _ _ _ c => c)
          have HO := Lib.hid hO
          have HR := Lib.hid hr
          have hsz := hO.size
          clear HR0 HO0 hO hr
          cases a with
          | none =>
            obtain ⟨h1, h2, h3⟩ := evs_nil hX
            subst h1 h2 h3
            go_wp2_with (at_builtin; refine wpList_append_own_none rfl _ _ 22 rfl w.heap.size 28 i0 3 Try.underlying22 hi _ 0 [] rfl HR.out rfl ?_)
            exact ⟨⟨_, _, _, ⟨HO.out, .inr (.inl ⟨rfl, ⟨_, _, rfl⟩, HR.out⟩)⟩, rfl, rfl, rfl⟩, by simp [intOf]⟩
          | some x =>
            have hnews := Lib.hid (evs_news hX)
            have hlen := Lib.hid (show (flat ls).length = m * 3 by rw [flat_length, HM.out])
            clear hX
            go_wp2_with (at_builtin; refine wpList_append_own _ rfl _ _ 22 rfl w.heap.size 28 i0 _ 3 24 Try.underlying22 hi hz0 hz1 hz2 rfl (by decide) _ 0 [] rfl HR.out x m cap (flat ls) rfl hlen.out hnews.out (flat_one _) ?q4 ?q5 hsz ?_)
            case q4 => unfold maxLen; omega
            case q5 => omega
            intro v' w1 hown hgrow hnil
            have HO1 := Lib.hid (off_append HO.out (Nat.le_refl _) HR.out hgrow)
            have HW1 : Hid (w1.ownsRow w.heap.size 28 3 v' m (flat ls)) := Lib.hid (by simpa using hown)
            clear hown hgrow hnil HR HO hnews
            go_wp2
            go_roundw
            case rel =>
              refine ⟨HO1.out, .inr (.inl ⟨by go_num, ?_⟩)⟩
              rcases HW1.out.2 with ⟨rfl, h0⟩ | ⟨g, cap, cur, rfl, _⟩
              · exact ⟨_, _, by rw [h0], HW1.out⟩
              · exact ⟨_, _, rfl, HW1.out⟩
            case measure => simp [intOf]
        · have d0 := hO.cell c1 (fun c => c)
          have hX := HY.out.off hO (fun _ _ _ c => c)
          have HO := Lib.hid hO
          have HR := Lib.hid hr
          have hsz := hO.size
          clear HR0 HO0 hO hr
          cases a2 with
          | none =>
            obtain ⟨h1, h2, h3⟩ := evs_nil hX
            subst h1 h2 h3
            go_wp2_with (at_builtin; refine wpList_append_own_none rfl _ _ 22 rfl w.heap.size 28 i0 3 Try.underlying22 hi _ m (flat ls) rfl HR.out rfl ?_)
            exact ⟨⟨_, _, _, ⟨HO.out, .inr (.inr ⟨rfl, ⟨_, _, rfl⟩, by simpa [flat] using HR.out⟩)⟩, rfl, rfl, rfl⟩, by simp [intOf]⟩
          | some x =>
            have hnews := Lib.hid (evs_news hX)
            have hlen := Lib.hid (show (flat ms).length = n * 3 by rw [flat_length, HN.out])
            clear hX
            go_wp2_with (at_builtin; refine wpList_append_own _ rfl _ _ 22 rfl w.heap.size 28 i0 _ 3 24 Try.underlying22 hi hz0 hz1 hz2 rfl (by decide) _ m (flat ls) rfl HR.out x n cap2 (flat ms) rfl hlen.out hnews.out (flat_one _) ?q4 ?q5 hsz ?_)
            case q4 => unfold maxLen; omega
            case q5 => omega
            intro v' w1 hown hgrow hnil
            have HO1 := Lib.hid (off_append HO.out (Nat.le_refl _) HR.out hgrow)
            have HW1 := Lib.hid hown
            clear hown hgrow hnil HR HO hnews
            go_wp2
            go_roundw
            case rel =>
              refine ⟨HO1.out, .inr (.inr ⟨by go_num, ?_⟩)⟩
              rcases HW1.out.2 with ⟨rfl, h0⟩ | ⟨g, cap, cur, rfl, _⟩
              · exact ⟨_, _, by rw [h0], HW1.out⟩
              · exact ⟨_, _, rfl, HW1.out⟩
            case measure => simp [intOf]
        · have HO := Lib.hid hO
          have HR := Lib.hid hr
          clear HR0 HO0 hO hr
          go_wp2
          go_ret
          exact ⟨_, rfl, by rw [flat_append]; exact HR.out, HO.out⟩

set_option maxHeartbeats 1000000 in
theorem long1_any (b : Nat) (a : Option Addr) (m cap : Nat) (w : World) (c0 : w.cell? ⟨b, 0, none⟩ = some (.slice a m cap)) :
    Calls Try.prog 9 #[.slice (some ⟨b, 0, none⟩) 1 1] w fun e w' => e = .returned (.bool (decide (3000 < m))) ∧ w = w' := by
  by_cases h : 3000 < m
  · rw [decide_eq_true h]
    have h' : ((3000 : Int) < (m : Int)) := by omega
    go_enter Try.func9, Try.ntmps9
    go_wp2
    go_loop [7] (fun i => i = .int .i64 0) (fun i => 1 - (intOf i).toNat)
    case atStart => rfl
    case round =>
      subst hrel
      go_wp2
      go_ret
      exact ⟨rfl, rfl⟩
  · rw [decide_eq_false h]
    have h' : ¬ ((3000 : Int) < (m : Int)) := by omega
    go_enter Try.func9, Try.ntmps9
    go_wp2
    go_loop [7] (fun i => i = .int .i64 0 ∨ i = .int .i64 1) (fun i => 1 - (intOf i).toNat)
    case atStart => exact .inl rfl
    case round =>
      rcases hrel with rfl | rfl
      · go_wp2
        go_round
        case rel => exact .inr (by go_num)
        case measure => simp [intOf]
      · go_wp2
        go_ret
        exact ⟨rfl, rfl⟩

set_option maxHeartbeats 1000000 in
theorem long2_any (b : Nat) (a a2 : Option Addr) (m cap n cap2 : Nat) (w : World) (c0 : w.cell? ⟨b, 0, none⟩ = some (.slice a m cap)) (c1 : w.cell? ⟨b, 1, none⟩ = some (.slice a2 n cap2)) :
    Calls Try.prog 9 #[.slice (some ⟨b, 0, none⟩) 2 2] w fun e w' => e = .returned (.bool (decide (3000 < m ∨ 3000 < n))) ∧ w = w' := by
  by_cases h : 3000 < m
  · rw [decide_eq_true (.inl h)]
    have h' : ((3000 : Int) < (m : Int)) := by omega
    go_enter Try.func9, Try.ntmps9
    go_wp2
    go_loop [7] (fun i => i = .int .i64 0) (fun i => 2 - (intOf i).toNat)
    case atStart => rfl
    case round =>
      subst hrel
      go_wp2
      go_ret
      exact ⟨rfl, rfl⟩
  · by_cases h2 : 3000 < n
    · rw [decide_eq_true (.inr h2)]
      have h' : ¬ ((3000 : Int) < (m : Int)) := by omega
      have h2' : ((3000 : Int) < (n : Int)) := by omega
      go_enter Try.func9, Try.ntmps9
      go_wp2
      go_loop [7] (fun i => i = .int .i64 0 ∨ i = .int .i64 1) (fun i => 2 - (intOf i).toNat)
      case atStart => exact .inl rfl
      case round =>
        rcases hrel with rfl | rfl
        · go_wp2
          go_round
          case rel => exact .inr (by go_num)
          case measure => simp [intOf]
        · go_wp2
          go_ret
          exact ⟨rfl, rfl⟩
    · rw [decide_eq_false (by omega)]
      have h' : ¬ ((3000 : Int) < (m : Int)) := by omega
      have h2' : ¬ ((3000 : Int) < (n : Int)) := by omega
      go_enter Try.func9, Try.ntmps9
      go_wp2
      go_loop [7] (fun i => i = .int .i64 0 ∨ i = .int .i64 1 ∨ i = .int .i64 2) (fun i => 2 - (intOf i).toNat)
      case atStart => exact .inl rfl
      case round =>
        rcases hrel with rfl | rfl | rfl
        · go_wp2
          go_round
          case rel => exact .inr (.inl (by go_num))
          case measure => simp [intOf]
        · go_wp2
          go_round
          case rel => exact .inr (.inr (by go_num))
          case measure => simp [intOf]
        · go_wp2
          go_ret
          exact ⟨rfl, rfl⟩
end Go.Proofs.Ytpaiigapffbinaa
