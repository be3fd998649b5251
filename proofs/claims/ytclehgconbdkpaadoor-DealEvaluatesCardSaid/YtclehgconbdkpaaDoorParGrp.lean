/-
  Parameters and shares in plain terms: the errors of Check, CheckShare and CheckShares, the number of random bytes. Plain facts.
  Lists of shares in plain terms: the errors of CheckShares, columns. Plain facts.
  The reference of layer 15 over this seat's translation: known, Check, Random, CheckShare. Conditions: the numbers are ints.
  The reference of layer 15 over this seat's translation: CheckShares, Column, for lists of shares. Conditions: the shares lie in memory, their numbers are ints.
-/
import Derived.Test.YtclehgconbdkpaaDoorShr
import Derived.Test.YtclehgconbdkpaaDoorChkGrp
import Derived.Test.YtclehgconbdkpaaDoorModGet
import Derived.Test.YtclehgconbdkpaaDoorModAll
import Derived.Deep.QuietTactic
import Derived.BigQuiet
namespace Go.Proofs.YtclehgconbdkpaaDoor
section
/-- Parameters of a sharing. -/
structure Pms where
  fd : Int
  th : Int
  sh : Int
  ln : Int
def Pms.val (q : Pms) : Value := .agg #[.int .i64 q.fd, .int .i64 q.th, .int .i64 q.sh, .int .i64 q.ln]
def Pms.ok (q : Pms) : Prop := I64 q.fd ∧ I64 q.th ∧ I64 q.sh ∧ I64 q.ln
def Kn (id : Int) : Prop := id = 1 ∨ id = 2
instance (id : Int) : Decidable (Kn id) := inferInstanceAs (Decidable (id = 1 ∨ id = 2))
/-- Check. -/
def prN (q : Pms) : Nat := if ¬ Kn q.fd then 3 else if q.sh < 1 ∨ 255 < q.sh then 5 else if q.th < 1 ∨ q.sh < q.th then 4 else if q.ln < 0 ∨ 65535 < q.ln then 6 else 0
/-- Random. -/
def rndN (q : Pms) : Int := if prN q = 0 then 64 * (q.th - 1) * (cntI q.ln : Int) else 0
/-- CheckShare. -/
def shN (s : Sh) : Nat := if ¬ Kn s.fd then 3 else if s.th < 1 ∨ 255 < s.th then 4 else if s.ix < 1 ∨ 255 < s.ix then 12 else if s.ln < 0 ∨ 65535 < s.ln then 6 else if s.pl.length ≠ cntI s.ln then 8 else if ∀ x ∈ s.pl, x < modN s.fd then 0 else 9
theorem modN_pos {id : Int} (h : Kn id) : 1 < modN id ∧ modN id < R256 := by
  rcases h with rfl | rfl
  · decide
  · decide
end
section
/-- The error of the first share that has one. -/
def firstE : List Sh → Nat
  | [] => 0
  | s :: t => if shN s = 0 then firstE t else shN s
theorem firstE_append : ∀ (l t : List Sh), firstE l = 0 → firstE (l ++ t) = firstE t
  | [], _, _ => rfl
  | s :: l, t, h => by
    unfold firstE at h
    by_cases hs : shN s = 0
    · rw [if_pos hs] at h
      show (if shN s = 0 then firstE (l ++ t) else shN s) = firstE t
      rw [if_pos hs]
      exact firstE_append l t h
    · rw [if_neg hs] at h
      exact absurd h hs
theorem firstE_zero : ∀ {l : List Sh}, firstE l = 0 ↔ ∀ s ∈ l, shN s = 0
  | [] => by simp [firstE]
  | s :: t => by
    unfold firstE
    by_cases hs : shN s = 0
    · rw [if_pos hs, firstE_zero]; simp [hs]
    · rw [if_neg hs]; simp [hs]
theorem firstE_cut {l : List Sh} {m : Nat} {s : Sh} (h : firstE (l.take m) = 0) (hx : l[m]? = some s) : firstE (l.take (m + 1)) = shN s ∧ (shN s ≠ 0 → firstE l = shN s) := by
  have e : firstE [s] = shN s := by unfold firstE; split <;> simp_all [firstE]
  constructor
  · rw [List.take_add_one, hx, firstE_append _ _ h]; exact e
  · intro hs
    have h2 : l = l.take m ++ (s :: l.drop (m + 1)) := by
      rw [← List.take_append_drop m l] 
      have hlt := (List.getElem?_eq_some_iff.1 hx).1
      have hv := (List.getElem?_eq_some_iff.1 hx).2
      rw [List.take_append_drop, ← hv, ← List.drop_eq_getElem_cons hlt, List.take_append_drop]
    rw [h2, firstE_append _ _ h]
    show (if shN s = 0 then _ else shN s) = shN s
    rw [if_neg hs]
/-- Two shares have the same header. -/
def SameH (a b : Sh) : Prop := a.fd = b.fd ∧ a.th = b.th ∧ a.ln = b.ln
instance (a b : Sh) : Decidable (SameH a b) := inferInstanceAs (Decidable (_ ∧ _ ∧ _))
def OneH (l : List Sh) : Prop := ∀ s ∈ l, ∀ t ∈ l, SameH s t
instance (l : List Sh) : Decidable (OneH l) := inferInstanceAs (Decidable (∀ s ∈ l, ∀ t ∈ l, SameH s t))
def ixs (l : List Sh) : List Int := l.map Sh.ix
/-- CheckShares. -/
def shsN (l : List Sh) : Nat := if firstE l ≠ 0 then firstE l else if ¬ OneH l then 14 else if ¬ (ixs l).Nodup then 15 else if l = [] ∨ ∃ s ∈ l, (l.length : Int) < s.th then 16 else 0
theorem oneH_of {l : List Sh} {s0 : Sh} (h0 : l[0]? = some s0) : OneH l ↔ ∀ (j : Nat) (s : Sh), l[j]? = some s → SameH s s0 := by
  constructor
  · intro h j s hj
    exact h s (List.mem_of_getElem? hj) s0 (List.mem_of_getElem? h0)
  · intro h s hs t ht
    obtain ⟨j, hj⟩ := List.getElem?_of_mem hs
    obtain ⟨k, hk⟩ := List.getElem?_of_mem ht
    have h1 := h j s hj
    have h2 := h k t hk
    exact ⟨h1.1.trans h2.1.symm, h1.2.1.trans h2.2.1.symm, h1.2.2.trans h2.2.2.symm⟩
theorem nodup_ix {l : List Sh} : (ixs l).Nodup ↔ ∀ (j k : Nat) (s t : Sh), k < j → l[j]? = some s → l[k]? = some t → s.ix ≠ t.ix := by
  unfold ixs
  rw [List.nodup_iff_pairwise_ne, List.pairwise_iff_getElem]
  constructor
  · intro h j k s t hkj hj hk e
    obtain ⟨hj1, hj2⟩ := List.getElem?_eq_some_iff.1 hj
    obtain ⟨hk1, hk2⟩ := List.getElem?_eq_some_iff.1 hk
    refine h k j (by simpa using hk1) (by simpa using hj1) hkj ?_
    simp [hj2, hk2, e]
  · intro h i j hi hj hij e
    have hi' : i < l.length := by simpa using hi
    have hj' : j < l.length := by simpa using hj
    refine h j i l[j] l[i] hij (List.getElem?_eq_getElem hj') (List.getElem?_eq_getElem hi') ?_
    simpa using e.symm
theorem shsN_err {l : List Sh} {e : Nat} (h : firstE l = e) (h0 : e ≠ 0) : shsN l = e := by
  unfold shsN; rw [if_pos (by rw [h]; exact h0), h]
theorem shsN_mix {l : List Sh} (h : firstE l = 0) (h1 : ¬ OneH l) : shsN l = 14 := by
  unfold shsN; rw [if_neg (fun c => c h), if_pos h1]
theorem shsN_dup {l : List Sh} (h : firstE l = 0) (h1 : OneH l) (h2 : ¬ (ixs l).Nodup) : shsN l = 15 := by
  unfold shsN; rw [if_neg (fun c => c h), if_neg (fun c => c h1), if_pos h2]
theorem shsN_nil : shsN [] = 16 := by
  unfold shsN
  rw [if_neg (by simp [firstE]), if_neg (by simp [OneH]), if_neg (by simp [ixs]), if_pos (.inl rfl)]
theorem shsN_end {l : List Sh} {s0 : Sh} (h : firstE l = 0) (h1 : OneH l) (h2 : (ixs l).Nodup) (h0 : l[0]? = some s0) : shsN l = if (l.length : Int) < s0.th then 16 else 0 := by
  unfold shsN; rw [if_neg (fun c => c h), if_neg (fun c => c h1), if_neg (fun c => c h2)]
  have hm := List.mem_of_getElem? h0
  by_cases hl : (l.length : Int) < s0.th
  · rw [if_pos (.inr ⟨s0, hm, hl⟩), if_pos hl]
  · rw [if_neg, if_neg hl]
    rintro (hn | ⟨s, hs, hlt⟩)
    · subst hn; simp at hm
    · exact hl ((h1 s hs s0 hm).2.1 ▸ hlt)
/-- Column: the numbers of the elements. -/
def colN (l : List Sh) (c : Int) : List Nat := l.map fun s => if 0 ≤ c then s.pl.getD c.toNat 0 else 0
theorem colN_length (l : List Sh) (c : Int) : (colN l c).length = l.length := by simp [colN]
end
section
open Go.RowKit
attribute [local go_sem ↓] Go.wp_at_zero Go.wp_at_succ
set_option maxRecDepth 100000
set_option maxHeartbeats 4000000
theorem refknown_any (id : Int) (w : World) : Calls Tryd.prog 40 #[.int .i64 id] w fun e w' => e = .returned (.bool (decide (Kn id))) ∧ w' = w := by
  by_cases h1 : id = 1
  · subst h1
    rw [show decide (Kn 1) = true by decide]
    go_enter Tryd.func40, Tryd.ntmps40
    go_wp2
    go_ret
    exact ⟨rfl, rfl⟩
  · by_cases h2 : id = 2
    · subst h2
      rw [show decide (Kn 2) = true by decide]
      go_enter Tryd.func40, Tryd.ntmps40
      go_wp2
      go_ret
      exact ⟨rfl, rfl⟩
    · rw [show decide (Kn id) = false from decide_eq_false (fun h => h.elim h1 h2)]
      have e1 : (id == 1) = false := by simpa using h1
      have e2 : (id == 2) = false := by simpa using h2
      go_enter Tryd.func40, Tryd.ntmps40
      go_wp2
      go_ret
      exact ⟨rfl, rfl⟩
theorem refprm_any (q : Pms) (w : World) : Calls Tryd.prog 17 #[q.val] w fun e w' => e = .returned (.int .i64 (prN q : Int)) ∧ Off (fun _ => False) w w' := by
  obtain ⟨fd, th, sh, ln⟩ := q
  have FK := Lib.hid (fun W => refknown_any fd W)
  obtain ⟨r, hr⟩ : ∃ r, r = prN ⟨fd, th, sh, ln⟩ := ⟨_, rfl⟩
  rw [← hr]
  unfold Pms.val
  unfold prN at hr
  dsimp only at hr ⊢
  by_cases hk : Kn fd
  · rw [if_neg (fun h => h hk)] at hr
    rw [show decide (Kn fd) = true from decide_eq_true hk] at FK
    by_cases hA : sh < 1
    · obtain rfl : r = 5 := by rw [hr, if_pos (.inl hA)]
      clear hr
      go_enter Tryd.func17, Tryd.ntmps17
      go_wp2_with fail
      refine (FK.out _).mono ?_
      rintro e u ⟨rfl, rfl⟩
      go_wp2
      go_ret
      exact ⟨rfl, (Off.refl _ w).alloc _⟩
    · by_cases hB : 255 < sh
      · obtain rfl : r = 5 := by rw [hr, if_pos (.inr hB)]
        clear hr
        go_enter Tryd.func17, Tryd.ntmps17
        go_wp2_with fail
        refine (FK.out _).mono ?_
        rintro e u ⟨rfl, rfl⟩
        go_wp2
        go_ret
        exact ⟨rfl, (Off.refl _ w).alloc _⟩
      · rw [if_neg (fun h => h.elim hA hB)] at hr
        have c2a := hA
        have c2b := hB
        clear hA hB
        by_cases hA : th < 1
        · obtain rfl : r = 4 := by rw [hr, if_pos (.inl hA)]
          clear hr
          go_enter Tryd.func17, Tryd.ntmps17
          go_wp2_with fail
          refine (FK.out _).mono ?_
          rintro e u ⟨rfl, rfl⟩
          go_wp2
          go_ret
          exact ⟨rfl, (Off.refl _ w).alloc _⟩
        · by_cases hB : sh < th
          · obtain rfl : r = 4 := by rw [hr, if_pos (.inr hB)]
            clear hr
            go_enter Tryd.func17, Tryd.ntmps17
            go_wp2_with fail
            refine (FK.out _).mono ?_
            rintro e u ⟨rfl, rfl⟩
            go_wp2
            go_ret
            exact ⟨rfl, (Off.refl _ w).alloc _⟩
          · rw [if_neg (fun h => h.elim hA hB)] at hr
            have c1a := hA
            have c1b := hB
            clear hA hB
            by_cases hA : ln < 0
            · obtain rfl : r = 6 := by rw [hr, if_pos (.inl hA)]
              clear hr
              go_enter Tryd.func17, Tryd.ntmps17
              go_wp2_with fail
              refine (FK.out _).mono ?_
              rintro e u ⟨rfl, rfl⟩
              go_wp2
              go_ret
              exact ⟨rfl, (Off.refl _ w).alloc _⟩
            · by_cases hB : 65535 < ln
              · obtain rfl : r = 6 := by rw [hr, if_pos (.inr hB)]
                clear hr
                go_enter Tryd.func17, Tryd.ntmps17
                go_wp2_with fail
                refine (FK.out _).mono ?_
                rintro e u ⟨rfl, rfl⟩
                go_wp2
                go_ret
                exact ⟨rfl, (Off.refl _ w).alloc _⟩
              · rw [if_neg (fun h => h.elim hA hB)] at hr
                have c0a := hA
                have c0b := hB
                clear hA hB
                obtain rfl : r = 0 := hr
                go_enter Tryd.func17, Tryd.ntmps17
                go_wp2_with fail
                refine (FK.out _).mono ?_
                rintro e u ⟨rfl, rfl⟩
                go_wp2
                go_ret
                exact ⟨rfl, (Off.refl _ w).alloc _⟩
  · obtain rfl : r = 3 := by rw [hr, if_pos hk]
    rw [show decide (Kn fd) = false from decide_eq_false hk] at FK
    clear hr hk
    go_enter Tryd.func17, Tryd.ntmps17
    go_wp2_with fail
    refine (FK.out _).mono ?_
    rintro e u ⟨rfl, rfl⟩
    go_wp2
    go_ret
    exact ⟨rfl, (Off.refl _ w).alloc _⟩
theorem refrandom_any (q : Pms) (hq : q.ok) (w : World) : Calls Tryd.prog 36 #[q.val] w fun e w' => e = .returned (.int .i64 (rndN q)) ∧ Off (fun _ => False) w w' := by
  have FC := Lib.hid (fun W => refprm_any q W)
  obtain ⟨c, hc⟩ : ∃ c, c = prN q := ⟨_, rfl⟩
  have hx : c = 0 → 1 ≤ q.th ∧ q.th ≤ 255 := fun h => by
    rw [hc] at h
    unfold prN at h
    split at h
    · exact absurd h (by decide)
    · split at h
      · exact absurd h (by decide)
      · split at h
        · exact absurd h (by decide)
        · omega
  have hR : rndN q = if c = 0 then 64 * (q.th - 1) * (cntI q.ln : Int) else 0 := by unfold rndN; rw [hc]
  rw [← hc] at FC
  obtain ⟨r, hr⟩ : ∃ r, r = rndN q := ⟨_, rfl⟩
  rw [← hr] at hR ⊢
  have FN := Lib.hid (fun W => refcount_any q.ln hq.2.2.2 W)
  have hcb : cntI q.ln ≤ 2200 := by unfold cntI cntN; split <;> omega
  obtain ⟨fd, th, sh, ln⟩ := q
  unfold Pms.val at FC ⊢
  dsimp only at FC FN hx hR hcb ⊢
  obtain ⟨k, hk⟩ : ∃ k, k = cntI ln := ⟨_, rfl⟩
  rw [← hk] at FN hR hcb
  by_cases h0 : c = 0
  · subst h0
    rw [if_pos rfl] at hR
    obtain ⟨x1, x2⟩ := hx rfl
    have q1 : IntKind.i64.wrap (th - 1) = th - 1 := by rw [IntKind.wrap_i64]; omega
    have q2 : IntKind.i64.wrap (64 * (th - 1)) = 64 * (th - 1) := by rw [IntKind.wrap_i64]; omega
    have q3 : IntKind.i64.wrap (64 * (th - 1) * (k : Int)) = r := by
      obtain ⟨m, hm⟩ : ∃ m : Nat, th - 1 = (m : Int) := Int.eq_ofNat_of_zero_le (by omega)
      have hmk : 64 * m * k ≤ 64 * 255 * 2200 := Nat.mul_le_mul (by omega) hcb
      have e : 64 * (th - 1) * (k : Int) = ((64 * m * k : Nat) : Int) := by rw [hm]; push_cast; rfl
      rw [hR, e, IntKind.wrap_i64]
      omega
    obtain ⟨W0, hW0⟩ : ∃ W0, W0 = w.alloc (.cells #[.int .i64 fd, .int .i64 th, .int .i64 sh, .int .i64 ln] 23) := ⟨_, rfl⟩
    have g0 : W0.heap[w.heap.size]? = some (.cells #[.int .i64 fd, .int .i64 th, .int .i64 sh, .int .i64 ln] 23 (0, 0)) := by rw [hW0]; exact heap_new' rfl _
    have HW0 := Lib.hid hW0
    have HO0 := Lib.hid (show Off (fun _ => False) w W0 by rw [hW0]; exact (Off.refl _ w).alloc _)
    have HG0 := Lib.hid g0
    clear hW0 g0 hk hc hx hr hR hq hcb
    go_enter Tryd.func36, Tryd.ntmps36
    go_wp2_with fail
    rw [← HW0.out]
    refine (FC.out _).mono ?_
    rintro e u ⟨rfl, hO⟩
    obtain ⟨wq, hwq⟩ : ∃ wq, wq = u := ⟨_, rfl⟩
    rw [← hwq] at hO ⊢
    have HG1 := Lib.hid (hO.heap HG0.out (fun c => c))
    have HO1 := Lib.hid (HO0.out.trans hO (fun _ _ c => c))
    clear hO hwq FC
    go_upto_region 3 with fail
    obtain ⟨x6, hx⟩ : ∃ x : Value, x = .pointer (some ⟨w.heap.size, 1, none⟩) := ⟨_, rfl⟩
    have X6 := Lib.hid hx
    clear hx
    obtain ⟨x7, hx⟩ : ∃ x : Value, x = .int .i64 th := ⟨_, rfl⟩
    have X7 := Lib.hid hx
    clear hx
    obtain ⟨x8, hx⟩ : ∃ x : Value, x = .int .i64 (th - 1) := ⟨_, rfl⟩
    have X8 := Lib.hid hx
    clear hx
    obtain ⟨x9, hx⟩ : ∃ x : Value, x = .int .i64 (64 * (th - 1)) := ⟨_, rfl⟩
    have X9 := Lib.hid hx
    clear hx
    obtain ⟨x10, hx⟩ : ∃ x : Value, x = .pointer (some ⟨w.heap.size, 3, none⟩) := ⟨_, rfl⟩
    have X10 := Lib.hid hx
    clear hx
    obtain ⟨x11, hx⟩ : ∃ x : Value, x = .int .i64 ln := ⟨_, rfl⟩
    have X11 := Lib.hid hx
    clear hx
    obtain ⟨x12, hx⟩ : ∃ x : Value, x = .int .i64 (k : Int) := ⟨_, rfl⟩
    have X12 := Lib.hid hx
    clear hx
    obtain ⟨x13, hx⟩ : ∃ x : Value, x = .int .i64 r := ⟨_, rfl⟩
    have X13 := Lib.hid hx
    clear hx
    obtain ⟨x2, hx⟩ : ∃ x : Value, x = .int .i64 r := ⟨_, rfl⟩
    have X2 := Lib.hid hx
    clear hx
    refine wp_region_inv (fun a0 l a' w' => a' = (Act.put (fill a0 6 [sel (l 0) x6 undef, sel (l 1) x7 undef, sel (l 2) x8 undef, sel (l 3) x9 undef, sel (l 4) x10 undef, sel (l 5) x11 undef, sel (l 6) x12 undef, sel (l 7) x13 undef]) (some 2) (sel (l 8) x2 (.int .i64 0))) ∧ Off (fun _ => False) wq w') (by kernel_rfl) (by kernel_rfl) ?_ ⟨?_, ?_, ?_, ?_, ?_, ?_, ?_, ?_, ?_, trivial⟩ ?_
    · refine ⟨?_, (Off.refl _ wq).drew⟩
      simp only [fill_eq, List.take_succ_cons, List.take_zero, List.cons_append, List.nil_append, Act.put, List.setIfInBounds_toArray, List.set_cons_zero, List.set_cons_succ, sel_start]
    · as_aux_lemma =>
        rintro l a wr ⟨ha, hO⟩ hl hd K' hK
        have hx := X6.out; subst hx
        simp only [fill_eq, List.take_succ_cons, List.take_zero, List.cons_append, List.nil_append, Act.put, List.setIfInBounds_toArray, List.set_cons_zero, List.set_cons_succ] at ha
        subst ha
        have hlq := heap_lt (hO.heap HG1.out (fun c => c))
        rw [if_pos (by rfl)]
        go_simp
        refine hK.out _ _ ⟨?_, hO⟩
        simp only [fill_eq, List.take_succ_cons, List.take_zero, List.cons_append, List.nil_append, Act.put, List.setIfInBounds_toArray, List.set_cons_zero, List.set_cons_succ, sel_new]
        rfl
    · as_aux_lemma =>
        rintro l a wr ⟨ha, hO⟩ hl hd K' hK
        have d0 := hd 0 (by decide)
        have hx := X6.out; subst hx
        have hx := X7.out; subst hx
        simp only [fill_eq, List.take_succ_cons, List.take_zero, List.cons_append, List.nil_append, Act.put, List.setIfInBounds_toArray, List.set_cons_zero, List.set_cons_succ, sel_of d0] at ha
        subst ha
        have p0 := cell_of_heap (hO.heap HG1.out (fun c => c)) 1
        rw [if_pos (by rfl)]
        go_simp
        refine hK.out _ _ ⟨?_, hO⟩
        simp only [fill_eq, List.take_succ_cons, List.take_zero, List.cons_append, List.nil_append, Act.put, List.setIfInBounds_toArray, List.set_cons_zero, List.set_cons_succ, sel_new, sel_dep d0]
        rfl
    · as_aux_lemma =>
        rintro l a wr ⟨ha, hO⟩ hl hd K' hK
        have d1 := hd 1 (by decide)
        have hx := X7.out; subst hx
        have hx := X8.out; subst hx
        simp only [fill_eq, List.take_succ_cons, List.take_zero, List.cons_append, List.nil_append, Act.put, List.setIfInBounds_toArray, List.set_cons_zero, List.set_cons_succ, sel_of d1] at ha
        subst ha
        rw [if_pos (by rfl)]
        go_simp
        refine hK.out _ _ ⟨?_, hO⟩
        simp only [fill_eq, List.take_succ_cons, List.take_zero, List.cons_append, List.nil_append, Act.put, List.setIfInBounds_toArray, List.set_cons_zero, List.set_cons_succ, sel_new, sel_dep d1]
        rfl
    · as_aux_lemma =>
        rintro l a wr ⟨ha, hO⟩ hl hd K' hK
        have d2 := hd 2 (by decide)
        have hx := X8.out; subst hx
        have hx := X9.out; subst hx
        simp only [fill_eq, List.take_succ_cons, List.take_zero, List.cons_append, List.nil_append, Act.put, List.setIfInBounds_toArray, List.set_cons_zero, List.set_cons_succ, sel_of d2] at ha
        subst ha
        rw [if_pos (by rfl)]
        go_simp
        refine hK.out _ _ ⟨?_, hO⟩
        simp only [fill_eq, List.take_succ_cons, List.take_zero, List.cons_append, List.nil_append, Act.put, List.setIfInBounds_toArray, List.set_cons_zero, List.set_cons_succ, sel_new, sel_dep d2]
        rfl
    · as_aux_lemma =>
        rintro l a wr ⟨ha, hO⟩ hl hd K' hK
        have hx := X10.out; subst hx
        simp only [fill_eq, List.take_succ_cons, List.take_zero, List.cons_append, List.nil_append, Act.put, List.setIfInBounds_toArray, List.set_cons_zero, List.set_cons_succ] at ha
        subst ha
        have hlq := heap_lt (hO.heap HG1.out (fun c => c))
        rw [if_pos (by rfl)]
        go_simp
        refine hK.out _ _ ⟨?_, hO⟩
        simp only [fill_eq, List.take_succ_cons, List.take_zero, List.cons_append, List.nil_append, Act.put, List.setIfInBounds_toArray, List.set_cons_zero, List.set_cons_succ, sel_new]
        rfl
    · as_aux_lemma =>
        rintro l a wr ⟨ha, hO⟩ hl hd K' hK
        have d4 := hd 4 (by decide)
        have hx := X10.out; subst hx
        have hx := X11.out; subst hx
        simp only [fill_eq, List.take_succ_cons, List.take_zero, List.cons_append, List.nil_append, Act.put, List.setIfInBounds_toArray, List.set_cons_zero, List.set_cons_succ, sel_of d4] at ha
        subst ha
        have p0 := cell_of_heap (hO.heap HG1.out (fun c => c)) 3
        rw [if_pos (by rfl)]
        go_simp
        refine hK.out _ _ ⟨?_, hO⟩
        simp only [fill_eq, List.take_succ_cons, List.take_zero, List.cons_append, List.nil_append, Act.put, List.setIfInBounds_toArray, List.set_cons_zero, List.set_cons_succ, sel_new, sel_dep d4]
        rfl
    · as_aux_lemma =>
        rintro l a wr ⟨ha, hO⟩ hl hd K' hK
        have d5 := hd 5 (by decide)
        have hx := X11.out; subst hx
        have hx := X12.out; subst hx
        simp only [fill_eq, List.take_succ_cons, List.take_zero, List.cons_append, List.nil_append, Act.put, List.setIfInBounds_toArray, List.set_cons_zero, List.set_cons_succ, sel_of d5] at ha
        subst ha
        rw [if_pos (by rfl)]
        go_simp
        refine (held_inv (FN.out wr) hO).mono ?_
        rintro e w1 ⟨rfl, hO1, hOW⟩
        go_wp2_with fail
        refine hK.out _ _ ⟨?_, hO1⟩
        simp only [fill_eq, List.take_succ_cons, List.take_zero, List.cons_append, List.nil_append, Act.put, List.setIfInBounds_toArray, List.set_cons_zero, List.set_cons_succ, sel_new, sel_dep d5]
        rfl
    · as_aux_lemma =>
        rintro l a wr ⟨ha, hO⟩ hl hd K' hK
        have d3 := hd 3 (by decide)
        have d6 := hd 6 (by decide)
        have hx := X9.out; subst hx
        have hx := X12.out; subst hx
        have hx := X13.out; subst hx
        simp only [fill_eq, List.take_succ_cons, List.take_zero, List.cons_append, List.nil_append, Act.put, List.setIfInBounds_toArray, List.set_cons_zero, List.set_cons_succ, sel_of d3, sel_of d6] at ha
        subst ha
        rw [if_pos (by rfl)]
        go_simp
        refine hK.out _ _ ⟨?_, hO⟩
        simp only [fill_eq, List.take_succ_cons, List.take_zero, List.cons_append, List.nil_append, Act.put, List.setIfInBounds_toArray, List.set_cons_zero, List.set_cons_succ, sel_new, sel_dep d3, sel_dep d6]
        rfl
    · as_aux_lemma =>
        rintro l a wr ⟨ha, hO⟩ hl hd K' hK
        have d7 := hd 7 (by decide)
        have hx := X13.out; subst hx
        have hx := X2.out; subst hx
        simp only [fill_eq, List.take_succ_cons, List.take_zero, List.cons_append, List.nil_append, Act.put, List.setIfInBounds_toArray, List.set_cons_zero, List.set_cons_succ, sel_of d7] at ha
        subst ha
        rw [if_pos (by rfl)]
        go_simp
        refine hK.out _ _ ⟨?_, hO⟩
        simp only [fill_eq, List.take_succ_cons, List.take_zero, List.cons_append, List.nil_append, Act.put, List.setIfInBounds_toArray, List.set_cons_zero, List.set_cons_succ, sel_new, sel_dep d7]
        rfl
    · rintro l a wc ⟨ha, hO⟩ hd
      simp only [fill_eq, List.take_succ_cons, List.take_zero, List.cons_append, List.nil_append, Act.put, List.setIfInBounds_toArray, List.set_cons_zero, List.set_cons_succ, sel_of (hd 0 (by decide)), sel_of (hd 1 (by decide)), sel_of (hd 2 (by decide)), sel_of (hd 3 (by decide)), sel_of (hd 4 (by decide)), sel_of (hd 5 (by decide)), sel_of (hd 6 (by decide)), sel_of (hd 7 (by decide)), sel_of (hd 8 (by decide))] at ha
      subst ha
      have hx := X2.out; subst hx
      have HOe := Lib.hid (HO1.out.trans hO (fun _ _ c => c))
      clear hO hd
      go_wp2
      go_ret
      exact ⟨rfl, HOe.out⟩
  · rw [if_neg h0] at hR
    subst hR
    have i1 : ¬ ((c : Int) = 0) := by omega
    clear hk hc hx hr hq hcb
    go_enter Tryd.func36, Tryd.ntmps36
    go_wp2_with fail
    refine (FC.out _).mono ?_
    rintro e u ⟨rfl, hO⟩
    have HO := Lib.hid (((Off.refl (fun _ => False) w).alloc _).trans hO (fun _ _ c => c))
    clear hO
    go_wp2
    go_ret
    exact ⟨rfl, HO.out⟩
theorem red_eqP {p x : Nat} (h0 : 0 < p) (hx : x < R256) : eqN (redV p x 0 % R256) x = decide (x < p) ∧ redV p x 0 % R256 < R256 := by
  have hR : 0 < R256 := by decide
  refine ⟨?_, Nat.mod_lt _ hR⟩
  unfold redV eqN
  by_cases h : x < p
  · rw [if_pos ⟨by decide, h⟩, Nat.mod_eq_of_lt hx]; simp [h]
  · rw [if_neg (fun c => h c.2)]
    have hs : subV x p % R256 = x - p := by
      unfold subV
      rw [show x + R256 - p = (x - p) + R256 by omega, Nat.add_mod_right, Nat.mod_eq_of_lt (by omega)]
    rw [hs]
    simp [h]
    omega
theorem take_all {p m x : Nat} {l : List Nat} (h : ∀ y ∈ l.take m, y < p) (hx : l[m]? = some x) (hp : x < p) : ∀ y ∈ l.take (m + 1), y < p := by
  intro y hy
  rw [List.take_add_one, hx] at hy
  rcases List.mem_append.1 hy with hy | hy
  · exact h y hy
  · simp at hy; omega
end
section
open Go.RowKit
attribute [local go_sem ↓] Go.wp_at_zero Go.wp_at_succ
set_option maxRecDepth 100000
set_option maxHeartbeats 4000000
/-- The numbers of a share with the index 0. -/
theorem ShAt.zero {w : World} {b o : Nat} {s : Sh} {S : Nat → Prop} (h : ShAt w b (o + 0 * 5) s S) : ShAt w b o s S := by
  rw [show o + 0 * 5 = o by omega] at h; exact h
theorem Off.drewP {S : Nat → Prop} {a w : World} (h : Off S a w) (q : Nat) : Off S a (w.drewN q) := ⟨h.os, h.tape, h.output, h.size, h.block, h.others⟩
theorem ne_of_idx {l : List Sh} {m k : Nat} {s t : Sh} (hk : k < m) (hs : l[m]? = some s) (ht : l[k]? = some t) (e : s.ix = t.ix) : ¬ (ixs l).Nodup :=
  fun h => nodup_ix.1 h m k s t hk hs ht e
end
end Go.Proofs.YtclehgconbdkpaaDoor
