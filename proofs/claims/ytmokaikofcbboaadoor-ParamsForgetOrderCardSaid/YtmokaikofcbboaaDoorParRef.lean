/-
  The reference of layer 15 over this seat's translation: known, Check, Random, CheckShare. Conditions: the numbers are ints.
-/
import Derived.Test.YtmokaikofcbboaaDoorParPlain
import Derived.Test.YtmokaikofcbboaaDoorModRed
namespace Go.Proofs.YtmokaikofcbboaaDoor
open Go.RowKit
attribute [local go_sem ↓] Go.wp_at_zero Go.wp_at_succ
set_option maxRecDepth 100000
set_option maxHeartbeats 4000000
theorem refknown_any (id : Int) (w : World) : Calls Tryd.prog 27 #[.int .i64 id] w fun e w' => e = .returned (.bool (decide (Kn id))) ∧ w' = w := by
  by_cases h1 : id = 1
  · subst h1
    rw [show decide (Kn 1) = true by decide]
    go_enter Tryd.func27, Tryd.ntmps27
    go_wp2
    go_ret
    exact ⟨rfl, rfl⟩
  · by_cases h2 : id = 2
    · subst h2
      rw [show decide (Kn 2) = true by decide]
      go_enter Tryd.func27, Tryd.ntmps27
      go_wp2
      go_ret
      exact ⟨rfl, rfl⟩
    · rw [show decide (Kn id) = false from decide_eq_false (fun h => h.elim h1 h2)]
      have e1 : (id == 1) = false := by simpa using h1
      have e2 : (id == 2) = false := by simpa using h2
      go_enter Tryd.func27, Tryd.ntmps27
      go_wp2
      go_ret
      exact ⟨rfl, rfl⟩
theorem refcheck_any (q : Pms) (w : World) : Calls Tryd.prog 11 #[q.val] w fun e w' => e = .returned (.int .i64 (prN q : Int)) ∧ Off (fun _ => False) w w' := by
  obtain ⟨fd, th, sh, ln⟩ := q
  have FK := Lib.hid (fun W => refknown_any fd W)
  obtain ⟨r, hr⟩ : ∃ r, r = prN ⟨fd, th, sh, ln⟩ := ⟨_, rfl⟩
  rw [← hr]
  unfold Pms.val
  unfold prN at hr
  dsimp only at hr ⊢
  by_cases hk : Kn fd
  · rw [if_neg (fun h => h hk)] at hr
    rw [show decide (Kn fd) = true from decide_eq_true hk] at FK
    by_cases hA : sh < 1
    · obtain rfl : r = 5 := by rw [hr, if_pos (.inl hA)]
      clear hr
      go_enter Tryd.func11, Tryd.ntmps11
      go_wp2_with fail
      refine (FK.out _).mono ?_
      rintro e u ⟨rfl, rfl⟩
      go_wp2
      go_ret
      exact ⟨rfl, (Off.refl _ w).alloc _⟩
    · by_cases hB : 255 < sh
      · obtain rfl : r = 5 := by rw [hr, if_pos (.inr hB)]
        clear hr
        go_enter Tryd.func11, Tryd.ntmps11
        go_wp2_with fail
        refine (FK.out _).mono ?_
        rintro e u ⟨rfl, rfl⟩
        go_wp2
        go_ret
        exact ⟨rfl, (Off.refl _ w).alloc _⟩
      · rw [if_neg (fun h => h.elim hA hB)] at hr
        have c2a := hA
        have c2b := hB
        clear hA hB
        by_cases hA : th < 1
        · obtain rfl : r = 4 := by rw [hr, if_pos (.inl hA)]
          clear hr
          go_enter Tryd.func11, Tryd.ntmps11
          go_wp2_with fail
          refine (FK.out _).mono ?_
          rintro e u ⟨rfl, rfl⟩
          go_wp2
          go_ret
          exact ⟨rfl, (Off.refl _ w).alloc _⟩
        · by_cases hB : sh < th
          · obtain rfl : r = 4 := by rw [hr, if_pos (.inr hB)]
            clear hr
            go_enter Tryd.func11, Tryd.ntmps11
            go_wp2_with fail
            refine (FK.out _).mono ?_
            rintro e u ⟨rfl, rfl⟩
            go_wp2
            go_ret
            exact ⟨rfl, (Off.refl _ w).alloc _⟩
          · rw [if_neg (fun h => h.elim hA hB)] at hr
            have c1a := hA
            have c1b := hB
            clear hA hB
            by_cases hA : ln < 0
            · obtain rfl : r = 6 := by rw [hr, if_pos (.inl hA)]
              clear hr
              go_enter Tryd.func11, Tryd.ntmps11
              go_wp2_with fail
              refine (FK.out _).mono ?_
              rintro e u ⟨rfl, rfl⟩
              go_wp2
              go_ret
              exact ⟨rfl, (Off.refl _ w).alloc _⟩
            · by_cases hB : 65535 < ln
              · obtain rfl : r = 6 := by rw [hr, if_pos (.inr hB)]
                clear hr
                go_enter Tryd.func11, Tryd.ntmps11
                go_wp2_with fail
                refine (FK.out _).mono ?_
                rintro e u ⟨rfl, rfl⟩
                go_wp2
                go_ret
                exact ⟨rfl, (Off.refl _ w).alloc _⟩
              · rw [if_neg (fun h => h.elim hA hB)] at hr
                have c0a := hA
                have c0b := hB
                clear hA hB
                obtain rfl : r = 0 := hr
                go_enter Tryd.func11, Tryd.ntmps11
                go_wp2_with fail
                refine (FK.out _).mono ?_
                rintro e u ⟨rfl, rfl⟩
                go_wp2
                go_ret
                exact ⟨rfl, (Off.refl _ w).alloc _⟩
  · obtain rfl : r = 3 := by rw [hr, if_pos hk]
    rw [show decide (Kn fd) = false from decide_eq_false hk] at FK
    clear hr hk
    go_enter Tryd.func11, Tryd.ntmps11
    go_wp2_with fail
    refine (FK.out _).mono ?_
    rintro e u ⟨rfl, rfl⟩
    go_wp2
    go_ret
    exact ⟨rfl, (Off.refl _ w).alloc _⟩
theorem refrandom_any (q : Pms) (hq : q.ok) (w : World) : Calls Tryd.prog 13 #[q.val] w fun e w' => e = .returned (.int .i64 (rndN q)) ∧ Off (fun _ => False) w w' := by
  have FC := Lib.hid (fun W => refcheck_any q W)
  obtain ⟨c, hc⟩ : ∃ c, c = prN q := ⟨_, rfl⟩
  have hx : c = 0 → 1 ≤ q.th ∧ q.th ≤ 255 := fun h => by
    rw [hc] at h
    unfold prN at h
    split at h
    · exact absurd h (by decide)
    · split at h
      · exact absurd h (by decide)
      · split at h
        · exact absurd h (by decide)
        · omega
  have hR : rndN q = if c = 0 then 64 * (q.th - 1) * (cntI q.ln : Int) else 0 := by unfold rndN; rw [hc]
  rw [← hc] at FC
  obtain ⟨r, hr⟩ : ∃ r, r = rndN q := ⟨_, rfl⟩
  rw [← hr] at hR ⊢
  have FN := Lib.hid (fun W => refcount_any q.ln hq.2.2.2 W)
  have hcb : cntI q.ln ≤ 2200 := by unfold cntI cntN; split <;> omega
  obtain ⟨fd, th, sh, ln⟩ := q
  unfold Pms.val at FC ⊢
  dsimp only at FC FN hx hR hcb ⊢
  obtain ⟨k, hk⟩ : ∃ k, k = cntI ln := ⟨_, rfl⟩
  rw [← hk] at FN hR hcb
  by_cases h0 : c = 0
  · subst h0
    rw [if_pos rfl] at hR
    obtain ⟨x1, x2⟩ := hx rfl
    have q1 : IntKind.i64.wrap (th - 1) = th - 1 := by rw [IntKind.wrap_i64]; omega
    have q2 : IntKind.i64.wrap (64 * (th - 1)) = 64 * (th - 1) := by rw [IntKind.wrap_i64]; omega
    have q3 : IntKind.i64.wrap (64 * (th - 1) * (k : Int)) = r := by
      obtain ⟨m, hm⟩ : ∃ m : Nat, th - 1 = (m : Int) := Int.eq_ofNat_of_zero_le (by omega)
      have hmk : 64 * m * k ≤ 64 * 255 * 2200 := Nat.mul_le_mul (by omega) hcb
      have e : 64 * (th - 1) * (k : Int) = ((64 * m * k : Nat) : Int) := by rw [hm]; push_cast; rfl
      rw [hR, e, IntKind.wrap_i64]
      omega
    obtain ⟨W0, hW0⟩ : ∃ W0, W0 = w.alloc (.cells #[.int .i64 fd, .int .i64 th, .int .i64 sh, .int .i64 ln] 23) := ⟨_, rfl⟩
    have g0 : W0.heap[w.heap.size]? = some (.cells #[.int .i64 fd, .int .i64 th, .int .i64 sh, .int .i64 ln] 23 (0, 0)) := by rw [hW0]; exact heap_new' rfl _
    have HW0 := Lib.hid hW0
    have HO0 := Lib.hid (show Off (fun _ => False) w W0 by rw [hW0]; exact (Off.refl _ w).alloc _)
    have HG0 := Lib.hid g0
    clear hW0 g0 hk hc hx hr hR hq hcb
    go_enter Tryd.func13, Tryd.ntmps13
    go_wp2_with fail
    rw [← HW0.out]
    refine (FC.out _).mono ?_
    rintro e u ⟨rfl, hO⟩
    obtain ⟨wq, hwq⟩ : ∃ wq, wq = u := ⟨_, rfl⟩
    rw [← hwq] at hO ⊢
    have HG1 := Lib.hid (hO.heap HG0.out (fun c => c))
    have HO1 := Lib.hid (HO0.out.trans hO (fun _ _ c => c))
    clear hO hwq FC
    go_upto_region 3 with fail
    obtain ⟨x6, hx⟩ : ∃ x : Value, x = .pointer (some ⟨w.heap.size, 1, none⟩) := ⟨_, rfl⟩
    have X6 := Lib.hid hx
    clear hx
    obtain ⟨x7, hx⟩ : ∃ x : Value, x = .int .i64 th := ⟨_, rfl⟩
    have X7 := Lib.hid hx
    clear hx
    obtain ⟨x8, hx⟩ : ∃ x : Value, x = .int .i64 (th - 1) := ⟨_, rfl⟩
    have X8 := Lib.hid hx
    clear hx
    obtain ⟨x9, hx⟩ : ∃ x : Value, x = .int .i64 (64 * (th - 1)) := ⟨_, rfl⟩
    have X9 := Lib.hid hx
    clear hx
    obtain ⟨x10, hx⟩ : ∃ x : Value, x = .pointer (some ⟨w.heap.size, 3, none⟩) := ⟨_, rfl⟩
    have X10 := Lib.hid hx
    clear hx
    obtain ⟨x11, hx⟩ : ∃ x : Value, x = .int .i64 ln := ⟨_, rfl⟩
    have X11 := Lib.hid hx
    clear hx
    obtain ⟨x12, hx⟩ : ∃ x : Value, x = .int .i64 (k : Int) := ⟨_, rfl⟩
    have X12 := Lib.hid hx
    clear hx
    obtain ⟨x13, hx⟩ : ∃ x : Value, x = .int .i64 r := ⟨_, rfl⟩
    have X13 := Lib.hid hx
    clear hx
    obtain ⟨x2, hx⟩ : ∃ x : Value, x = .int .i64 r := ⟨_, rfl⟩
    have X2 := Lib.hid hx
    clear hx
    refine wp_region_inv (fun a0 l a' w' => a' = (Act.put (fill a0 6 [sel (l 0) x6 undef, sel (l 1) x7 undef, sel (l 2) x8 undef, sel (l 3) x9 undef, sel (l 4) x10 undef, sel (l 5) x11 undef, sel (l 6) x12 undef, sel (l 7) x13 undef]) (some 2) (sel (l 8) x2 (.int .i64 0))) ∧ Off (fun _ => False) wq w') (by kernel_rfl) (by kernel_rfl) ?_ ⟨?_, ?_, ?_, ?_, ?_, ?_, ?_, ?_, ?_, trivial⟩ ?_
    · refine ⟨?_, (Off.refl _ wq).drew⟩
      simp only [fill_eq, List.take_succ_cons, List.take_zero, List.cons_append, List.nil_append, Act.put, List.setIfInBounds_toArray, List.set_cons_zero, List.set_cons_succ, sel_start]
    · as_aux_lemma =>
        rintro l a wr ⟨ha, hO⟩ hl hd K' hK
        have hx := X6.out; subst hx
        simp only [fill_eq, List.take_succ_cons, List.take_zero, List.cons_append, List.nil_append, Act.put, List.setIfInBounds_toArray, List.set_cons_zero, List.set_cons_succ] at ha
        subst ha
        have hlq := heap_lt (hO.heap HG1.out (fun c => c))
        rw [if_pos (by rfl)]
        go_simp
        refine hK.out _ _ ⟨?_, hO⟩
        simp only [fill_eq, List.take_succ_cons, List.take_zero, List.cons_append, List.nil_append, Act.put, List.setIfInBounds_toArray, List.set_cons_zero, List.set_cons_succ, sel_new]
        rfl
    · as_aux_lemma =>
        rintro l a wr ⟨ha, hO⟩ hl hd K' hK
        have d0 := hd 0 (by decide)
        have hx := X6.out; subst hx
        have hx := X7.out; subst hx
        simp only [fill_eq, List.take_succ_cons, List.take_zero, List.cons_append, List.nil_append, Act.put, List.setIfInBounds_toArray, List.set_cons_zero, List.set_cons_succ, sel_of d0] at ha
        subst ha
        have p0 := cell_of_heap (hO.heap HG1.out (fun c => c)) 1
        rw [if_pos (by rfl)]
        go_simp
        refine hK.out _ _ ⟨?_, hO⟩
        simp only [fill_eq, List.take_succ_cons, List.take_zero, List.cons_append, List.nil_append, Act.put, List.setIfInBounds_toArray, List.set_cons_zero, List.set_cons_succ, sel_new, sel_dep d0]
        rfl
    · as_aux_lemma =>
        rintro l a wr ⟨ha, hO⟩ hl hd K' hK
        have d1 := hd 1 (by decide)
        have hx := X7.out; subst hx
        have hx := X8.out; subst hx
        simp only [fill_eq, List.take_succ_cons, List.take_zero, List.cons_append, List.nil_append, Act.put, List.setIfInBounds_toArray, List.set_cons_zero, List.set_cons_succ, sel_of d1] at ha
        subst ha
        rw [if_pos (by rfl)]
        go_simp
        refine hK.out _ _ ⟨?_, hO⟩
        simp only [fill_eq, List.take_succ_cons, List.take_zero, List.cons_append, List.nil_append, Act.put, List.setIfInBounds_toArray, List.set_cons_zero, List.set_cons_succ, sel_new, sel_dep d1]
        rfl
    · as_aux_lemma =>
        rintro l a wr ⟨ha, hO⟩ hl hd K' hK
        have d2 := hd 2 (by decide)
        have hx := X8.out; subst hx
        have hx := X9.out; subst hx
        simp only [fill_eq, List.take_succ_cons, List.take_zero, List.cons_append, List.nil_append, Act.put, List.setIfInBounds_toArray, List.set_cons_zero, List.set_cons_succ, sel_of d2] at ha
        subst ha
        rw [if_pos (by rfl)]
        go_simp
        refine hK.out _ _ ⟨?_, hO⟩
        simp only [fill_eq, List.take_succ_cons, List.take_zero, List.cons_append, List.nil_append, Act.put, List.setIfInBounds_toArray, List.set_cons_zero, List.set_cons_succ, sel_new, sel_dep d2]
        rfl
    · as_aux_lemma =>
        rintro l a wr ⟨ha, hO⟩ hl hd K' hK
        have hx := X10.out; subst hx
        simp only [fill_eq, List.take_succ_cons, List.take_zero, List.cons_append, List.nil_append, Act.put, List.setIfInBounds_toArray, List.set_cons_zero, List.set_cons_succ] at ha
        subst ha
        have hlq := heap_lt (hO.heap HG1.out (fun c => c))
        rw [if_pos (by rfl)]
        go_simp
        refine hK.out _ _ ⟨?_, hO⟩
        simp only [fill_eq, List.take_succ_cons, List.take_zero, List.cons_append, List.nil_append, Act.put, List.setIfInBounds_toArray, List.set_cons_zero, List.set_cons_succ, sel_new]
        rfl
    · as_aux_lemma =>
        rintro l a wr ⟨ha, hO⟩ hl hd K' hK
        have d4 := hd 4 (by decide)
        have hx := X10.out; subst hx
        have hx := X11.out; subst hx
        simp only [fill_eq, List.take_succ_cons, List.take_zero, List.cons_append, List.nil_append, Act.put, List.setIfInBounds_toArray, List.set_cons_zero, List.set_cons_succ, sel_of d4] at ha
        subst ha
        have p0 := cell_of_heap (hO.heap HG1.out (fun c => c)) 3
        rw [if_pos (by rfl)]
        go_simp
        refine hK.out _ _ ⟨?_, hO⟩
        simp only [fill_eq, List.take_succ_cons, List.take_zero, List.cons_append, List.nil_append, Act.put, List.setIfInBounds_toArray, List.set_cons_zero, List.set_cons_succ, sel_new, sel_dep d4]
        rfl
    · as_aux_lemma =>
        rintro l a wr ⟨ha, hO⟩ hl hd K' hK
        have d5 := hd 5 (by decide)
        have hx := X11.out; subst hx
        have hx := X12.out; subst hx
        simp only [fill_eq, List.take_succ_cons, List.take_zero, List.cons_append, List.nil_append, Act.put, List.setIfInBounds_toArray, List.set_cons_zero, List.set_cons_succ, sel_of d5] at ha
        subst ha
        rw [if_pos (by rfl)]
        go_simp
        refine (held_inv (FN.out wr) hO).mono ?_
        rintro e w1 ⟨rfl, hO1, hOW⟩
        go_wp2_with fail
        refine hK.out _ _ ⟨?_, hO1⟩
        simp only [fill_eq, List.take_succ_cons, List.take_zero, List.cons_append, List.nil_append, Act.put, List.setIfInBounds_toArray, List.set_cons_zero, List.set_cons_succ, sel_new, sel_dep d5]
        rfl
    · as_aux_lemma =>
        rintro l a wr ⟨ha, hO⟩ hl hd K' hK
        have d3 := hd 3 (by decide)
        have d6 := hd 6 (by decide)
        have hx := X9.out; subst hx
        have hx := X12.out; subst hx
        have hx := X13.out; subst hx
        simp only [fill_eq, List.take_succ_cons, List.take_zero, List.cons_append, List.nil_append, Act.put, List.setIfInBounds_toArray, List.set_cons_zero, List.set_cons_succ, sel_of d3, sel_of d6] at ha
        subst ha
        rw [if_pos (by rfl)]
        go_simp
        refine hK.out _ _ ⟨?_, hO⟩
        simp only [fill_eq, List.take_succ_cons, List.take_zero, List.cons_append, List.nil_append, Act.put, List.setIfInBounds_toArray, List.set_cons_zero, List.set_cons_succ, sel_new, sel_dep d3, sel_dep d6]
        rfl
    · as_aux_lemma =>
        rintro l a wr ⟨ha, hO⟩ hl hd K' hK
        have d7 := hd 7 (by decide)
        have hx := X13.out; subst hx
        have hx := X2.out; subst hx
        simp only [fill_eq, List.take_succ_cons, List.take_zero, List.cons_append, List.nil_append, Act.put, List.setIfInBounds_toArray, List.set_cons_zero, List.set_cons_succ, sel_of d7] at ha
        subst ha
        rw [if_pos (by rfl)]
        go_simp
        refine hK.out _ _ ⟨?_, hO⟩
        simp only [fill_eq, List.take_succ_cons, List.take_zero, List.cons_append, List.nil_append, Act.put, List.setIfInBounds_toArray, List.set_cons_zero, List.set_cons_succ, sel_new, sel_dep d7]
        rfl
    · rintro l a wc ⟨ha, hO⟩ hd
      simp only [fill_eq, List.take_succ_cons, List.take_zero, List.cons_append, List.nil_append, Act.put, List.setIfInBounds_toArray, List.set_cons_zero, List.set_cons_succ, sel_of (hd 0 (by decide)), sel_of (hd 1 (by decide)), sel_of (hd 2 (by decide)), sel_of (hd 3 (by decide)), sel_of (hd 4 (by decide)), sel_of (hd 5 (by decide)), sel_of (hd 6 (by decide)), sel_of (hd 7 (by decide)), sel_of (hd 8 (by decide))] at ha
      subst ha
      have hx := X2.out; subst hx
      have HOe := Lib.hid (HO1.out.trans hO (fun _ _ c => c))
      clear hO hd
      go_wp2
      go_ret
      exact ⟨rfl, HOe.out⟩
  · rw [if_neg h0] at hR
    subst hR
    have i1 : ¬ ((c : Int) = 0) := by omega
    clear hk hc hx hr hq hcb
    go_enter Tryd.func13, Tryd.ntmps13
    go_wp2_with fail
    refine (FC.out _).mono ?_
    rintro e u ⟨rfl, hO⟩
    have HO := Lib.hid (((Off.refl (fun _ => False) w).alloc _).trans hO (fun _ _ c => c))
    clear hO
    go_wp2
    go_ret
    exact ⟨rfl, HO.out⟩
theorem red_eqP {p x : Nat} (h0 : 0 < p) (hx : x < R256) : eqN (redV p x 0 % R256) x = decide (x < p) ∧ redV p x 0 % R256 < R256 := by
  have hR : 0 < R256 := by decide
  refine ⟨?_, Nat.mod_lt _ hR⟩
  unfold redV eqN
  by_cases h : x < p
  · rw [if_pos ⟨by decide, h⟩, Nat.mod_eq_of_lt hx]; simp [h]
  · rw [if_neg (fun c => h c.2)]
    have hs : subV x p % R256 = x - p := by
      unfold subV
      rw [show x + R256 - p = (x - p) + R256 by omega, Nat.add_mod_right, Nat.mod_eq_of_lt (by omega)]
    rw [hs]
    simp [h]
    omega
theorem take_all {p m x : Nat} {l : List Nat} (h : ∀ y ∈ l.take m, y < p) (hx : l[m]? = some x) (hp : x < p) : ∀ y ∈ l.take (m + 1), y < p := by
  intro y hy
  rw [List.take_add_one, hx] at hy
  rcases List.mem_append.1 hy with hy | hy
  · exact h y hy
  · simp at hy; omega
set_option maxHeartbeats 20000000 in
theorem refshare_any (s : Sh) (hs : s.ok) (pa : Option Addr) (pc : Nat) (S : Nat → Prop) (w : World) (hV : VsAt w (.slice pa s.pl.length pc) s.pl S) : Calls Tryd.prog 16 #[s.val (.slice pa s.pl.length pc)] w fun e w' => e = .returned (.int .i64 (shN s : Int)) ∧ Off (fun _ => False) w w' := by
  obtain ⟨fd, th, ix, ln, pl⟩ := s
  have hpx := hs.2.2.2.2
  have FN := Lib.hid (fun W => refcount_any ln hs.2.2.2.1 W)
  have hcb : cntI ln ≤ 2200 := by unfold cntI cntN; split <;> omega
  clear hs
  have FK := Lib.hid (fun W => refknown_any fd W)
  obtain ⟨r, hr⟩ : ∃ r, r = shN ⟨fd, th, ix, ln, pl⟩ := ⟨_, rfl⟩
  rw [← hr]
  unfold Sh.val
  unfold shN at hr
  dsimp only at hr hV hpx ⊢
  by_cases hk : Kn fd
  · rw [if_neg (fun h => h hk)] at hr
    rw [show decide (Kn fd) = true from decide_eq_true hk] at FK
    by_cases hA : th < 1
    · obtain rfl : r = 4 := by rw [hr, if_pos (.inl hA)]
      clear hr
      go_enter Tryd.func16, Tryd.ntmps16
      go_wp2_with fail
      refine (FK.out _).mono ?_
      rintro e u ⟨rfl, rfl⟩
      go_wp2
      go_ret
      exact ⟨rfl, (Off.refl _ w).alloc _⟩
    · by_cases hB : 255 < th
      · obtain rfl : r = 4 := by rw [hr, if_pos (.inr hB)]
        clear hr
        go_enter Tryd.func16, Tryd.ntmps16
        go_wp2_with fail
        refine (FK.out _).mono ?_
        rintro e u ⟨rfl, rfl⟩
        go_wp2
        go_ret
        exact ⟨rfl, (Off.refl _ w).alloc _⟩
      · rw [if_neg (fun h => h.elim hA hB)] at hr
        have c2a := hA
        have c2b := hB
        clear hA hB
        by_cases hA : ix < 1
        · obtain rfl : r = 12 := by rw [hr, if_pos (.inl hA)]
          clear hr
          go_enter Tryd.func16, Tryd.ntmps16
          go_wp2_with fail
          refine (FK.out _).mono ?_
          rintro e u ⟨rfl, rfl⟩
          go_wp2
          go_ret
          exact ⟨rfl, (Off.refl _ w).alloc _⟩
        · by_cases hB : 255 < ix
          · obtain rfl : r = 12 := by rw [hr, if_pos (.inr hB)]
            clear hr
            go_enter Tryd.func16, Tryd.ntmps16
            go_wp2_with fail
            refine (FK.out _).mono ?_
            rintro e u ⟨rfl, rfl⟩
            go_wp2
            go_ret
            exact ⟨rfl, (Off.refl _ w).alloc _⟩
          · rw [if_neg (fun h => h.elim hA hB)] at hr
            have c1a := hA
            have c1b := hB
            clear hA hB
            by_cases hA : ln < 0
            · obtain rfl : r = 6 := by rw [hr, if_pos (.inl hA)]
              clear hr
              go_enter Tryd.func16, Tryd.ntmps16
              go_wp2_with fail
              refine (FK.out _).mono ?_
              rintro e u ⟨rfl, rfl⟩
              go_wp2
              go_ret
              exact ⟨rfl, (Off.refl _ w).alloc _⟩
            · by_cases hB : 65535 < ln
              · obtain rfl : r = 6 := by rw [hr, if_pos (.inr hB)]
                clear hr
                go_enter Tryd.func16, Tryd.ntmps16
                go_wp2_with fail
                refine (FK.out _).mono ?_
                rintro e u ⟨rfl, rfl⟩
                go_wp2
                go_ret
                exact ⟨rfl, (Off.refl _ w).alloc _⟩
              · rw [if_neg (fun h => h.elim hA hB)] at hr
                have c0a := hA
                have c0b := hB
                clear hA hB
                obtain ⟨n, hn⟩ : ∃ n, n = pl.length := ⟨_, rfl⟩
                rw [← hn] at hr hV ⊢
                obtain ⟨k, hk2⟩ : ∃ k, k = cntI ln := ⟨_, rfl⟩
                rw [← hk2] at hr FN hcb
                obtain ⟨W0, hW0⟩ : ∃ W0, W0 = w.alloc (.cells #[.int .i64 fd, .int .i64 th, .int .i64 ix, .int .i64 ln, .slice pa n pc] 31) := ⟨_, rfl⟩
                have g0 : W0.heap[w.heap.size]? = some (.cells #[.int .i64 fd, .int .i64 th, .int .i64 ix, .int .i64 ln, .slice pa n pc] 31 (0, 0)) := by rw [hW0]; exact heap_new' rfl _
                have HW0 := Lib.hid hW0
                have HO0 := Lib.hid (show Off (fun _ => False) w W0 by rw [hW0]; exact (Off.refl _ w).alloc _)
                have HG1 := Lib.hid g0
                have HNl := Lib.hid hn
                have HV := Lib.hid hV
                clear hW0 g0 hk2 hn hV
                by_cases hnk : n = k
                · subst hnk
                  rw [if_neg (fun h => h rfl)] at hr
                  have hpp := modN_pos hk
                  obtain ⟨p, hp⟩ : ∃ p, p = modN fd := ⟨_, rfl⟩
                  have FM := Lib.hid (fun W => mod_modulus fd W)
                  rw [← hp] at FM hr hpp
                  have HPp := Lib.hid hpp
                  have HRr := Lib.hid hr
                  have HPx := Lib.hid hpx
                  clear hr hp hpp hk hpx
                  go_enter Tryd.func16, Tryd.ntmps16
                  go_wp2_with fail
                  refine (FK.out _).mono ?_
                  rintro e u ⟨rfl, rfl⟩
                  go_upto_region 9 with fail
                  rw [← HW0.out]
                  obtain ⟨x38, hx⟩ : ∃ x : Value, x = .pointer (some ⟨w.heap.size, 4, none⟩) := ⟨_, rfl⟩
                  have X38 := Lib.hid hx
                  clear hx
                  obtain ⟨x39, hx⟩ : ∃ x : Value, x = .slice pa n pc := ⟨_, rfl⟩
                  have X39 := Lib.hid hx
                  clear hx
                  obtain ⟨x40, hx⟩ : ∃ x : Value, x = .int .i64 (n : Int) := ⟨_, rfl⟩
                  have X40 := Lib.hid hx
                  clear hx
                  obtain ⟨x41, hx⟩ : ∃ x : Value, x = .pointer (some ⟨w.heap.size, 3, none⟩) := ⟨_, rfl⟩
                  have X41 := Lib.hid hx
                  clear hx
                  obtain ⟨x42, hx⟩ : ∃ x : Value, x = .int .i64 ln := ⟨_, rfl⟩
                  have X42 := Lib.hid hx
                  clear hx
                  obtain ⟨x43, hx⟩ : ∃ x : Value, x = .int .i64 (n : Int) := ⟨_, rfl⟩
                  have X43 := Lib.hid hx
                  clear hx
                  obtain ⟨x44, hx⟩ : ∃ x : Value, x = .bool false := ⟨_, rfl⟩
                  have X44 := Lib.hid hx
                  clear hx
                  obtain ⟨x37, hx⟩ : ∃ x : Value, x = .bool false := ⟨_, rfl⟩
                  have X37 := Lib.hid hx
                  clear hx
                  refine wp_region_inv (fun a0 l a' w' => a' = (Act.put (fill a0 38 [sel (l 0) x38 undef, sel (l 1) x39 undef, sel (l 2) x40 undef, sel (l 3) x41 undef, sel (l 4) x42 undef, sel (l 5) x43 undef, sel (l 6) x44 undef, undef, undef, undef, undef, undef, undef, undef, undef, undef, undef, undef, undef, undef, undef, undef, undef, undef, undef, undef, undef, undef, undef, undef]) (some 37) (sel (l 7) x37 (undef))) ∧ Off (fun _ => False) W0 w') (by kernel_rfl) (by kernel_rfl) ?_ ⟨?_, ?_, ?_, ?_, ?_, ?_, ?_, ?_, trivial⟩ ?_
                  · refine ⟨?_, (Off.refl _ W0).drew⟩
                    simp only [fill_eq, List.take_succ_cons, List.take_zero, List.cons_append, List.nil_append, Act.put, List.setIfInBounds_toArray, List.set_cons_zero, List.set_cons_succ, sel_start]
                  · as_aux_lemma =>
                      rintro l a wr ⟨ha, hO⟩ hl hd K' hK
                      have hx := X38.out; subst hx
                      simp only [fill_eq, List.take_succ_cons, List.take_zero, List.cons_append, List.nil_append, Act.put, List.setIfInBounds_toArray, List.set_cons_zero, List.set_cons_succ] at ha
                      subst ha
                      have hlq := heap_lt (hO.heap HG1.out (fun c => c))
                      rw [if_pos (by rfl)]
                      go_simp
                      refine hK.out _ _ ⟨?_, hO⟩
                      simp only [fill_eq, List.take_succ_cons, List.take_zero, List.cons_append, List.nil_append, Act.put, List.setIfInBounds_toArray, List.set_cons_zero, List.set_cons_succ, sel_new]
                      rfl
                  · as_aux_lemma =>
                      rintro l a wr ⟨ha, hO⟩ hl hd K' hK
                      have d0 := hd 0 (by decide)
                      have hx := X38.out; subst hx
                      have hx := X39.out; subst hx
                      simp only [fill_eq, List.take_succ_cons, List.take_zero, List.cons_append, List.nil_append, Act.put, List.setIfInBounds_toArray, List.set_cons_zero, List.set_cons_succ, sel_of d0] at ha
                      subst ha
                      have p0 := cell_of_heap (hO.heap HG1.out (fun c => c)) 4
                      rw [if_pos (by rfl)]
                      go_simp
                      refine hK.out _ _ ⟨?_, hO⟩
                      simp only [fill_eq, List.take_succ_cons, List.take_zero, List.cons_append, List.nil_append, Act.put, List.setIfInBounds_toArray, List.set_cons_zero, List.set_cons_succ, sel_new, sel_dep d0]
                      rfl
                  · as_aux_lemma =>
                      rintro l a wr ⟨ha, hO⟩ hl hd K' hK
                      have d1 := hd 1 (by decide)
                      have hx := X39.out; subst hx
                      have hx := X40.out; subst hx
                      simp only [fill_eq, List.take_succ_cons, List.take_zero, List.cons_append, List.nil_append, Act.put, List.setIfInBounds_toArray, List.set_cons_zero, List.set_cons_succ, sel_of d1] at ha
                      subst ha
                      rw [if_pos (by rfl)]
                      go_simp
                      refine hK.out _ _ ⟨?_, hO⟩
                      simp only [fill_eq, List.take_succ_cons, List.take_zero, List.cons_append, List.nil_append, Act.put, List.setIfInBounds_toArray, List.set_cons_zero, List.set_cons_succ, sel_new, sel_dep d1]
                      rfl
                  · as_aux_lemma =>
                      rintro l a wr ⟨ha, hO⟩ hl hd K' hK
                      have hx := X41.out; subst hx
                      simp only [fill_eq, List.take_succ_cons, List.take_zero, List.cons_append, List.nil_append, Act.put, List.setIfInBounds_toArray, List.set_cons_zero, List.set_cons_succ] at ha
                      subst ha
                      have hlq := heap_lt (hO.heap HG1.out (fun c => c))
                      rw [if_pos (by rfl)]
                      go_simp
                      refine hK.out _ _ ⟨?_, hO⟩
                      simp only [fill_eq, List.take_succ_cons, List.take_zero, List.cons_append, List.nil_append, Act.put, List.setIfInBounds_toArray, List.set_cons_zero, List.set_cons_succ, sel_new]
                      rfl
                  · as_aux_lemma =>
                      rintro l a wr ⟨ha, hO⟩ hl hd K' hK
                      have d3 := hd 3 (by decide)
                      have hx := X41.out; subst hx
                      have hx := X42.out; subst hx
                      simp only [fill_eq, List.take_succ_cons, List.take_zero, List.cons_append, List.nil_append, Act.put, List.setIfInBounds_toArray, List.set_cons_zero, List.set_cons_succ, sel_of d3] at ha
                      subst ha
                      have p0 := cell_of_heap (hO.heap HG1.out (fun c => c)) 3
                      rw [if_pos (by rfl)]
                      go_simp
                      refine hK.out _ _ ⟨?_, hO⟩
                      simp only [fill_eq, List.take_succ_cons, List.take_zero, List.cons_append, List.nil_append, Act.put, List.setIfInBounds_toArray, List.set_cons_zero, List.set_cons_succ, sel_new, sel_dep d3]
                      rfl
                  · as_aux_lemma =>
                      rintro l a wr ⟨ha, hO⟩ hl hd K' hK
                      have d4 := hd 4 (by decide)
                      have hx := X42.out; subst hx
                      have hx := X43.out; subst hx
                      simp only [fill_eq, List.take_succ_cons, List.take_zero, List.cons_append, List.nil_append, Act.put, List.setIfInBounds_toArray, List.set_cons_zero, List.set_cons_succ, sel_of d4] at ha
                      subst ha
                      rw [if_pos (by rfl)]
                      go_simp
                      refine (held_inv (FN.out wr) hO).mono ?_
                      rintro e w1 ⟨rfl, hO1, hOW⟩
                      go_wp2_with fail
                      refine hK.out _ _ ⟨?_, hO1⟩
                      simp only [fill_eq, List.take_succ_cons, List.take_zero, List.cons_append, List.nil_append, Act.put, List.setIfInBounds_toArray, List.set_cons_zero, List.set_cons_succ, sel_new, sel_dep d4]
                      rfl
                  · as_aux_lemma =>
                      rintro l a wr ⟨ha, hO⟩ hl hd K' hK
                      have d2 := hd 2 (by decide)
                      have d5 := hd 5 (by decide)
                      have hx := X40.out; subst hx
                      have hx := X43.out; subst hx
                      have hx := X44.out; subst hx
                      simp only [fill_eq, List.take_succ_cons, List.take_zero, List.cons_append, List.nil_append, Act.put, List.setIfInBounds_toArray, List.set_cons_zero, List.set_cons_succ, sel_of d2, sel_of d5] at ha
                      subst ha
                      rw [if_pos (by rfl)]
                      go_simp
                      refine hK.out _ _ ⟨?_, hO⟩
                      simp only [fill_eq, List.take_succ_cons, List.take_zero, List.cons_append, List.nil_append, Act.put, List.setIfInBounds_toArray, List.set_cons_zero, List.set_cons_succ, sel_new, sel_dep d2, sel_dep d5]
                      rfl
                  · as_aux_lemma =>
                      rintro l a wr ⟨ha, hO⟩ hl hd K' hK
                      have d6 := hd 6 (by decide)
                      have hx := X44.out; subst hx
                      have hx := X37.out; subst hx
                      simp only [fill_eq, List.take_succ_cons, List.take_zero, List.cons_append, List.nil_append, Act.put, List.setIfInBounds_toArray, List.set_cons_zero, List.set_cons_succ, sel_of d6] at ha
                      subst ha
                      rw [if_pos (by rfl)]
                      go_simp
                      refine hK.out _ _ ⟨?_, hO⟩
                      simp only [fill_eq, List.take_succ_cons, List.take_zero, List.cons_append, List.nil_append, Act.put, List.setIfInBounds_toArray, List.set_cons_zero, List.set_cons_succ, sel_new, sel_dep d6]
                      rfl
                  · rintro l a wc ⟨ha, hO⟩ hd
                    simp only [fill_eq, List.take_succ_cons, List.take_zero, List.cons_append, List.nil_append, Act.put, List.setIfInBounds_toArray, List.set_cons_zero, List.set_cons_succ, sel_of (hd 0 (by decide)), sel_of (hd 1 (by decide)), sel_of (hd 2 (by decide)), sel_of (hd 3 (by decide)), sel_of (hd 4 (by decide)), sel_of (hd 5 (by decide)), sel_of (hd 6 (by decide)), sel_of (hd 7 (by decide))] at ha
                    subst ha
                    have hx := X37.out; subst hx
                    have HO1 := Lib.hid (HO0.out.trans hO (fun _ _ c => c))
                    obtain ⟨W1, hW1⟩ : ∃ W1, W1 = wc := ⟨_, rfl⟩
                    rw [← hW1] at hO ⊢
                    have g1 := hO.heap HG1.out (fun c => c)
                    have HGA := Lib.hid g1
                    have p0 := cell_of_heap g1 0
                    rw [← hW1] at HO1
                    have HOa := Lib.hid hO
                    clear hO hd hW1 g1
                    go_wp2_with fail
                    refine (FM.out _).mono ?_
                    rintro e u ⟨rfl, hO⟩
                    obtain ⟨W2, hW2⟩ : ∃ W2, W2 = u.alloc (.cells #[.int .u64 (wd p 0 : Int), .int .u64 (wd p 1 : Int), .int .u64 (wd p 2 : Int), .int .u64 (wd p 3 : Int)] 45) := ⟨_, rfl⟩
                    have hO2 : Off (fun _ => False) W1 W2 := by rw [hW2]; exact hO.alloc _
                    have g2 : W2.heap[u.heap.size]? = some (.cells #[.int .u64 (wd p 0 : Int), .int .u64 (wd p 1 : Int), .int .u64 (wd p 2 : Int), .int .u64 (wd p 3 : Int)] 45 (0, 0)) := by rw [hW2]; exact heap_new' rfl _
                    have HO2 := Lib.hid (HO1.out.trans hO2 (fun _ _ c => c))
                    have HG3 := Lib.hid (hO2.heap HGA.out (fun c => c))
                    have HGp := Lib.hid g2
                    have HV2 := Lib.hid (HV.out.off HO2.out (fun _ _ _ c => c))
                    have HW2 := Lib.hid hW2
                    clear hO hO2 g2 hW2 HV HGA HG1 p0
                    go_wp2
                    rw [← HW2.out]
                    go_loopw [4] (fun i wr => ∃ m : Nat, m ≤ n ∧ i = .int .i64 (m : Int) ∧ (∀ x ∈ pl.take m, x < p) ∧ Off (fun _ => False) W2 wr) (fun i _ => n - (intOf i).toNat)
                    case atStart => exact ⟨0, Nat.zero_le _, rfl, (fun x h => by simp at h), Off.refl _ W2⟩
                    case round =>
                      obtain ⟨m, hm, rfl, hall, hO⟩ := hrel
                      have w2 : IntKind.i64.wrap ((m : Int) + 1) = (m : Int) + 1 := by rw [IntKind.wrap_i64]; omega
                      have p0 := cell_of_heap (hO.heap HG3.out (fun c => c)) 4
                      by_cases hlt : m < n
                      · obtain ⟨W3, hW3⟩ : ∃ W3, W3 = wr := ⟨_, rfl⟩
                        subst hW3
                        obtain ⟨xv, hx⟩ : ∃ xv, pl[m]? = some xv := ⟨_, List.getElem?_eq_getElem (by have := HNl.out; omega)⟩
                        have hxr := HPx.out xv (List.mem_of_getElem? hx)
                        obtain ⟨eb, eo, rfl, hSb, hel⟩ := HV2.out.get hx
                        have HK1 := Lib.hid (fun (W : World) (h : Off (fun _ => False) W3 W) => (hel.off hO (fun c => c)).off h (fun c => c))
                        have FS0 := fun W => by have h := mod_subtract p xv HPp.out.2 hxr 0 ⟨by omega, by omega⟩ W; rw [← V_mod (redV p xv 0)] at h; exact h
                        have hre := red_eqP (show 0 < p by have := HPp.out.1; omega) hxr
                        obtain ⟨z, hz⟩ : ∃ z, z = redV p xv 0 % R256 := ⟨_, rfl⟩
                        rw [← hz] at FS0 hre
                        have FS := Lib.hid FS0
                        have hq := fun W => equalIn_num hre.2 hxr W
                        rw [hre.1] at hq
                        obtain ⟨bb, hbb⟩ : ∃ bb : Bool, bb = decide (xv < p) := ⟨_, rfl⟩
                        rw [← hbb] at hq
                        have HE1 := Lib.hid hq
                        have HB := Lib.hid hbb
                        have HX := Lib.hid hx
                        have HAll := Lib.hid hall
                        have HO3 := Lib.hid hO
                        have HG4 := Lib.hid (hO.heap HG3.out (fun c => c))
                        have HGq := Lib.hid (hO.heap HGp.out (fun c => c))
                        have i2 : (m : Int) < (n : Int) := by omega
                        clear hx hxr hSb hel FS0 hre hz hq hbb hall hO hlt
                        go_upto_region 15 with fail
                        obtain ⟨x55, hx⟩ : ∃ x : Value, x = V p := ⟨_, rfl⟩
                        have X55 := Lib.hid hx
                        clear hx
                        obtain ⟨x56, hx⟩ : ∃ x : Value, x = .pointer (some ⟨w.heap.size, 4, none⟩) := ⟨_, rfl⟩
                        have X56 := Lib.hid hx
                        clear hx
                        obtain ⟨x57, hx⟩ : ∃ x : Value, x = .slice (some ⟨eb, eo, none⟩) n pc := ⟨_, rfl⟩
                        have X57 := Lib.hid hx
                        clear hx
                        obtain ⟨x58, hx⟩ : ∃ x : Value, x = .int .i64 (m : Int) := ⟨_, rfl⟩
                        have X58 := Lib.hid hx
                        clear hx
                        obtain ⟨x59, hx⟩ : ∃ x : Value, x = .pointer (some ⟨eb, eo + m * 4, none⟩) := ⟨_, rfl⟩
                        have X59 := Lib.hid hx
                        clear hx
                        obtain ⟨x60, hx⟩ : ∃ x : Value, x = V xv := ⟨_, rfl⟩
                        have X60 := Lib.hid hx
                        clear hx
                        obtain ⟨x61, hx⟩ : ∃ x : Value, x = V z := ⟨_, rfl⟩
                        have X61 := Lib.hid hx
                        clear hx
                        obtain ⟨x62, hx⟩ : ∃ x : Value, x = .pointer (some ⟨w.heap.size, 4, none⟩) := ⟨_, rfl⟩
                        have X62 := Lib.hid hx
                        clear hx
                        obtain ⟨x63, hx⟩ : ∃ x : Value, x = .slice (some ⟨eb, eo, none⟩) n pc := ⟨_, rfl⟩
                        have X63 := Lib.hid hx
                        clear hx
                        obtain ⟨x64, hx⟩ : ∃ x : Value, x = .int .i64 (m : Int) := ⟨_, rfl⟩
                        have X64 := Lib.hid hx
                        clear hx
                        obtain ⟨x65, hx⟩ : ∃ x : Value, x = .pointer (some ⟨eb, eo + m * 4, none⟩) := ⟨_, rfl⟩
                        have X65 := Lib.hid hx
                        clear hx
                        obtain ⟨x66, hx⟩ : ∃ x : Value, x = V xv := ⟨_, rfl⟩
                        have X66 := Lib.hid hx
                        clear hx
                        obtain ⟨x67, hx⟩ : ∃ x : Value, x = .bool (!bb) := ⟨_, rfl⟩
                        have X67 := Lib.hid hx
                        clear hx
                        refine wp_region_inv (fun a0 l a' w' => a' = (fill a0 55 [sel (l 0) x55 u55, sel (l 1) x56 u56, sel (l 2) x57 u57, sel (l 3) x58 u58, sel (l 4) x59 u59, sel (l 5) x60 u60, sel (l 6) x61 u61, sel (l 7) x62 u62, sel (l 8) x63 u63, sel (l 9) x64 u64, sel (l 10) x65 u65, sel (l 11) x66 u66, sel (l 12) x67 u67]) ∧ Off (fun _ => False) W3 w') (by kernel_rfl) (by kernel_rfl) ?_ ⟨?_, ?_, ?_, ?_, ?_, ?_, ?_, ?_, ?_, ?_, ?_, ?_, ?_, trivial⟩ ?_
                        · refine ⟨?_, (Off.refl _ W3).drew⟩
                          simp only [fill_eq, List.take_succ_cons, List.take_zero, List.cons_append, List.nil_append, sel_start]
                        · as_aux_lemma =>
                            rintro l a wr ⟨ha, hO⟩ hl hd K' hK
                            have hx := X55.out; subst hx
                            simp only [fill_eq, List.take_succ_cons, List.take_zero, List.cons_append, List.nil_append] at ha
                            subst ha
                            obtain ⟨p0, p1, p2, p3⟩ := cells4 (hO.heap HGq.out (fun c => c))
                            have hlp := heap_lt (hO.heap HGq.out (fun c => c))
                            rw [if_pos (by rfl)]
                            go_simp
                            refine hK.out _ _ ⟨?_, hO⟩
                            simp only [fill_eq, List.take_succ_cons, List.take_zero, List.cons_append, List.nil_append, sel_new]
                            rfl
                        · as_aux_lemma =>
                            rintro l a wr ⟨ha, hO⟩ hl hd K' hK
                            have hx := X56.out; subst hx
                            simp only [fill_eq, List.take_succ_cons, List.take_zero, List.cons_append, List.nil_append] at ha
                            subst ha
                            have hlq := heap_lt (hO.heap HG4.out (fun c => c))
                            rw [if_pos (by rfl)]
                            go_simp
                            refine hK.out _ _ ⟨?_, hO⟩
                            simp only [fill_eq, List.take_succ_cons, List.take_zero, List.cons_append, List.nil_append, sel_new]
                            rfl
                        · as_aux_lemma =>
                            rintro l a wr ⟨ha, hO⟩ hl hd K' hK
                            have d1 := hd 1 (by decide)
                            have hx := X56.out; subst hx
                            have hx := X57.out; subst hx
                            simp only [fill_eq, List.take_succ_cons, List.take_zero, List.cons_append, List.nil_append, sel_of d1] at ha
                            subst ha
                            have p0 := cell_of_heap (hO.heap HG4.out (fun c => c)) 4
                            rw [if_pos (by rfl)]
                            go_simp
                            refine hK.out _ _ ⟨?_, hO⟩
                            simp only [fill_eq, List.take_succ_cons, List.take_zero, List.cons_append, List.nil_append, sel_new, sel_dep d1]
                            rfl
                        · as_aux_lemma =>
                            rintro l a wr ⟨ha, hO⟩ hl hd K' hK
                            have hx := X58.out; subst hx
                            simp only [fill_eq, List.take_succ_cons, List.take_zero, List.cons_append, List.nil_append] at ha
                            subst ha
                            rw [if_pos (by rfl)]
                            go_simp
                            refine hK.out _ _ ⟨?_, hO⟩
                            simp only [fill_eq, List.take_succ_cons, List.take_zero, List.cons_append, List.nil_append, sel_new]
                            rfl
                        · as_aux_lemma =>
                            rintro l a wr ⟨ha, hO⟩ hl hd K' hK
                            have d2 := hd 2 (by decide)
                            have d3 := hd 3 (by decide)
                            have hx := X57.out; subst hx
                            have hx := X58.out; subst hx
                            have hx := X59.out; subst hx
                            simp only [fill_eq, List.take_succ_cons, List.take_zero, List.cons_append, List.nil_append, sel_of d2, sel_of d3] at ha
                            subst ha
                            rw [if_pos (by rfl)]
                            go_simp
                            refine hK.out _ _ ⟨?_, hO⟩
                            simp only [fill_eq, List.take_succ_cons, List.take_zero, List.cons_append, List.nil_append, sel_new, sel_dep d2, sel_dep d3]
                            rfl
                        · as_aux_lemma =>
                            rintro l a wr ⟨ha, hO⟩ hl hd K' hK
                            have d4 := hd 4 (by decide)
                            have hx := X59.out; subst hx
                            have hx := X60.out; subst hx
                            simp only [fill_eq, List.take_succ_cons, List.take_zero, List.cons_append, List.nil_append, sel_of d4] at ha
                            subst ha
                            obtain ⟨p0, p1, p2, p3⟩ := HK1.out wr hO
                            rw [if_pos (by rfl)]
                            go_simp
                            refine hK.out _ _ ⟨?_, hO⟩
                            simp only [fill_eq, List.take_succ_cons, List.take_zero, List.cons_append, List.nil_append, sel_new, sel_dep d4]
                            rfl
                        · as_aux_lemma =>
                            rintro l a wr ⟨ha, hO⟩ hl hd K' hK
                            have d0 := hd 0 (by decide)
                            have d5 := hd 5 (by decide)
                            have hx := X55.out; subst hx
                            have hx := X60.out; subst hx
                            have hx := X61.out; subst hx
                            simp only [fill_eq, List.take_succ_cons, List.take_zero, List.cons_append, List.nil_append, sel_of d0, sel_of d5] at ha
                            subst ha
                            rw [if_pos (by rfl)]
                            go_simp
                            refine (held_inv (FS.out wr) hO).mono ?_
                            rintro e w1 ⟨rfl, hO1, hOW⟩
                            go_wp2_with fail
                            refine hK.out _ _ ⟨?_, hO1⟩
                            simp only [fill_eq, List.take_succ_cons, List.take_zero, List.cons_append, List.nil_append, sel_new, sel_dep d0, sel_dep d5]
                            rfl
                        · as_aux_lemma =>
                            rintro l a wr ⟨ha, hO⟩ hl hd K' hK
                            have hx := X62.out; subst hx
                            simp only [fill_eq, List.take_succ_cons, List.take_zero, List.cons_append, List.nil_append] at ha
                            subst ha
                            have hlq := heap_lt (hO.heap HG4.out (fun c => c))
                            rw [if_pos (by rfl)]
                            go_simp
                            refine hK.out _ _ ⟨?_, hO⟩
                            simp only [fill_eq, List.take_succ_cons, List.take_zero, List.cons_append, List.nil_append, sel_new]
                            rfl
                        · as_aux_lemma =>
                            rintro l a wr ⟨ha, hO⟩ hl hd K' hK
                            have d7 := hd 7 (by decide)
                            have hx := X62.out; subst hx
                            have hx := X63.out; subst hx
                            simp only [fill_eq, List.take_succ_cons, List.take_zero, List.cons_append, List.nil_append, sel_of d7] at ha
                            subst ha
                            have p0 := cell_of_heap (hO.heap HG4.out (fun c => c)) 4
                            rw [if_pos (by rfl)]
                            go_simp
                            refine hK.out _ _ ⟨?_, hO⟩
                            simp only [fill_eq, List.take_succ_cons, List.take_zero, List.cons_append, List.nil_append, sel_new, sel_dep d7]
                            rfl
                        · as_aux_lemma =>
                            rintro l a wr ⟨ha, hO⟩ hl hd K' hK
                            have hx := X64.out; subst hx
                            simp only [fill_eq, List.take_succ_cons, List.take_zero, List.cons_append, List.nil_append] at ha
                            subst ha
                            rw [if_pos (by rfl)]
                            go_simp
                            refine hK.out _ _ ⟨?_, hO⟩
                            simp only [fill_eq, List.take_succ_cons, List.take_zero, List.cons_append, List.nil_append, sel_new]
                            rfl
                        · as_aux_lemma =>
                            rintro l a wr ⟨ha, hO⟩ hl hd K' hK
                            have d8 := hd 8 (by decide)
                            have d9 := hd 9 (by decide)
                            have hx := X63.out; subst hx
                            have hx := X64.out; subst hx
                            have hx := X65.out; subst hx
                            simp only [fill_eq, List.take_succ_cons, List.take_zero, List.cons_append, List.nil_append, sel_of d8, sel_of d9] at ha
                            subst ha
                            rw [if_pos (by rfl)]
                            go_simp
                            refine hK.out _ _ ⟨?_, hO⟩
                            simp only [fill_eq, List.take_succ_cons, List.take_zero, List.cons_append, List.nil_append, sel_new, sel_dep d8, sel_dep d9]
                            rfl
                        · as_aux_lemma =>
                            rintro l a wr ⟨ha, hO⟩ hl hd K' hK
                            have d10 := hd 10 (by decide)
                            have hx := X65.out; subst hx
                            have hx := X66.out; subst hx
                            simp only [fill_eq, List.take_succ_cons, List.take_zero, List.cons_append, List.nil_append, sel_of d10] at ha
                            subst ha
                            obtain ⟨p0, p1, p2, p3⟩ := HK1.out wr hO
                            rw [if_pos (by rfl)]
                            go_simp
                            refine hK.out _ _ ⟨?_, hO⟩
                            simp only [fill_eq, List.take_succ_cons, List.take_zero, List.cons_append, List.nil_append, sel_new, sel_dep d10]
                            rfl
                        · as_aux_lemma =>
                            rintro l a wr ⟨ha, hO⟩ hl hd K' hK
                            have d6 := hd 6 (by decide)
                            have d11 := hd 11 (by decide)
                            have hx := X61.out; subst hx
                            have hx := X66.out; subst hx
                            have hx := X67.out; subst hx
                            simp only [fill_eq, List.take_succ_cons, List.take_zero, List.cons_append, List.nil_append, sel_of d6, sel_of d11] at ha
                            subst ha
                            have e1 := HE1.out
                            rw [if_pos (by rfl)]
                            go_simp
                            refine hK.out _ _ ⟨?_, hO⟩
                            simp only [fill_eq, List.take_succ_cons, List.take_zero, List.cons_append, List.nil_append, sel_new, sel_dep d6, sel_dep d11]
                            rfl
                        · rintro l a wc ⟨ha, hO⟩ hd
                          simp only [fill_eq, List.take_succ_cons, List.take_zero, List.cons_append, List.nil_append, sel_of (hd 0 (by decide)), sel_of (hd 1 (by decide)), sel_of (hd 2 (by decide)), sel_of (hd 3 (by decide)), sel_of (hd 4 (by decide)), sel_of (hd 5 (by decide)), sel_of (hd 6 (by decide)), sel_of (hd 7 (by decide)), sel_of (hd 8 (by decide)), sel_of (hd 9 (by decide)), sel_of (hd 10 (by decide)), sel_of (hd 11 (by decide)), sel_of (hd 12 (by decide))] at ha
                          subst ha
                          have hx := X67.out; subst hx
                          have HO4 := Lib.hid (HO3.out.trans hO (fun _ _ c => c))
                          clear hO hd
                          by_cases hxp : xv < p
                          · obtain rfl : bb = true := by rw [HB.out]; exact decide_eq_true hxp
                            go_wp2
                            go_roundw
                            case rel => exact ⟨m + 1, by omega, by simp, take_all HAll.out HX.out hxp, HO4.out⟩
                            case measure => simp [intOf]; omega
                          · obtain rfl : bb = false := by rw [HB.out]; exact decide_eq_false hxp
                            have h9 : r = 9 := by rw [HRr.out]; exact if_neg (fun h => hxp (h xv (List.mem_of_getElem? HX.out)))
                            go_wp2
                            exact bodyPost_ret (v := .int .i64 9) (by simp [results, Tryd.results16, go_sem]) rfl ⟨rfl, HO2.out.trans HO4.out (fun _ _ c => c)⟩
                      · obtain rfl : m = n := by omega
                        have i2 : ¬ (m : Int) < (m : Int) := by omega
                        have h0 : r = 0 := by rw [HRr.out]; exact if_pos (fun x h => hall x (by rw [HNl.out, List.take_length]; exact h))
                        have HO3 := Lib.hid hO
                        clear hO hall
                        go_wp2
                        exact bodyPost_ret (v := .int .i64 0) (by simp [results, Tryd.results16, go_sem]) rfl ⟨rfl, HO2.out.trans HO3.out (fun _ _ c => c)⟩
                · have h8 : r = 8 := by rw [hr]; exact if_pos hnk
                  have hne : ((n : Int) != (k : Int)) = true := by simp; omega
                  have hne2 : ¬ (n : Int) = (k : Int) := by omega
                  subst h8
                  clear hr hpx hk HV hnk
                  go_enter Tryd.func16, Tryd.ntmps16
                  go_wp2_with fail
                  refine (FK.out _).mono ?_
                  rintro e u ⟨rfl, rfl⟩
                  go_upto_region 9 with fail
                  rw [← HW0.out]
                  obtain ⟨x38, hx⟩ : ∃ x : Value, x = .pointer (some ⟨w.heap.size, 4, none⟩) := ⟨_, rfl⟩
                  have X38 := Lib.hid hx
                  clear hx
                  obtain ⟨x39, hx⟩ : ∃ x : Value, x = .slice pa n pc := ⟨_, rfl⟩
                  have X39 := Lib.hid hx
                  clear hx
                  obtain ⟨x40, hx⟩ : ∃ x : Value, x = .int .i64 (n : Int) := ⟨_, rfl⟩
                  have X40 := Lib.hid hx
                  clear hx
                  obtain ⟨x41, hx⟩ : ∃ x : Value, x = .pointer (some ⟨w.heap.size, 3, none⟩) := ⟨_, rfl⟩
                  have X41 := Lib.hid hx
                  clear hx
                  obtain ⟨x42, hx⟩ : ∃ x : Value, x = .int .i64 ln := ⟨_, rfl⟩
                  have X42 := Lib.hid hx
                  clear hx
                  obtain ⟨x43, hx⟩ : ∃ x : Value, x = .int .i64 (k : Int) := ⟨_, rfl⟩
                  have X43 := Lib.hid hx
                  clear hx
                  obtain ⟨x44, hx⟩ : ∃ x : Value, x = .bool true := ⟨_, rfl⟩
                  have X44 := Lib.hid hx
                  clear hx
                  obtain ⟨x37, hx⟩ : ∃ x : Value, x = .bool true := ⟨_, rfl⟩
                  have X37 := Lib.hid hx
                  clear hx
                  refine wp_region_inv (fun a0 l a' w' => a' = (Act.put (fill a0 38 [sel (l 0) x38 undef, sel (l 1) x39 undef, sel (l 2) x40 undef, sel (l 3) x41 undef, sel (l 4) x42 undef, sel (l 5) x43 undef, sel (l 6) x44 undef, undef, undef, undef, undef, undef, undef, undef, undef, undef, undef, undef, undef, undef, undef, undef, undef, undef, undef, undef, undef, undef, undef, undef]) (some 37) (sel (l 7) x37 (undef))) ∧ Off (fun _ => False) W0 w') (by kernel_rfl) (by kernel_rfl) ?_ ⟨?_, ?_, ?_, ?_, ?_, ?_, ?_, ?_, trivial⟩ ?_
                  · refine ⟨?_, (Off.refl _ W0).drew⟩
                    simp only [fill_eq, List.take_succ_cons, List.take_zero, List.cons_append, List.nil_append, Act.put, List.setIfInBounds_toArray, List.set_cons_zero, List.set_cons_succ, sel_start]
                  · as_aux_lemma =>
                      rintro l a wr ⟨ha, hO⟩ hl hd K' hK
                      have hx := X38.out; subst hx
                      simp only [fill_eq, List.take_succ_cons, List.take_zero, List.cons_append, List.nil_append, Act.put, List.setIfInBounds_toArray, List.set_cons_zero, List.set_cons_succ] at ha
                      subst ha
                      have hlq := heap_lt (hO.heap HG1.out (fun c => c))
                      rw [if_pos (by rfl)]
                      go_simp
                      refine hK.out _ _ ⟨?_, hO⟩
                      simp only [fill_eq, List.take_succ_cons, List.take_zero, List.cons_append, List.nil_append, Act.put, List.setIfInBounds_toArray, List.set_cons_zero, List.set_cons_succ, sel_new]
                      rfl
                  · as_aux_lemma =>
                      rintro l a wr ⟨ha, hO⟩ hl hd K' hK
                      have d0 := hd 0 (by decide)
                      have hx := X38.out; subst hx
                      have hx := X39.out; subst hx
                      simp only [fill_eq, List.take_succ_cons, List.take_zero, List.cons_append, List.nil_append, Act.put, List.setIfInBounds_toArray, List.set_cons_zero, List.set_cons_succ, sel_of d0] at ha
                      subst ha
                      have p0 := cell_of_heap (hO.heap HG1.out (fun c => c)) 4
                      rw [if_pos (by rfl)]
                      go_simp
                      refine hK.out _ _ ⟨?_, hO⟩
                      simp only [fill_eq, List.take_succ_cons, List.take_zero, List.cons_append, List.nil_append, Act.put, List.setIfInBounds_toArray, List.set_cons_zero, List.set_cons_succ, sel_new, sel_dep d0]
                      rfl
                  · as_aux_lemma =>
                      rintro l a wr ⟨ha, hO⟩ hl hd K' hK
                      have d1 := hd 1 (by decide)
                      have hx := X39.out; subst hx
                      have hx := X40.out; subst hx
                      simp only [fill_eq, List.take_succ_cons, List.take_zero, List.cons_append, List.nil_append, Act.put, List.setIfInBounds_toArray, List.set_cons_zero, List.set_cons_succ, sel_of d1] at ha
                      subst ha
                      rw [if_pos (by rfl)]
                      go_simp
                      refine hK.out _ _ ⟨?_, hO⟩
                      simp only [fill_eq, List.take_succ_cons, List.take_zero, List.cons_append, List.nil_append, Act.put, List.setIfInBounds_toArray, List.set_cons_zero, List.set_cons_succ, sel_new, sel_dep d1]
                      rfl
                  · as_aux_lemma =>
                      rintro l a wr ⟨ha, hO⟩ hl hd K' hK
                      have hx := X41.out; subst hx
                      simp only [fill_eq, List.take_succ_cons, List.take_zero, List.cons_append, List.nil_append, Act.put, List.setIfInBounds_toArray, List.set_cons_zero, List.set_cons_succ] at ha
                      subst ha
                      have hlq := heap_lt (hO.heap HG1.out (fun c => c))
                      rw [if_pos (by rfl)]
                      go_simp
                      refine hK.out _ _ ⟨?_, hO⟩
                      simp only [fill_eq, List.take_succ_cons, List.take_zero, List.cons_append, List.nil_append, Act.put, List.setIfInBounds_toArray, List.set_cons_zero, List.set_cons_succ, sel_new]
                      rfl
                  · as_aux_lemma =>
                      rintro l a wr ⟨ha, hO⟩ hl hd K' hK
                      have d3 := hd 3 (by decide)
                      have hx := X41.out; subst hx
                      have hx := X42.out; subst hx
                      simp only [fill_eq, List.take_succ_cons, List.take_zero, List.cons_append, List.nil_append, Act.put, List.setIfInBounds_toArray, List.set_cons_zero, List.set_cons_succ, sel_of d3] at ha
                      subst ha
                      have p0 := cell_of_heap (hO.heap HG1.out (fun c => c)) 3
                      rw [if_pos (by rfl)]
                      go_simp
                      refine hK.out _ _ ⟨?_, hO⟩
                      simp only [fill_eq, List.take_succ_cons, List.take_zero, List.cons_append, List.nil_append, Act.put, List.setIfInBounds_toArray, List.set_cons_zero, List.set_cons_succ, sel_new, sel_dep d3]
                      rfl
                  · as_aux_lemma =>
                      rintro l a wr ⟨ha, hO⟩ hl hd K' hK
                      have d4 := hd 4 (by decide)
                      have hx := X42.out; subst hx
                      have hx := X43.out; subst hx
                      simp only [fill_eq, List.take_succ_cons, List.take_zero, List.cons_append, List.nil_append, Act.put, List.setIfInBounds_toArray, List.set_cons_zero, List.set_cons_succ, sel_of d4] at ha
                      subst ha
                      rw [if_pos (by rfl)]
                      go_simp
                      refine (held_inv (FN.out wr) hO).mono ?_
                      rintro e w1 ⟨rfl, hO1, hOW⟩
                      go_wp2_with fail
                      refine hK.out _ _ ⟨?_, hO1⟩
                      simp only [fill_eq, List.take_succ_cons, List.take_zero, List.cons_append, List.nil_append, Act.put, List.setIfInBounds_toArray, List.set_cons_zero, List.set_cons_succ, sel_new, sel_dep d4]
                      rfl
                  · as_aux_lemma =>
                      rintro l a wr ⟨ha, hO⟩ hl hd K' hK
                      have d2 := hd 2 (by decide)
                      have d5 := hd 5 (by decide)
                      have hx := X40.out; subst hx
                      have hx := X43.out; subst hx
                      have hx := X44.out; subst hx
                      simp only [fill_eq, List.take_succ_cons, List.take_zero, List.cons_append, List.nil_append, Act.put, List.setIfInBounds_toArray, List.set_cons_zero, List.set_cons_succ, sel_of d2, sel_of d5] at ha
                      subst ha
                      rw [if_pos (by rfl)]
                      go_simp
                      refine hK.out _ _ ⟨?_, hO⟩
                      simp only [fill_eq, List.take_succ_cons, List.take_zero, List.cons_append, List.nil_append, Act.put, List.setIfInBounds_toArray, List.set_cons_zero, List.set_cons_succ, sel_new, sel_dep d2, sel_dep d5]
                      rfl
                  · as_aux_lemma =>
                      rintro l a wr ⟨ha, hO⟩ hl hd K' hK
                      have d6 := hd 6 (by decide)
                      have hx := X44.out; subst hx
                      have hx := X37.out; subst hx
                      simp only [fill_eq, List.take_succ_cons, List.take_zero, List.cons_append, List.nil_append, Act.put, List.setIfInBounds_toArray, List.set_cons_zero, List.set_cons_succ, sel_of d6] at ha
                      subst ha
                      rw [if_pos (by rfl)]
                      go_simp
                      refine hK.out _ _ ⟨?_, hO⟩
                      simp only [fill_eq, List.take_succ_cons, List.take_zero, List.cons_append, List.nil_append, Act.put, List.setIfInBounds_toArray, List.set_cons_zero, List.set_cons_succ, sel_new, sel_dep d6]
                      rfl
                  · rintro l a wc ⟨ha, hO⟩ hd
                    simp only [fill_eq, List.take_succ_cons, List.take_zero, List.cons_append, List.nil_append, Act.put, List.setIfInBounds_toArray, List.set_cons_zero, List.set_cons_succ, sel_of (hd 0 (by decide)), sel_of (hd 1 (by decide)), sel_of (hd 2 (by decide)), sel_of (hd 3 (by decide)), sel_of (hd 4 (by decide)), sel_of (hd 5 (by decide)), sel_of (hd 6 (by decide)), sel_of (hd 7 (by decide))] at ha
                    subst ha
                    have hx := X37.out; subst hx
                    have HO1 := Lib.hid (HO0.out.trans hO (fun _ _ c => c))
                    clear hO hd
                    go_wp2
                    go_ret
                    exact ⟨rfl, HO1.out⟩
  · obtain rfl : r = 3 := by rw [hr, if_pos hk]
    rw [show decide (Kn fd) = false from decide_eq_false hk] at FK
    clear hr hk
    go_enter Tryd.func16, Tryd.ntmps16
    go_wp2_with fail
    refine (FK.out _).mono ?_
    rintro e u ⟨rfl, rfl⟩
    go_wp2
    go_ret
    exact ⟨rfl, (Off.refl _ w).alloc _⟩
end Go.Proofs.YtmokaikofcbboaaDoor
