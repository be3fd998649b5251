/-
  The contract of poly's Add over this seat's translation, with any tape. Conditions: the field's constants are those of its modulus, the lists' elements are forms of values, and lie outside the tape; the tape has room for the events.
-/
import Derived.Test.YtiemajbcmmbjbaaDoorPolCore
import Derived.Test.YtiemajbcmmbjbaaDoorMontOps
import Derived.Test.YtiemajbcmmbjbaaDoorInvAll
import Derived.Laws.IdiomCopy
namespace Go.Proofs.YtiemajbcmmbjbaaDoor
open Go.RowKit
attribute [local go_sem] Oper.semAt_some wide_fn
theorem setCells_sz (b : Nat) : ∀ (vs : List Value) (o : Nat) (w : World), (w.setCells b o vs).heap.size = w.heap.size
  | [], _, _ => rfl
  | v :: vs, o, w => by
    show ((w.setCell ⟨b, o, none⟩ v).setCells b (o + 1) vs).heap.size = _
    rw [setCells_sz b vs (o + 1)]
    simp
theorem flat4_one : ∀ l : List Nat, ∀ u ∈ flat4 l, u.oneCell' = true
  | [], u, h => by cases h
  | x :: r, u, h => by
    simp only [flat4, List.mem_cons] at h
    rcases h with rfl | rfl | rfl | rfl | h <;> first | rfl | exact flat4_one r u h
theorem flat4_read {w : World} {b off n cap : Nat} {xs : List Nat} {S : Nat → Prop} (h : LsAt w (.slice (some ⟨b, off, none⟩) n cap) xs S) : ∀ j u, (flat4 xs)[j]? = some u → w.cell? ((⟨b, off, none⟩ : Addr).add j) = some u := by
  intro j u hj
  have hjl : j < (flat4 xs).length := (List.getElem?_eq_some_iff.1 hj).1
  rw [flat4_length] at hjl
  obtain ⟨x, hx⟩ : ∃ x, xs[j / 4]? = some x := ⟨_, List.getElem?_eq_getElem (by omega)⟩
  obtain ⟨b', off', e, _, c0, c1, c2, c3⟩ := h.get hx
  simp at e
  obtain ⟨rfl, rfl⟩ := e
  obtain ⟨f0, f1, f2, f3⟩ := flat4_get xs _ x hx
  rw [Addr.add_lit]
  have h4 : j = j / 4 * 4 ∨ j = j / 4 * 4 + 1 ∨ j = j / 4 * 4 + 2 ∨ j = j / 4 * 4 + 3 := by omega
  rcases h4 with h | h | h | h
  · rw [h] at hj ⊢; rw [f0] at hj; cases hj; exact c0
  · rw [h] at hj ⊢; rw [f1] at hj; cases hj; rw [← Nat.add_assoc]; exact c1
  · rw [h] at hj ⊢; rw [f2] at hj; cases hj; rw [← Nat.add_assoc]; exact c2
  · rw [h] at hj ⊢; rw [f3] at hj; cases hj; rw [← Nat.add_assoc]; exact c3
/-- 'copy' of a slice's elements to a block's first. -/
theorem copy_el {w : World} {b n dcap m c : Nat} {a : Option Addr} {xs ys : List Nat} {Sl : Nat → Prop} (h : LsAt w (.slice a m c) xs Sl) (hb : NumsAt w b 26 ys) (hn : n = ys.length) (hm : m ≤ n) :
    ∃ w1, (Builtin.copy_ #[31, 31] 3 #[.slice (some ⟨b, 0, none⟩) n dcap, .slice a m c]).run Tryd.prog w = .ok (.int .i64 (m : Int)) w1 ∧ NumsAt w1 b 26 (xs ++ ys.drop m) ∧ Off (fun k => k = b) w w1 ∧ w1.heap.size = w.heap.size := by
  obtain ⟨hl, hl2⟩ := h.len
  have hu := Tryd.underlying31
  have hs : (Tryd.prog.info? 26).map (·.size) = some 4 := by kernel_rfl
  have hfl := flat4_length xs
  have hsp : flat4 ys = flat4 (ys.take m) ++ flat4 (ys.drop m) := by rw [← flat4_append, List.take_append_drop]
  have htl : (flat4 (ys.take m)).length = (flat4 xs).length := by rw [flat4_length, flat4_length, List.length_take]; omega
  have hmid := setCells_mid (b := b) (T := 26) (flat4 xs) [] (flat4 (ys.take m)) (flat4 (ys.drop m)) w 0 rfl htl (by rw [List.nil_append, ← hsp]; exact hb)
  refine ⟨w.setCells b 0 (flat4 xs), ?_, ?_, setCells_off b (flat4 xs) 0 w, setCells_sz b (flat4 xs) 0 w⟩
  · have hst := run_storeCells_cells (P := Tryd.prog) b 0 (flat4 xs) 0 w (fun j hj => by
        have hlt : j < (flat4 ys).toArray.size := by simp only [List.size_toArray, flat4_length]; omega
        rw [cell_of_heap hb]; simp only [Nat.zero_add, Nat.add_zero]; rw [Array.getElem?_eq_getElem hlt]; rfl) (fun j _ => hb.frozen _) (flat4_one xs)
    have hmin : Nat.min m n = m := Nat.min_eq_left hm
    cases hq : Tryd.prog.info? 26 with
    | none => simp [hq] at hs
    | some i =>
      have hi : i.size = 4 := by simpa [hq] using hs
      rcases Nat.eq_zero_or_pos m with h0 | hp
      · subst h0
        obtain rfl : xs = [] := List.eq_nil_of_length_eq_zero hl.symm
        have hl0 : ∀ (x : Addr), (loadCells x 0).run Tryd.prog w = .ok #[] w := fun x => by simpa using run_loadCells_list (P := Tryd.prog) w x [] (by simp)
        cases a <;> simp [Builtin.copy_, run_underlying hu, Builtin.lenOf, Builtin.firstCells, sizeOf, typeInfo, hq, storeCells, hl0, flat4, World.setCells, goInt] <;> rfl
      · obtain ⟨x0, hx0⟩ : ∃ x0, xs[0]? = some x0 := ⟨_, List.getElem?_eq_getElem (by omega)⟩
        obtain ⟨b2, off, rfl, hS, _⟩ := h.get hx0
        have hld := run_loadCells_list (P := Tryd.prog) w ⟨b2, off, none⟩ (flat4 xs) (flat4_read h)
        rw [flat4_length, ← hl] at hld
        simp [Builtin.copy_, run_underlying hu, Builtin.lenOf, Builtin.firstCells, sizeOf, typeInfo, hq, hi, hmin, hld, hst, goInt]
  · rw [List.nil_append, ← flat4_append] at hmid
    exact hmid
set_option maxRecDepth 100000 in
set_option maxHeartbeats 4000000 in
theorem add_keep {id : Int} {p i0 r s : Nat} (hF : Fld id p i0 r s) (vs us : List Nat) (n cap m cap2 : Nat) (a a2 : Option Addr) (hn : n = vs.length) (hm : m = us.length) (hmn : m ≤ n) (hn2 : n ≤ 10000) (q : Option Addr) (es : List Ev) (S Sl Sl2 : Nat → Prop) (w : World)
    (hL : LsAt w (.slice a n cap) (vs.map (fm p)) Sl) (hSl : ∀ b, Sl b → b < w.heap.size ∧ ¬ S b) (hL2 : LsAt w (.slice a2 m cap2) (us.map (fm p)) Sl2) (hS : Tp w q es S) (hl : es.length ≤ 70000) :
    Calls Tryd.prog 17 #[.pointer q, FV id p i0 r s, .slice a n cap, .slice a2 m cap2] w fun e w' => ∃ b, e = .returned (.slice (some ⟨b, 0, none⟩) n n) ∧ w.heap.size ≤ b ∧ NumsAt w' b 26 ((sumL p vs us).map (fm p)) ∧ Noted w.heap.size q es (coefU n (List.range n)) S w' ∧ Off S w w' := by
  refine (callsIn_wide (n := 6)).1 ?_
  refine callsIn_of_wp_marks Tryd.func17 rfl trivial ?_ rfl
  simp only [Tryd.ntmps17, List.size_toArray, List.length_cons, List.length_nil, Nat.reduceAdd, Nat.reduceSub, Array.replicate_succ, Array.replicate_zero, List.push_toArray, List.append_toArray, List.nil_append, List.cons_append]
  have hmx : Tryd.prog.follows .mixedOrders = true := by kernel_rfl
  have HM := Lib.hid (fun x y W => by have h := mmul_any hF (fm p x) (fm p y) (Nat.lt_trans (fm_lt hF.mp.pos _) hF.mp.lt) (fm_lt hF.mp.pos _) W; rw [mm_fm hF.mp] at h; exact h : ∀ x y W, Calls Tryd.prog 42 #[FV id p i0 r s, V (fm p x), V (fm p y)] W fun x' w' => x' = .returned (V (fm p (x * y % p))) ∧ Off (fun _ => False) W w')
  have HA := Lib.hid (fun x y W => by have h := madd_any hF (fm p x) (fm p y) (fm_lt hF.mp.pos _) (fm_lt hF.mp.pos _) W; rw [fm_add] at h; exact h : ∀ x y W, Calls Tryd.prog 41 #[FV id p i0 r s, V (fm p x), V (fm p y)] W fun x' w' => x' = .returned (V (fm p ((x + y) % p))) ∧ Off (fun _ => False) W w')
  have hmk := run_make_el n (by omega)
  obtain ⟨W4, hcp, g_arr, hO3, hs4a⟩ := copy_el (w := (((w.alloc (.cells #[.int .i64 id, .int .u64 (wd p 0 : Int), .int .u64 (wd p 1 : Int), .int .u64 (wd p 2 : Int), .int .u64 (wd p 3 : Int), .int .u64 (i0 : Int), .int .u64 (wd r 0 : Int), .int .u64 (wd r 1 : Int), .int .u64 (wd r 2 : Int), .int .u64 (wd r 3 : Int), .int .u64 (wd s 0 : Int), .int .u64 (wd s 1 : Int), .int .u64 (wd s 2 : Int), .int .u64 (wd s 3 : Int)] 28)).alloc (.cells (flat4 (List.replicate n 0)).toArray 26)).alloc (.cells #[.slice (some ⟨w.heap.size + 1, 0, none⟩) n n] 31))) (b := w.heap.size + 1) (n := n) (dcap := n) (m := m) (c := cap2) (a := a2) (xs := us.map (fm p)) (ys := List.replicate n 0) (hL2.off ((((Off.refl _ w).alloc _).alloc _).alloc _ : Off (fun _ => False) w _) (fun _ _ _ c => c)) (heap_old' (heap_new' (by simp) _) _) (by simp) (by omega)
  rw [List.drop_replicate] at g_arr
  have g_bf : W4.heap[w.heap.size]? = some (.cells #[.int .i64 id, .int .u64 (wd p 0 : Int), .int .u64 (wd p 1 : Int), .int .u64 (wd p 2 : Int), .int .u64 (wd p 3 : Int), .int .u64 (i0 : Int), .int .u64 (wd r 0 : Int), .int .u64 (wd r 1 : Int), .int .u64 (wd r 2 : Int), .int .u64 (wd r 3 : Int), .int .u64 (wd s 0 : Int), .int .u64 (wd s 1 : Int), .int .u64 (wd s 2 : Int), .int .u64 (wd s 3 : Int)] 28 (0, 0)) := hO3.heap (heap_old' (heap_old' (heap_new' rfl _) _) _) (by omega)
  have g_sb : W4.heap[w.heap.size + 1 + 1]? = some (.cells #[.slice (some ⟨w.heap.size + 1, 0, none⟩) n n] 31 (0, 0)) := hO3.heap (heap_new' (by simp) _) (by omega)
  have hO4 : Off (fun _ => False) w W4 := ((((Off.refl _ w).alloc _).alloc _).alloc _ : Off (fun _ => False) w _).trans hO3 (fun k hk e => by subst e; omega)
  have hs4 : W4.heap.size = w.heap.size + 1 + 1 + 1 := by rw [hs4a]; simp
  clear hs4a
  have hc1 : decide ((n : Int) < (m : Int)) = false := by simp; omega
  have hc2 : ¬ ((n : Int) < (m : Int)) := by omega
  have HF := Lib.hid hF
  have HN := Lib.hid hn
  have HN2 := Lib.hid hm
  have HL := Lib.hid hL
  have HSl := Lib.hid hSl
  have HS := Lib.hid hS
  have HS4 := Lib.hid hs4
  clear hF hn hm hL hSl hS hO3 hL2
  have hOr := fun w => eall_in (6 - 1) a n cap w
  have hCo := fun w => callsIn_wide (n := 6 - 1).2 (coefs_any q w)
  have hNo := fun lb tb w => callsIn_wide (n := 6 - 1).2 (noted_any (.func (.func 62) #[] #[.pointer (some ⟨lb, 0, none⟩)]) (.func (.func 57) #[] #[.pointer (some ⟨tb, 0, none⟩)]) w ⟨_, _, rfl⟩ ⟨_, _, rfl⟩)
  gi_wp2_with (first | (gi_at_call 44; refine (hOr _).mono ?_; rintro e w' ⟨rfl, rfl⟩) | (gi_at_call 40; refine (hCo _).mono ?_; rintro e w' ⟨rfl, rfl⟩) | (gi_at_call 38; refine (hNo _ _ _).mono ?_; rintro e w' ⟨rfl, rfl⟩))
  clear hOr hCo hNo
  clear hmk hcp hc1 hc2
  obtain ⟨W8, hW8⟩ : ∃ W8, W8 = (((W4.alloc (.cells #[.slice a n cap] 31)).alloc (.cells #[.pointer q] 47)).alloc (.cells #[.func (.func 62) #[] #[.pointer (some ⟨w.heap.size + 1 + 1 + 1, 0, none⟩)]] 66)).alloc (.cells #[.func (.func 57) #[] #[.pointer (some ⟨w.heap.size + 1 + 1 + 1 + 1, 0, none⟩)]] 69) := ⟨_, rfl⟩
  have hOW8 : Off (fun _ => False) W4 W8 := by rw [hW8]; exact ((((Off.refl _ W4).alloc _).alloc _).alloc _).alloc _
  have g_lb : W8.heap[w.heap.size + 1 + 1 + 1]? = some (.cells #[.slice a n cap] 31 (0, 0)) := by rw [hW8]; exact heap_old' (heap_old' (heap_old' (heap_new' (by simp [hs4]) _) _) _) _
  have g_tb : W8.heap[w.heap.size + 1 + 1 + 1 + 1]? = some (.cells #[.pointer q] 47 (0, 0)) := by rw [hW8]; exact heap_old' (heap_old' (heap_new' (by simp [hs4]) _) _) _
  have g_ob : W8.heap[w.heap.size + 1 + 1 + 1 + 1 + 1]? = some (.cells #[.func (.func 62) #[] #[.pointer (some ⟨w.heap.size + 1 + 1 + 1, 0, none⟩)]] 66 (0, 0)) := by rw [hW8]; exact heap_old' (heap_new' (by simp [hs4]) _) _
  have g_nb : W8.heap[w.heap.size + 1 + 1 + 1 + 1 + 1 + 1]? = some (.cells #[.func (.func 57) #[] #[.pointer (some ⟨w.heap.size + 1 + 1 + 1 + 1, 0, none⟩)]] 69 (0, 0)) := by rw [hW8]; exact heap_new' (by simp [hs4]) _
  have hsW8 : W8.heap.size = w.heap.size + 1 + 1 + 1 + 1 + 1 + 1 + 1 := by rw [hW8]; simp [hs4]
  rw [← hW8]
  obtain ⟨nb, e_nb⟩ : ∃ nb, nb = w.heap.size + 1 + 1 + 1 + 1 + 1 + 1 := ⟨_, rfl⟩
  rw [← e_nb] at g_nb ⊢
  obtain ⟨ob, e_ob⟩ : ∃ ob, ob = w.heap.size + 1 + 1 + 1 + 1 + 1 := ⟨_, rfl⟩
  rw [← e_ob] at g_ob ⊢
  obtain ⟨tb, e_tb⟩ : ∃ tb, tb = w.heap.size + 1 + 1 + 1 + 1 := ⟨_, rfl⟩
  rw [← e_tb] at g_tb g_nb ⊢
  obtain ⟨lb, e_lb⟩ : ∃ lb, lb = w.heap.size + 1 + 1 + 1 := ⟨_, rfl⟩
  rw [← e_lb] at g_lb g_ob ⊢
  have HBk := Lib.hid (show lb = w.heap.size + 1 + 1 + 1 ∧ tb = w.heap.size + 1 + 1 + 1 + 1 ∧ ob = w.heap.size + 1 + 1 + 1 + 1 + 1 ∧ nb = w.heap.size + 1 + 1 + 1 + 1 + 1 + 1 ∧ W8.heap.size = w.heap.size + 1 + 1 + 1 + 1 + 1 + 1 + 1 from ⟨e_lb, e_tb, e_ob, e_nb, hsW8⟩)
  clear hW8 hsW8 e_lb e_tb e_ob e_nb
  have g_bf := hOW8.heap g_bf (fun c => c)
  have g_sb := hOW8.heap g_sb (fun c => c)
  have g_arr := g_arr.off hOW8 (fun c => c)
  have hOW8 := hO4.trans hOW8 (fun _ _ c => c)
  clear hO4 hs4
  obtain ⟨sb, e_sb⟩ : ∃ sb, sb = w.heap.size + 1 + 1 := ⟨_, rfl⟩
  rw [← e_sb] at g_sb ⊢
  obtain ⟨arr, e_arr⟩ : ∃ arr, arr = w.heap.size + 1 := ⟨_, rfl⟩
  rw [← e_arr] at g_sb g_arr ⊢
  obtain ⟨bf, e_bf⟩ : ∃ bf, bf = w.heap.size := ⟨_, rfl⟩
  have HBk2 := Lib.hid (show bf = w.heap.size ∧ arr = w.heap.size + 1 ∧ sb = w.heap.size + 1 + 1 ∧ lb = w.heap.size + 1 + 1 + 1 ∧ tb = w.heap.size + 1 + 1 + 1 + 1 ∧ ob = w.heap.size + 1 + 1 + 1 + 2 ∧ nb = w.heap.size + 1 + 1 + 1 + 3 ∧ W8.heap.size = w.heap.size + 1 + 1 + 1 + 4 by have hb := HBk.out; have := HS4.out; omega)
  clear HBk
  have HBk := HBk2
  clear HBk2
  rw [← e_bf] at g_bf ⊢
  have hSw := (fun k c => by have := HS.out.2 k c; omega : ∀ k, S k → k < w.heap.size)
  have hT8 := HS.out.off0 hOW8
  have hnot : ∀ k, w.heap.size ≤ k → ¬ S k := fun k h c => by have := hSw k c; omega
  have hseq := coefs_told (n := 6 - 1) (by omega) ob nb tb 62 #[.pointer (some ⟨lb, 0, none⟩)] (enters_of Tryd.func62 (by kernel_rfl) rfl) (fun x => x % n) (fun x => fm p (vs.getD (x % n) 0)) (fun W => Rl lb (.slice a n cap) (vs.map (fm p)) Sl W) (fun ys => ys = List.range n) (fun pre => ∃ k, k ≤ n ∧ pre = List.range k) n
    (fun W hW => by have h := eall_stops (6 - 1 - 1) (by omega) lb a n cap (vs.map (fm p)) Sl W hW; simp only [List.length_map, getD_fm, ← HN.out] at h; exact h)
    [(ob, Obj.cells #[.func (.func 62) #[] #[.pointer (some ⟨lb, 0, none⟩)]] 66 (0, 0)), (nb, Obj.cells #[.func (.func 57) #[] #[.pointer (some ⟨tb, 0, none⟩)]] 69 (0, 0)), (tb, Obj.cells #[.pointer q] 47 (0, 0))] q es S (fun k => k = arr) W8
    (by simp) (by simp) (by simp)
    (by
      have hb := HBk.out
      simp only [List.mem_cons, List.not_mem_nil, or_false, forall_eq_or_imp, forall_eq]
      exact ⟨⟨g_ob, hnot _ (by omega), by omega⟩, ⟨g_nb, hnot _ (by omega), by omega⟩, ⟨g_tb, hnot _ (by omega), by omega⟩⟩)
    (fun k c => by have c : k = arr := c; have hb := HBk.out; exact ⟨by omega, hnot _ (by omega)⟩) ⟨g_lb, HL.out.off hOW8 (fun _ _ _ c => c)⟩
    (fun A B h hq => by
      have hb := HBk.out
      exact h.quiet hq ⟨by omega, fun c => c.elim (hnot _ (by omega)) (by omega)⟩ (fun k c => ⟨by have := (HSl.out k c).1; omega, fun d => d.elim (HSl.out k c).2 (fun e => by have := (HSl.out k c).1; omega)⟩))
    hT8 (by omega)
  have HNot := Lib.hid hnot
  clear e_sb e_arr e_bf HS4
  have h80 : W8.heap[bf]? = some (.cells #[.int .i64 id, .int .u64 (wd p 0 : Int), .int .u64 (wd p 1 : Int), .int .u64 (wd p 2 : Int), .int .u64 (wd p 3 : Int), .int .u64 (i0 : Int), .int .u64 (wd r 0 : Int), .int .u64 (wd r 1 : Int), .int .u64 (wd r 2 : Int), .int .u64 (wd r 3 : Int), .int .u64 (wd s 0 : Int), .int .u64 (wd s 1 : Int), .int .u64 (wd s 2 : Int), .int .u64 (wd s 3 : Int)] 28 (0, 0)) ∧ W8.heap[sb]? = some (.cells #[.slice (some ⟨arr, 0, none⟩) n n] 31 (0, 0)) ∧ W8.heap[arr]? = some (.cells (flat4 ((setF n (fun i u => (vs.getD i 0 + u) % p) (us ++ List.replicate (n - m) 0) []).map (fm p))).toArray 26 (0, 0)) ∧ Off S w W8 := ⟨g_bf, g_sb, by rw [show setF n (fun i u => (vs.getD i 0 + u) % p) (us ++ List.replicate (n - m) 0) [] = (us ++ List.replicate (n - m) 0) from rfl, List.map_append, List.map_replicate, fm_zero]; exact g_arr, hOW8.mono (fun _ _ c => c.elim)⟩
  have H80 := Lib.hid h80
  clear h80 g_bf g_arr g_sb g_lb g_tb g_ob g_nb hT8 hOW8 hnot hSw
  refine rangeFunc_told (n := 6) (by omega) (gf := 55) (lb := #[.pointer (some ⟨ob, 0, none⟩), .pointer (some ⟨nb, 0, none⟩)]) rfl (enters_of Tryd.func55 (by kernel_rfl) rfl) hseq
    (fun xs A B h hq hc => noted_cells h hq hc) (fun _ => by rfl)
    (fun pre W => W.heap[bf]? = some (.cells #[.int .i64 id, .int .u64 (wd p 0 : Int), .int .u64 (wd p 1 : Int), .int .u64 (wd p 2 : Int), .int .u64 (wd p 3 : Int), .int .u64 (i0 : Int), .int .u64 (wd r 0 : Int), .int .u64 (wd r 1 : Int), .int .u64 (wd r 2 : Int), .int .u64 (wd r 3 : Int), .int .u64 (wd s 0 : Int), .int .u64 (wd s 1 : Int), .int .u64 (wd s 2 : Int), .int .u64 (wd s 3 : Int)] 28 (0, 0)) ∧ W.heap[sb]? = some (.cells #[.slice (some ⟨arr, 0, none⟩) n n] 31 (0, 0)) ∧ W.heap[arr]? = some (.cells (flat4 ((setF n (fun i u => (vs.getD i 0 + u) % p) (us ++ List.replicate (n - m) 0) pre).map (fm p))).toArray 26 (0, 0)) ∧ Off S w W) ?hI ?h0
    (fun x a' W => ∃ B, W.heap[B]? = some (.cells #[.int .u64 (wd (fm p (vs.getD (x % n) 0)) 0 : Int), .int .u64 (wd (fm p (vs.getD (x % n) 0)) 1 : Int), .int .u64 (wd (fm p (vs.getD (x % n) 0)) 2 : Int), .int .u64 (wd (fm p (vs.getD (x % n) 0)) 3 : Int)] 26 (0, 0)) ∧ nb < B ∧ a' = { tmps := #[.pointer q, FV id p i0 r s, .slice a n cap, .slice a2 m cap2, undef, .pointer (some ⟨bf, 0, none⟩), undef, undef, .slice none 0 0, .pointer (some ⟨sb, 0, none⟩), .int .i64 ((x % n : Nat) : Int), .pointer (some ⟨B, 0, none⟩), .slice a n cap, .int .i64 (n : Int), .slice a2 m cap2, .int .i64 (m : Int), .bool false, undef, undef, .slice a n cap, .int .i64 (n : Int), .slice (some ⟨arr, 0, none⟩) n n, .slice (some ⟨arr, 0, none⟩) n n, .slice a2 m cap2, .int .i64 (m : Int), .slice a n cap, .func (.func 62) #[] #[.pointer (some ⟨lb, 0, none⟩)], .pointer q, .func (.func 57) #[] #[.pointer (some ⟨tb, 0, none⟩)], .func (.func 55) #[] #[.pointer (some ⟨ob, 0, none⟩), .pointer (some ⟨nb, 0, none⟩)], .int .i64 ((x % n : Nat) : Int), V (fm p (vs.getD (x % n) 0)), undef, undef, undef, undef, undef, undef, undef, undef, undef, undef, undef], defers := [] })
    (fun x a' A l o' h hc => by obtain ⟨B, h1, h2, h3⟩ := h; exact ⟨B, hc _ _ _ _ h1, h2, h3⟩)
    ?assign ?body ?done
  case hI =>
    rintro pre A B ⟨h1, h2, h3, h4⟩ hq
    have hb := HBk.out
    exact ⟨hq.block _ _ (by omega) (HNot.out _ (by omega)) h1, hq.block _ _ (by omega) (HNot.out _ (by omega)) h2, hq.block _ _ (by omega) (HNot.out _ (by omega)) h3, h4.later' hq (by omega) (fun k _ c => c)⟩
  case h0 => exact H80.out
  case assign =>
    rintro l pre k W K hsz _ hK
    obtain ⟨j, hj⟩ : ∃ j, j = k % n := ⟨_, rfl⟩
    obtain ⟨y, hy⟩ : ∃ y, y = fm p (vs.getD (k % n) 0) := ⟨_, rfl⟩
    rw [← hy, ← hj] at hK
    rw [← hy, ← hj]
    have hlt : nb < W.heap.size := by have hb := HBk.out; omega
    clear hy hj hseq 
    gi_wp2
    exact hK _ _ ((Off.refl _ W).alloc _) ⟨W.heap.size, World.alloc_heap_new W _, hlt, rfl⟩
  case body =>
    rintro l pre k a' W _ _ ⟨h1, h2, h3, h4⟩ ⟨B, hcB, hBt, rfl⟩ hlen
    obtain ⟨j, hj⟩ : ∃ j, j = k % n := ⟨_, rfl⟩
    obtain ⟨v, hv⟩ : ∃ v, v = vs.getD (k % n) 0 := ⟨_, rfl⟩
    have hjn : j < n := by rw [hj]; first | omega | exact Nat.mod_lt _ (by omega)
    rw [← hv, ← hj]
    rw [← hv] at hcB
    obtain ⟨y, hy⟩ : ∃ y, y = fm p v := ⟨_, rfl⟩
    rw [← hy]
    rw [← hy] at hcB
    obtain ⟨L, hL⟩ : ∃ L, L = setF n (fun i u => (vs.getD i 0 + u) % p) (us ++ List.replicate (n - m) 0) pre := ⟨_, rfl⟩
    have hLn : L.length = n := by rw [hL, setF_length, List.length_append, List.length_replicate]; have := HN2.out; omega
    obtain ⟨t, ht⟩ : ∃ t, t = L.getD j 0 := ⟨_, rfl⟩
    have hsn : setF n (fun i u => (vs.getD i 0 + u) % p) (us ++ List.replicate (n - m) 0) (pre ++ [k]) = L.set j ((v + t) % p) := by rw [setF_snoc, ← hL, ← hj, ← ht, hv, hj]
    rw [← hL] at h3
    obtain ⟨z, hz⟩ : ∃ z, z = fm p ((v + t) % p) := ⟨_, rfl⟩
    obtain ⟨o, ho⟩ : ∃ o, o = fm p t := ⟨_, rfl⟩
    have HAd := Lib.hid (show ∀ W, Calls Tryd.prog 41 #[FV id p i0 r s, V y, V o] W fun x' w' => x' = .returned (V z) ∧ Off (fun _ => False) W w' from fun W => by rw [hy, ho, hz]; exact HA.out _ _ W)
    have HLs := Lib.hid (show (L.set j ((v + t) % p)).map (fm p) = (L.map (fm p)).set j z by rw [List.map_set, hz])
    obtain ⟨L1, hL1⟩ : ∃ L1, L1 = L.map (fm p) := ⟨_, rfl⟩
    have hL1n : L1.length = n := by rw [hL1, List.length_map, hLn]
    have hoj : L1[j]? = some o := by
      rw [ho, ht, ← getD_fm, ← hL1, List.getD_eq_getElem?_getD, List.getElem?_eq_getElem (by omega)]; rfl
    rw [← hL1] at h3 HLs
    have hjI : (j : Int) < (n : Int) := by omega
    have HOj := Lib.hid hoj
    have HPt := Lib.hid (show ∀ W : World, W.heap[arr]? = some (.cells (flat4 L1).toArray 26 (0, 0)) → (W.setCells arr (j * 4) (words4 z)).heap[arr]? = some (.cells (flat4 (L1.set j z)).toArray 26 (0, 0)) from fun W h => NumsAt.store h (by omega) z)
    have HAr := Lib.hid h3
    have HSn := Lib.hid hsn
    have H1 := Lib.hid h1
    have H2 := Lib.hid h2
    have H5 := Lib.hid h4
    have HK : Hid (∀ A, Off (fun k => k = arr) W A → (A.cell? ⟨sb, 0, none⟩ = some (.slice (some ⟨arr, 0, none⟩) n n)) ∧ (A.cell? ⟨bf, 0, none⟩ = some (.int .i64 id) ∧ A.cell? ⟨bf, 1, none⟩ = some (.int .u64 (wd p 0 : Int)) ∧ A.cell? ⟨bf, 2, none⟩ = some (.int .u64 (wd p 1 : Int)) ∧ A.cell? ⟨bf, 3, none⟩ = some (.int .u64 (wd p 2 : Int)) ∧ A.cell? ⟨bf, 4, none⟩ = some (.int .u64 (wd p 3 : Int)) ∧ A.cell? ⟨bf, 5, none⟩ = some (.int .u64 (i0 : Int)) ∧ A.cell? ⟨bf, 6, none⟩ = some (.int .u64 (wd r 0 : Int)) ∧ A.cell? ⟨bf, 7, none⟩ = some (.int .u64 (wd r 1 : Int)) ∧ A.cell? ⟨bf, 8, none⟩ = some (.int .u64 (wd r 2 : Int)) ∧ A.cell? ⟨bf, 9, none⟩ = some (.int .u64 (wd r 3 : Int)) ∧ A.cell? ⟨bf, 10, none⟩ = some (.int .u64 (wd s 0 : Int)) ∧ A.cell? ⟨bf, 11, none⟩ = some (.int .u64 (wd s 1 : Int)) ∧ A.cell? ⟨bf, 12, none⟩ = some (.int .u64 (wd s 2 : Int)) ∧ A.cell? ⟨bf, 13, none⟩ = some (.int .u64 (wd s 3 : Int))) ∧ (A.cell? ⟨B, 0, none⟩ = some (.int .u64 (wd y 0 : Int)) ∧ A.cell? ⟨B, 1, none⟩ = some (.int .u64 (wd y 1 : Int)) ∧ A.cell? ⟨B, 2, none⟩ = some (.int .u64 (wd y 2 : Int)) ∧ A.cell? ⟨B, 3, none⟩ = some (.int .u64 (wd y 3 : Int))) ∧ Off (fun k => k = arr) W A) := Lib.hid (fun A h => ⟨cell_of_heap (h.heap h2 (by have hb := HBk.out; omega)) 0, fv_cells (h.heap h1 (by have hb := HBk.out; omega)), cells4 (h.heap hcB (by have hb := HBk.out; omega)), h⟩)
    clear h1 h2 h3 h4 hcB hz hy hv hj hseq hL hL1 hLn hsn ho ht hoj
    gi_wp2
    refine wpIn_region_inv (fun a0 l a' w' => ∃ (u32 : Value) (u33 : Value) (u34 : Value) (u35 : Value) (u36 : Value) (u37 : Value) (u38 : Value) (u39 : Value) (u40 : Value) (u41 : Value), a' = (Act.put (Act.put (Act.put (Act.put (Act.put (Act.put (Act.put (Act.put (Act.put (Act.put a0 (some 32) u32) (some 33) u33) (some 34) u34) (some 35) u35) (some 36) u36) (some 37) u37) (some 38) u38) (some 39) u39) (some 40) u40) (some 41) u41) ∧ Slot l 0 u32 (.slice (some ⟨arr, 0, none⟩) n n) ∧ Slot l 1 u33 (.int .i64 (j : Int)) ∧ Slot l 2 u34 (FV id p i0 r s) ∧ Slot l 3 u35 (V y) ∧ Slot l 4 u36 (.slice (some ⟨arr, 0, none⟩) n n) ∧ Slot l 5 u37 (.int .i64 (j : Int)) ∧ Slot l 6 u38 (.pointer (some ⟨arr, j * 4, none⟩)) ∧ Slot l 7 u39 (V o) ∧ Slot l 8 u40 (V z) ∧ Slot l 9 u41 (.pointer (some ⟨arr, j * 4, none⟩)) ∧ Old l 10 arr W w' (.cells (flat4 L1).toArray 26) (.cells (flat4 (L1.set j z)).toArray 26) ∧ Dep l 7 10 ∧ Off (fun k => k = arr) W w') (by kernel_rfl) (by kernel_rfl) (by kernel_rfl) ?_ ⟨?_, ?_, ?_, ?_, ?_, ?_, ?_, ?_, ?_, ?_, ?_, trivial⟩ ?_
    · refine ⟨?z32, ?z33, ?z34, ?z35, ?z36, ?z37, ?z38, ?z39, ?z40, ?z41, ?fr, Slot.start _ _ _, Slot.start _ _ _, Slot.start _ _ _, Slot.start _ _ _, Slot.start _ _ _, Slot.start _ _ _, Slot.start _ _ _, Slot.start _ _ _, Slot.start _ _ _, Slot.start _ _ _, Old.start HAr.out _ _, Dep.start _ _, (Off.refl _ W).drew⟩
      case fr => first | (simp only [Act.put, List.setIfInBounds_toArray, List.set_cons_zero, List.set_cons_succ]; rfl) | simp only [Act.put, List.setIfInBounds_toArray, List.set_cons_zero, List.set_cons_succ]
    · intro l a wr hI hl hd K' hK
      obtain ⟨u32, u33, u34, u35, u36, u37, u38, u39, u40, u41, ha, s0, s1, s2, s3, s4, s5, s6, s7, s8, s9, O0, P7_10, hO⟩ := hI
      simp only [Act.put, List.setIfInBounds_toArray, List.set_cons_zero, List.set_cons_succ] at ha
      subst ha
      have hc := HK.out wr hO
      have p0 := hc.1
      clear hc
      go_simp
      refine hK.out _ _ ⟨_, _, _, _, _, _, _, _, _, _, ?_, Slot.new _ _ _, s1.keep rfl, s2.keep rfl, s3.keep rfl, s4.keep rfl, s5.keep rfl, s6.keep rfl, s7.keep rfl, s8.keep rfl, s9.keep rfl, O0.keep (Off.refl _ wr) rfl, P7_10.keep rfl, hO⟩
      simp only [Act.put, List.setIfInBounds_toArray, List.set_cons_zero, List.set_cons_succ]
    · intro l a wr hI hl hd K' hK
      obtain ⟨u32, u33, u34, u35, u36, u37, u38, u39, u40, u41, ha, s0, s1, s2, s3, s4, s5, s6, s7, s8, s9, O0, P7_10, hO⟩ := hI
      simp only [Act.put, List.setIfInBounds_toArray, List.set_cons_zero, List.set_cons_succ] at ha
      subst ha
      go_simp
      refine hK.out _ _ ⟨_, _, _, _, _, _, _, _, _, _, ?_, s0.keep rfl, Slot.new _ _ _, s2.keep rfl, s3.keep rfl, s4.keep rfl, s5.keep rfl, s6.keep rfl, s7.keep rfl, s8.keep rfl, s9.keep rfl, O0.keep (Off.refl _ wr) rfl, P7_10.keep rfl, hO⟩
      simp only [Act.put, List.setIfInBounds_toArray, List.set_cons_zero, List.set_cons_succ]
    · intro l a wr hI hl hd K' hK
      obtain ⟨u32, u33, u34, u35, u36, u37, u38, u39, u40, u41, ha, s0, s1, s2, s3, s4, s5, s6, s7, s8, s9, O0, P7_10, hO⟩ := hI
      simp only [Act.put, List.setIfInBounds_toArray, List.set_cons_zero, List.set_cons_succ] at ha
      subst ha
      have hc := HK.out wr hO
      have p0 := hc.2.1.1
      have p1 := hc.2.1.2.1
      have p2 := hc.2.1.2.2.1
      have p3 := hc.2.1.2.2.2.1
      have p4 := hc.2.1.2.2.2.2.1
      have p5 := hc.2.1.2.2.2.2.2.1
      have p6 := hc.2.1.2.2.2.2.2.2.1
      have p7 := hc.2.1.2.2.2.2.2.2.2.1
      have p8 := hc.2.1.2.2.2.2.2.2.2.2.1
      have p9 := hc.2.1.2.2.2.2.2.2.2.2.2.1
      have p10 := hc.2.1.2.2.2.2.2.2.2.2.2.2.1
      have p11 := hc.2.1.2.2.2.2.2.2.2.2.2.2.2.1
      have p12 := hc.2.1.2.2.2.2.2.2.2.2.2.2.2.2.1
      have p13 := hc.2.1.2.2.2.2.2.2.2.2.2.2.2.2.2
      clear hc
      go_simp
      refine hK.out _ _ ⟨_, _, _, _, _, _, _, _, _, _, ?_, s0.keep rfl, s1.keep rfl, Slot.new _ _ _, s3.keep rfl, s4.keep rfl, s5.keep rfl, s6.keep rfl, s7.keep rfl, s8.keep rfl, s9.keep rfl, O0.keep (Off.refl _ wr) rfl, P7_10.keep rfl, hO⟩
      simp only [Act.put, List.setIfInBounds_toArray, List.set_cons_zero, List.set_cons_succ]
    · intro l a wr hI hl hd K' hK
      obtain ⟨u32, u33, u34, u35, u36, u37, u38, u39, u40, u41, ha, s0, s1, s2, s3, s4, s5, s6, s7, s8, s9, O0, P7_10, hO⟩ := hI
      simp only [Act.put, List.setIfInBounds_toArray, List.set_cons_zero, List.set_cons_succ] at ha
      subst ha
      have hc := HK.out wr hO
      have p0 := hc.2.2.1.1
      have p1 := hc.2.2.1.2.1
      have p2 := hc.2.2.1.2.2.1
      have p3 := hc.2.2.1.2.2.2
      clear hc
      go_simp
      refine hK.out _ _ ⟨_, _, _, _, _, _, _, _, _, _, ?_, s0.keep rfl, s1.keep rfl, s2.keep rfl, Slot.new _ _ _, s4.keep rfl, s5.keep rfl, s6.keep rfl, s7.keep rfl, s8.keep rfl, s9.keep rfl, O0.keep (Off.refl _ wr) rfl, P7_10.keep rfl, hO⟩
      simp only [Act.put, List.setIfInBounds_toArray, List.set_cons_zero, List.set_cons_succ]
    · intro l a wr hI hl hd K' hK
      obtain ⟨u32, u33, u34, u35, u36, u37, u38, u39, u40, u41, ha, s0, s1, s2, s3, s4, s5, s6, s7, s8, s9, O0, P7_10, hO⟩ := hI
      simp only [Act.put, List.setIfInBounds_toArray, List.set_cons_zero, List.set_cons_succ] at ha
      subst ha
      have hc := HK.out wr hO
      have p0 := hc.1
      clear hc
      go_simp
      refine hK.out _ _ ⟨_, _, _, _, _, _, _, _, _, _, ?_, s0.keep rfl, s1.keep rfl, s2.keep rfl, s3.keep rfl, Slot.new _ _ _, s5.keep rfl, s6.keep rfl, s7.keep rfl, s8.keep rfl, s9.keep rfl, O0.keep (Off.refl _ wr) rfl, P7_10.keep rfl, hO⟩
      simp only [Act.put, List.setIfInBounds_toArray, List.set_cons_zero, List.set_cons_succ]
    · intro l a wr hI hl hd K' hK
      obtain ⟨u32, u33, u34, u35, u36, u37, u38, u39, u40, u41, ha, s0, s1, s2, s3, s4, s5, s6, s7, s8, s9, O0, P7_10, hO⟩ := hI
      simp only [Act.put, List.setIfInBounds_toArray, List.set_cons_zero, List.set_cons_succ] at ha
      subst ha
      go_simp
      refine hK.out _ _ ⟨_, _, _, _, _, _, _, _, _, _, ?_, s0.keep rfl, s1.keep rfl, s2.keep rfl, s3.keep rfl, s4.keep rfl, Slot.new _ _ _, s6.keep rfl, s7.keep rfl, s8.keep rfl, s9.keep rfl, O0.keep (Off.refl _ wr) rfl, P7_10.keep rfl, hO⟩
      simp only [Act.put, List.setIfInBounds_toArray, List.set_cons_zero, List.set_cons_succ]
    · intro l a wr hI hl hd K' hK
      obtain ⟨u32, u33, u34, u35, u36, u37, u38, u39, u40, u41, ha, s0, s1, s2, s3, s4, s5, s6, s7, s8, s9, O0, P7_10, hO⟩ := hI
      simp only [Act.put, List.setIfInBounds_toArray, List.set_cons_zero, List.set_cons_succ] at ha
      have q4 := s4 (hd 4 (by decide))
      have q5 := s5 (hd 5 (by decide))
      subst ha q4 q5
      go_simp
      refine hK.out _ _ ⟨_, _, _, _, _, _, _, _, _, _, ?_, s0.keep rfl, s1.keep rfl, s2.keep rfl, s3.keep rfl, s4.keep rfl, s5.keep rfl, Slot.new _ _ _, s7.keep rfl, s8.keep rfl, s9.keep rfl, O0.keep (Off.refl _ wr) rfl, P7_10.keep rfl, hO⟩
      simp only [Act.put, List.setIfInBounds_toArray, List.set_cons_zero, List.set_cons_succ]
    · intro l a wr hI hl hd K' hK
      obtain ⟨u32, u33, u34, u35, u36, u37, u38, u39, u40, u41, ha, s0, s1, s2, s3, s4, s5, s6, s7, s8, s9, O0, P7_10, hO⟩ := hI
      simp only [Act.put, List.setIfInBounds_toArray, List.set_cons_zero, List.set_cons_succ] at ha
      have q6 := s6 (hd 6 (by decide))
      subst ha q6
      have hZ := O0.was (P7_10 hl)
      obtain ⟨p0, p1, p2, p3⟩ := NumsAt.cell hZ HOj.out
      clear hZ
      go_simp
      refine hK.out _ _ ⟨_, _, _, _, _, _, _, _, _, _, ?_, s0.keep rfl, s1.keep rfl, s2.keep rfl, s3.keep rfl, s4.keep rfl, s5.keep rfl, s6.keep rfl, Slot.new _ _ _, s8.keep rfl, s9.keep rfl, O0.keep (Off.refl _ wr) rfl, P7_10.keep rfl, hO⟩
      simp only [Act.put, List.setIfInBounds_toArray, List.set_cons_zero, List.set_cons_succ]
    · intro l a wr hI hl hd K' hK
      obtain ⟨u32, u33, u34, u35, u36, u37, u38, u39, u40, u41, ha, s0, s1, s2, s3, s4, s5, s6, s7, s8, s9, O0, P7_10, hO⟩ := hI
      simp only [Act.put, List.setIfInBounds_toArray, List.set_cons_zero, List.set_cons_succ] at ha
      have q2 := s2 (hd 2 (by decide))
      have q3 := s3 (hd 3 (by decide))
      have q7 := s7 (hd 7 (by decide))
      subst ha q2 q3 q7
      go_simp
      refine (held_inv (HAd.out wr) hO).mono ?_
      rintro e w1 ⟨rfl, hO1, hOW⟩
      go_wp2_with fail
      refine hK.out _ _ ⟨_, _, _, _, _, _, _, _, _, _, ?_, s0.keep rfl, s1.keep rfl, s2.keep rfl, s3.keep rfl, s4.keep rfl, s5.keep rfl, s6.keep rfl, s7.keep rfl, Slot.new _ _ _, s9.keep rfl, O0.keep hOW rfl, P7_10.keep rfl, hO1⟩
      simp only [Act.put, List.setIfInBounds_toArray, List.set_cons_zero, List.set_cons_succ]
    · intro l a wr hI hl hd K' hK
      obtain ⟨u32, u33, u34, u35, u36, u37, u38, u39, u40, u41, ha, s0, s1, s2, s3, s4, s5, s6, s7, s8, s9, O0, P7_10, hO⟩ := hI
      simp only [Act.put, List.setIfInBounds_toArray, List.set_cons_zero, List.set_cons_succ] at ha
      have q0 := s0 (hd 0 (by decide))
      have q1 := s1 (hd 1 (by decide))
      subst ha q0 q1
      go_simp
      refine hK.out _ _ ⟨_, _, _, _, _, _, _, _, _, _, ?_, s0.keep rfl, s1.keep rfl, s2.keep rfl, s3.keep rfl, s4.keep rfl, s5.keep rfl, s6.keep rfl, s7.keep rfl, s8.keep rfl, Slot.new _ _ _, O0.keep (Off.refl _ wr) rfl, P7_10.keep rfl, hO⟩
      simp only [Act.put, List.setIfInBounds_toArray, List.set_cons_zero, List.set_cons_succ]
    · intro l a wr hI hl hd K' hK
      obtain ⟨u32, u33, u34, u35, u36, u37, u38, u39, u40, u41, ha, s0, s1, s2, s3, s4, s5, s6, s7, s8, s9, O0, P7_10, hO⟩ := hI
      simp only [Act.put, List.setIfInBounds_toArray, List.set_cons_zero, List.set_cons_succ] at ha
      have q9 := s9 (hd 9 (by decide))
      have q8 := s8 (hd 8 (by decide))
      subst ha q9 q8
      have hZ := (O0.was hl)
      obtain ⟨m0, m1, m2, m3⟩ := NumsAt.cell hZ HOj.out
      have fz := fun j => NumsAt.frozen hZ j
      have lt := heap_lt hZ
      clear hZ
      go_simp
      refine hK.out _ _ ⟨_, _, _, _, _, _, _, _, _, _, ?_, s0.keep rfl, s1.keep rfl, s2.keep rfl, s3.keep rfl, s4.keep rfl, s5.keep rfl, s6.keep rfl, s7.keep rfl, s8.keep rfl, s9.keep rfl, O0.putAt (HPt.out wr) hl, Dep.at (hd 7 (by decide)), setCells_in_at hO (fun _ => rfl) (words4 z)⟩
      simp only [Act.put, List.setIfInBounds_toArray, List.set_cons_zero, List.set_cons_succ]
    · intro l a wc hI hd
      obtain ⟨u32, u33, u34, u35, u36, u37, u38, u39, u40, u41, ha, s0, s1, s2, s3, s4, s5, s6, s7, s8, s9, O0, P7_10, hO⟩ := hI
      simp only [Act.put, List.setIfInBounds_toArray, List.set_cons_zero, List.set_cons_succ] at ha
      have q0 := s0 (hd 0 (by decide))
      have q1 := s1 (hd 1 (by decide))
      have q2 := s2 (hd 2 (by decide))
      have q3 := s3 (hd 3 (by decide))
      have q4 := s4 (hd 4 (by decide))
      have q5 := s5 (hd 5 (by decide))
      have q6 := s6 (hd 6 (by decide))
      have q7 := s7 (hd 7 (by decide))
      have q8 := s8 (hd 8 (by decide))
      have q9 := s9 (hd 9 (by decide))
      have r0 : wc.heap[arr]? = some (.cells (flat4 (L1.set j z)).toArray 26) := O0.now (hd 10 (by decide))
      subst ha q0 q1 q2 q3 q4 q5 q6 q7 q8 q9
      clear hd s0 s1 s2 s3 s4 s5 s6 s7 s8 s9 O0 P7_10
      have hb := HBk.out
      refine ⟨rfl, hO, hO.heap H1.out (by omega), hO.heap H2.out (by omega), ?_, H5.out.trans hO (fun k hk e => by omega)⟩
      rw [HSn.out, HLs.out]
      exact r0
  case done =>
    rintro D ys A hD rfl ⟨h1, h2, h3, h4⟩ hP hK
    rw [show setF n (fun i u => (vs.getD i 0 + u) % p) (us ++ List.replicate (n - m) 0) (List.range n) = sumL p vs us by rw [HN.out, HN2.out]; exact add_done vs us (by have := HN.out; have := HN2.out; omega)] at h3
    have HAr := Lib.hid h3
    have HP := Lib.hid hP
    have HO := Lib.hid h4
    have m0 : A.cell? ⟨sb, 0, none⟩ = some (.slice (some ⟨arr, 0, none⟩) n n) := cell_of_heap h2 0
    clear h1 h2 h3 h4 hP hseq
    gi_wp2
    refine ⟨by simp, .inl ⟨_, _, rfl, run_takeDeferred hK, ?_⟩⟩
    have hb := HBk.out
    have hqD : Quiet w.heap.size S A (A.putObj D (.deferred none)) := Quiet.putObj _ _ (by omega)
    have hP9 := noted_put (o' := .deferred none) HP.out hK
    have hO10 : Off S w (A.putObj D (.deferred none)) := HO.out.later' hqD (Nat.le_refl _) (fun _ _ c => c)
    have s9 : NumsAt (A.putObj D (.deferred none)) arr 26 ((sumL p vs us).map (fm p)) := (World.putObj_heap_other (by omega)).trans HAr.out
    obtain ⟨S', t1, t2⟩ := hP9
    exact ⟨_, results_tmp rfl _ _ _, ⟨arr, rfl, by omega, s9, ⟨S', t1, fun k c => (t2 k c).imp (fun c => c) (fun d => by omega)⟩, hO10⟩⟩
set_option maxRecDepth 100000 in
set_option maxHeartbeats 4000000 in
theorem add_swap {id : Int} {p i0 r s : Nat} (hF : Fld id p i0 r s) (vs us : List Nat) (n cap m cap2 : Nat) (a a2 : Option Addr) (hn : n = vs.length) (hm : m = us.length) (hmn : m < n) (hn2 : n ≤ 10000) (q : Option Addr) (es : List Ev) (S Sl Sl2 : Nat → Prop) (w : World)
    (hL : LsAt w (.slice a n cap) (vs.map (fm p)) Sl) (hSl : ∀ b, Sl b → b < w.heap.size ∧ ¬ S b) (hL2 : LsAt w (.slice a2 m cap2) (us.map (fm p)) Sl2) (hS : Tp w q es S) (hl : es.length ≤ 70000) :
    Calls Tryd.prog 17 #[.pointer q, FV id p i0 r s, .slice a2 m cap2, .slice a n cap] w fun e w' => ∃ b, e = .returned (.slice (some ⟨b, 0, none⟩) n n) ∧ w.heap.size ≤ b ∧ NumsAt w' b 26 ((sumL p vs us).map (fm p)) ∧ Noted w.heap.size q es (coefU n (List.range n)) S w' ∧ Off S w w' := by
  refine (callsIn_wide (n := 6)).1 ?_
  refine callsIn_of_wp_marks Tryd.func17 rfl trivial ?_ rfl
  simp only [Tryd.ntmps17, List.size_toArray, List.length_cons, List.length_nil, Nat.reduceAdd, Nat.reduceSub, Array.replicate_succ, Array.replicate_zero, List.push_toArray, List.append_toArray, List.nil_append, List.cons_append]
  have hmx : Tryd.prog.follows .mixedOrders = true := by kernel_rfl
  have HM := Lib.hid (fun x y W => by have h := mmul_any hF (fm p x) (fm p y) (Nat.lt_trans (fm_lt hF.mp.pos _) hF.mp.lt) (fm_lt hF.mp.pos _) W; rw [mm_fm hF.mp] at h; exact h : ∀ x y W, Calls Tryd.prog 42 #[FV id p i0 r s, V (fm p x), V (fm p y)] W fun x' w' => x' = .returned (V (fm p (x * y % p))) ∧ Off (fun _ => False) W w')
  have HA := Lib.hid (fun x y W => by have h := madd_any hF (fm p x) (fm p y) (fm_lt hF.mp.pos _) (fm_lt hF.mp.pos _) W; rw [fm_add] at h; exact h : ∀ x y W, Calls Tryd.prog 41 #[FV id p i0 r s, V (fm p x), V (fm p y)] W fun x' w' => x' = .returned (V (fm p ((x + y) % p))) ∧ Off (fun _ => False) W w')
  have hmk := run_make_el n (by omega)
  obtain ⟨W4, hcp, g_arr, hO3, hs4a⟩ := copy_el (w := (((w.alloc (.cells #[.int .i64 id, .int .u64 (wd p 0 : Int), .int .u64 (wd p 1 : Int), .int .u64 (wd p 2 : Int), .int .u64 (wd p 3 : Int), .int .u64 (i0 : Int), .int .u64 (wd r 0 : Int), .int .u64 (wd r 1 : Int), .int .u64 (wd r 2 : Int), .int .u64 (wd r 3 : Int), .int .u64 (wd s 0 : Int), .int .u64 (wd s 1 : Int), .int .u64 (wd s 2 : Int), .int .u64 (wd s 3 : Int)] 28)).alloc (.cells (flat4 (List.replicate n 0)).toArray 26)).alloc (.cells #[.slice (some ⟨w.heap.size + 1, 0, none⟩) n n] 31))) (b := w.heap.size + 1) (n := n) (dcap := n) (m := m) (c := cap2) (a := a2) (xs := us.map (fm p)) (ys := List.replicate n 0) (hL2.off ((((Off.refl _ w).alloc _).alloc _).alloc _ : Off (fun _ => False) w _) (fun _ _ _ c => c)) (heap_old' (heap_new' (by simp) _) _) (by simp) (by omega)
  rw [List.drop_replicate] at g_arr
  have g_bf : W4.heap[w.heap.size]? = some (.cells #[.int .i64 id, .int .u64 (wd p 0 : Int), .int .u64 (wd p 1 : Int), .int .u64 (wd p 2 : Int), .int .u64 (wd p 3 : Int), .int .u64 (i0 : Int), .int .u64 (wd r 0 : Int), .int .u64 (wd r 1 : Int), .int .u64 (wd r 2 : Int), .int .u64 (wd r 3 : Int), .int .u64 (wd s 0 : Int), .int .u64 (wd s 1 : Int), .int .u64 (wd s 2 : Int), .int .u64 (wd s 3 : Int)] 28 (0, 0)) := hO3.heap (heap_old' (heap_old' (heap_new' rfl _) _) _) (by omega)
  have g_sb : W4.heap[w.heap.size + 1 + 1]? = some (.cells #[.slice (some ⟨w.heap.size + 1, 0, none⟩) n n] 31 (0, 0)) := hO3.heap (heap_new' (by simp) _) (by omega)
  have hO4 : Off (fun _ => False) w W4 := ((((Off.refl _ w).alloc _).alloc _).alloc _ : Off (fun _ => False) w _).trans hO3 (fun k hk e => by subst e; omega)
  have hs4 : W4.heap.size = w.heap.size + 1 + 1 + 1 := by rw [hs4a]; simp
  clear hs4a
  have hc1 : decide ((m : Int) < (n : Int)) = true := by simp; omega
  have hc2 : ((m : Int) < (n : Int)) := by omega
  have HF := Lib.hid hF
  have HN := Lib.hid hn
  have HN2 := Lib.hid hm
  have HL := Lib.hid hL
  have HSl := Lib.hid hSl
  have HS := Lib.hid hS
  have HS4 := Lib.hid hs4
  clear hF hn hm hL hSl hS hO3 hL2
  have hOr := fun w => eall_in (6 - 1) a n cap w
  have hCo := fun w => callsIn_wide (n := 6 - 1).2 (coefs_any q w)
  have hNo := fun lb tb w => callsIn_wide (n := 6 - 1).2 (noted_any (.func (.func 62) #[] #[.pointer (some ⟨lb, 0, none⟩)]) (.func (.func 57) #[] #[.pointer (some ⟨tb, 0, none⟩)]) w ⟨_, _, rfl⟩ ⟨_, _, rfl⟩)
  gi_wp2_with (first | (gi_at_call 44; refine (hOr _).mono ?_; rintro e w' ⟨rfl, rfl⟩) | (gi_at_call 40; refine (hCo _).mono ?_; rintro e w' ⟨rfl, rfl⟩) | (gi_at_call 38; refine (hNo _ _ _).mono ?_; rintro e w' ⟨rfl, rfl⟩))
  clear hOr hCo hNo
  clear hmk hcp hc1 hc2
  obtain ⟨W8, hW8⟩ : ∃ W8, W8 = (((W4.alloc (.cells #[.slice a n cap] 31)).alloc (.cells #[.pointer q] 47)).alloc (.cells #[.func (.func 62) #[] #[.pointer (some ⟨w.heap.size + 1 + 1 + 1, 0, none⟩)]] 66)).alloc (.cells #[.func (.func 57) #[] #[.pointer (some ⟨w.heap.size + 1 + 1 + 1 + 1, 0, none⟩)]] 69) := ⟨_, rfl⟩
  have hOW8 : Off (fun _ => False) W4 W8 := by rw [hW8]; exact ((((Off.refl _ W4).alloc _).alloc _).alloc _).alloc _
  have g_lb : W8.heap[w.heap.size + 1 + 1 + 1]? = some (.cells #[.slice a n cap] 31 (0, 0)) := by rw [hW8]; exact heap_old' (heap_old' (heap_old' (heap_new' (by simp [hs4]) _) _) _) _
  have g_tb : W8.heap[w.heap.size + 1 + 1 + 1 + 1]? = some (.cells #[.pointer q] 47 (0, 0)) := by rw [hW8]; exact heap_old' (heap_old' (heap_new' (by simp [hs4]) _) _) _
  have g_ob : W8.heap[w.heap.size + 1 + 1 + 1 + 1 + 1]? = some (.cells #[.func (.func 62) #[] #[.pointer (some ⟨w.heap.size + 1 + 1 + 1, 0, none⟩)]] 66 (0, 0)) := by rw [hW8]; exact heap_old' (heap_new' (by simp [hs4]) _) _
  have g_nb : W8.heap[w.heap.size + 1 + 1 + 1 + 1 + 1 + 1]? = some (.cells #[.func (.func 57) #[] #[.pointer (some ⟨w.heap.size + 1 + 1 + 1 + 1, 0, none⟩)]] 69 (0, 0)) := by rw [hW8]; exact heap_new' (by simp [hs4]) _
  have hsW8 : W8.heap.size = w.heap.size + 1 + 1 + 1 + 1 + 1 + 1 + 1 := by rw [hW8]; simp [hs4]
  rw [← hW8]
  obtain ⟨nb, e_nb⟩ : ∃ nb, nb = w.heap.size + 1 + 1 + 1 + 1 + 1 + 1 := ⟨_, rfl⟩
  rw [← e_nb] at g_nb ⊢
  obtain ⟨ob, e_ob⟩ : ∃ ob, ob = w.heap.size + 1 + 1 + 1 + 1 + 1 := ⟨_, rfl⟩
  rw [← e_ob] at g_ob ⊢
  obtain ⟨tb, e_tb⟩ : ∃ tb, tb = w.heap.size + 1 + 1 + 1 + 1 := ⟨_, rfl⟩
  rw [← e_tb] at g_tb g_nb ⊢
  obtain ⟨lb, e_lb⟩ : ∃ lb, lb = w.heap.size + 1 + 1 + 1 := ⟨_, rfl⟩
  rw [← e_lb] at g_lb g_ob ⊢
  have HBk := Lib.hid (show lb = w.heap.size + 1 + 1 + 1 ∧ tb = w.heap.size + 1 + 1 + 1 + 1 ∧ ob = w.heap.size + 1 + 1 + 1 + 1 + 1 ∧ nb = w.heap.size + 1 + 1 + 1 + 1 + 1 + 1 ∧ W8.heap.size = w.heap.size + 1 + 1 + 1 + 1 + 1 + 1 + 1 from ⟨e_lb, e_tb, e_ob, e_nb, hsW8⟩)
  clear hW8 hsW8 e_lb e_tb e_ob e_nb
  have g_bf := hOW8.heap g_bf (fun c => c)
  have g_sb := hOW8.heap g_sb (fun c => c)
  have g_arr := g_arr.off hOW8 (fun c => c)
  have hOW8 := hO4.trans hOW8 (fun _ _ c => c)
  clear hO4 hs4
  obtain ⟨sb, e_sb⟩ : ∃ sb, sb = w.heap.size + 1 + 1 := ⟨_, rfl⟩
  rw [← e_sb] at g_sb ⊢
  obtain ⟨arr, e_arr⟩ : ∃ arr, arr = w.heap.size + 1 := ⟨_, rfl⟩
  rw [← e_arr] at g_sb g_arr ⊢
  obtain ⟨bf, e_bf⟩ : ∃ bf, bf = w.heap.size := ⟨_, rfl⟩
  have HBk2 := Lib.hid (show bf = w.heap.size ∧ arr = w.heap.size + 1 ∧ sb = w.heap.size + 1 + 1 ∧ lb = w.heap.size + 1 + 1 + 1 ∧ tb = w.heap.size + 1 + 1 + 1 + 1 ∧ ob = w.heap.size + 1 + 1 + 1 + 2 ∧ nb = w.heap.size + 1 + 1 + 1 + 3 ∧ W8.heap.size = w.heap.size + 1 + 1 + 1 + 4 by have hb := HBk.out; have := HS4.out; omega)
  clear HBk
  have HBk := HBk2
  clear HBk2
  rw [← e_bf] at g_bf ⊢
  have hSw := (fun k c => by have := HS.out.2 k c; omega : ∀ k, S k → k < w.heap.size)
  have hT8 := HS.out.off0 hOW8
  have hnot : ∀ k, w.heap.size ≤ k → ¬ S k := fun k h c => by have := hSw k c; omega
  have hseq := coefs_told (n := 6 - 1) (by omega) ob nb tb 62 #[.pointer (some ⟨lb, 0, none⟩)] (enters_of Tryd.func62 (by kernel_rfl) rfl) (fun x => x % n) (fun x => fm p (vs.getD (x % n) 0)) (fun W => Rl lb (.slice a n cap) (vs.map (fm p)) Sl W) (fun ys => ys = List.range n) (fun pre => ∃ k, k ≤ n ∧ pre = List.range k) n
    (fun W hW => by have h := eall_stops (6 - 1 - 1) (by omega) lb a n cap (vs.map (fm p)) Sl W hW; simp only [List.length_map, getD_fm, ← HN.out] at h; exact h)
    [(ob, Obj.cells #[.func (.func 62) #[] #[.pointer (some ⟨lb, 0, none⟩)]] 66 (0, 0)), (nb, Obj.cells #[.func (.func 57) #[] #[.pointer (some ⟨tb, 0, none⟩)]] 69 (0, 0)), (tb, Obj.cells #[.pointer q] 47 (0, 0))] q es S (fun k => k = arr) W8
    (by simp) (by simp) (by simp)
    (by
      have hb := HBk.out
      simp only [List.mem_cons, List.not_mem_nil, or_false, forall_eq_or_imp, forall_eq]
      exact ⟨⟨g_ob, hnot _ (by omega), by omega⟩, ⟨g_nb, hnot _ (by omega), by omega⟩, ⟨g_tb, hnot _ (by omega), by omega⟩⟩)
    (fun k c => by have c : k = arr := c; have hb := HBk.out; exact ⟨by omega, hnot _ (by omega)⟩) ⟨g_lb, HL.out.off hOW8 (fun _ _ _ c => c)⟩
    (fun A B h hq => by
      have hb := HBk.out
      exact h.quiet hq ⟨by omega, fun c => c.elim (hnot _ (by omega)) (by omega)⟩ (fun k c => ⟨by have := (HSl.out k c).1; omega, fun d => d.elim (HSl.out k c).2 (fun e => by have := (HSl.out k c).1; omega)⟩))
    hT8 (by omega)
  have HNot := Lib.hid hnot
  clear e_sb e_arr e_bf HS4
  have h80 : W8.heap[bf]? = some (.cells #[.int .i64 id, .int .u64 (wd p 0 : Int), .int .u64 (wd p 1 : Int), .int .u64 (wd p 2 : Int), .int .u64 (wd p 3 : Int), .int .u64 (i0 : Int), .int .u64 (wd r 0 : Int), .int .u64 (wd r 1 : Int), .int .u64 (wd r 2 : Int), .int .u64 (wd r 3 : Int), .int .u64 (wd s 0 : Int), .int .u64 (wd s 1 : Int), .int .u64 (wd s 2 : Int), .int .u64 (wd s 3 : Int)] 28 (0, 0)) ∧ W8.heap[sb]? = some (.cells #[.slice (some ⟨arr, 0, none⟩) n n] 31 (0, 0)) ∧ W8.heap[arr]? = some (.cells (flat4 ((setF n (fun i u => (vs.getD i 0 + u) % p) (us ++ List.replicate (n - m) 0) []).map (fm p))).toArray 26 (0, 0)) ∧ Off S w W8 := ⟨g_bf, g_sb, by rw [show setF n (fun i u => (vs.getD i 0 + u) % p) (us ++ List.replicate (n - m) 0) [] = (us ++ List.replicate (n - m) 0) from rfl, List.map_append, List.map_replicate, fm_zero]; exact g_arr, hOW8.mono (fun _ _ c => c.elim)⟩
  have H80 := Lib.hid h80
  clear h80 g_bf g_arr g_sb g_lb g_tb g_ob g_nb hT8 hOW8 hnot hSw
  refine rangeFunc_told (n := 6) (by omega) (gf := 55) (lb := #[.pointer (some ⟨ob, 0, none⟩), .pointer (some ⟨nb, 0, none⟩)]) rfl (enters_of Tryd.func55 (by kernel_rfl) rfl) hseq
    (fun xs A B h hq hc => noted_cells h hq hc) (fun _ => by rfl)
    (fun pre W => W.heap[bf]? = some (.cells #[.int .i64 id, .int .u64 (wd p 0 : Int), .int .u64 (wd p 1 : Int), .int .u64 (wd p 2 : Int), .int .u64 (wd p 3 : Int), .int .u64 (i0 : Int), .int .u64 (wd r 0 : Int), .int .u64 (wd r 1 : Int), .int .u64 (wd r 2 : Int), .int .u64 (wd r 3 : Int), .int .u64 (wd s 0 : Int), .int .u64 (wd s 1 : Int), .int .u64 (wd s 2 : Int), .int .u64 (wd s 3 : Int)] 28 (0, 0)) ∧ W.heap[sb]? = some (.cells #[.slice (some ⟨arr, 0, none⟩) n n] 31 (0, 0)) ∧ W.heap[arr]? = some (.cells (flat4 ((setF n (fun i u => (vs.getD i 0 + u) % p) (us ++ List.replicate (n - m) 0) pre).map (fm p))).toArray 26 (0, 0)) ∧ Off S w W) ?hI ?h0
    (fun x a' W => ∃ B, W.heap[B]? = some (.cells #[.int .u64 (wd (fm p (vs.getD (x % n) 0)) 0 : Int), .int .u64 (wd (fm p (vs.getD (x % n) 0)) 1 : Int), .int .u64 (wd (fm p (vs.getD (x % n) 0)) 2 : Int), .int .u64 (wd (fm p (vs.getD (x % n) 0)) 3 : Int)] 26 (0, 0)) ∧ nb < B ∧ a' = { tmps := #[.pointer q, FV id p i0 r s, .slice a n cap, .slice a2 m cap2, undef, .pointer (some ⟨bf, 0, none⟩), undef, undef, .slice none 0 0, .pointer (some ⟨sb, 0, none⟩), .int .i64 ((x % n : Nat) : Int), .pointer (some ⟨B, 0, none⟩), .slice a2 m cap2, .int .i64 (m : Int), .slice a n cap, .int .i64 (n : Int), .bool true, .slice a n cap, .slice a2 m cap2, .slice a n cap, .int .i64 (n : Int), .slice (some ⟨arr, 0, none⟩) n n, .slice (some ⟨arr, 0, none⟩) n n, .slice a2 m cap2, .int .i64 (m : Int), .slice a n cap, .func (.func 62) #[] #[.pointer (some ⟨lb, 0, none⟩)], .pointer q, .func (.func 57) #[] #[.pointer (some ⟨tb, 0, none⟩)], .func (.func 55) #[] #[.pointer (some ⟨ob, 0, none⟩), .pointer (some ⟨nb, 0, none⟩)], .int .i64 ((x % n : Nat) : Int), V (fm p (vs.getD (x % n) 0)), undef, undef, undef, undef, undef, undef, undef, undef, undef, undef, undef], defers := [] })
    (fun x a' A l o' h hc => by obtain ⟨B, h1, h2, h3⟩ := h; exact ⟨B, hc _ _ _ _ h1, h2, h3⟩)
    ?assign ?body ?done
  case hI =>
    rintro pre A B ⟨h1, h2, h3, h4⟩ hq
    have hb := HBk.out
    exact ⟨hq.block _ _ (by omega) (HNot.out _ (by omega)) h1, hq.block _ _ (by omega) (HNot.out _ (by omega)) h2, hq.block _ _ (by omega) (HNot.out _ (by omega)) h3, h4.later' hq (by omega) (fun k _ c => c)⟩
  case h0 => exact H80.out
  case assign =>
    rintro l pre k W K hsz _ hK
    obtain ⟨j, hj⟩ : ∃ j, j = k % n := ⟨_, rfl⟩
    obtain ⟨y, hy⟩ : ∃ y, y = fm p (vs.getD (k % n) 0) := ⟨_, rfl⟩
    rw [← hy, ← hj] at hK
    rw [← hy, ← hj]
    have hlt : nb < W.heap.size := by have hb := HBk.out; omega
    clear hy hj hseq 
    gi_wp2
    exact hK _ _ ((Off.refl _ W).alloc _) ⟨W.heap.size, World.alloc_heap_new W _, hlt, rfl⟩
  case body =>
    rintro l pre k a' W _ _ ⟨h1, h2, h3, h4⟩ ⟨B, hcB, hBt, rfl⟩ hlen
    obtain ⟨j, hj⟩ : ∃ j, j = k % n := ⟨_, rfl⟩
    obtain ⟨v, hv⟩ : ∃ v, v = vs.getD (k % n) 0 := ⟨_, rfl⟩
    have hjn : j < n := by rw [hj]; first | omega | exact Nat.mod_lt _ (by omega)
    rw [← hv, ← hj]
    rw [← hv] at hcB
    obtain ⟨y, hy⟩ : ∃ y, y = fm p v := ⟨_, rfl⟩
    rw [← hy]
    rw [← hy] at hcB
    obtain ⟨L, hL⟩ : ∃ L, L = setF n (fun i u => (vs.getD i 0 + u) % p) (us ++ List.replicate (n - m) 0) pre := ⟨_, rfl⟩
    have hLn : L.length = n := by rw [hL, setF_length, List.length_append, List.length_replicate]; have := HN2.out; omega
    obtain ⟨t, ht⟩ : ∃ t, t = L.getD j 0 := ⟨_, rfl⟩
    have hsn : setF n (fun i u => (vs.getD i 0 + u) % p) (us ++ List.replicate (n - m) 0) (pre ++ [k]) = L.set j ((v + t) % p) := by rw [setF_snoc, ← hL, ← hj, ← ht, hv, hj]
    rw [← hL] at h3
    obtain ⟨z, hz⟩ : ∃ z, z = fm p ((v + t) % p) := ⟨_, rfl⟩
    obtain ⟨o, ho⟩ : ∃ o, o = fm p t := ⟨_, rfl⟩
    have HAd := Lib.hid (show ∀ W, Calls Tryd.prog 41 #[FV id p i0 r s, V y, V o] W fun x' w' => x' = .returned (V z) ∧ Off (fun _ => False) W w' from fun W => by rw [hy, ho, hz]; exact HA.out _ _ W)
    have HLs := Lib.hid (show (L.set j ((v + t) % p)).map (fm p) = (L.map (fm p)).set j z by rw [List.map_set, hz])
    obtain ⟨L1, hL1⟩ : ∃ L1, L1 = L.map (fm p) := ⟨_, rfl⟩
    have hL1n : L1.length = n := by rw [hL1, List.length_map, hLn]
    have hoj : L1[j]? = some o := by
      rw [ho, ht, ← getD_fm, ← hL1, List.getD_eq_getElem?_getD, List.getElem?_eq_getElem (by omega)]; rfl
    rw [← hL1] at h3 HLs
    have hjI : (j : Int) < (n : Int) := by omega
    have HOj := Lib.hid hoj
    have HPt := Lib.hid (show ∀ W : World, W.heap[arr]? = some (.cells (flat4 L1).toArray 26 (0, 0)) → (W.setCells arr (j * 4) (words4 z)).heap[arr]? = some (.cells (flat4 (L1.set j z)).toArray 26 (0, 0)) from fun W h => NumsAt.store h (by omega) z)
    have HAr := Lib.hid h3
    have HSn := Lib.hid hsn
    have H1 := Lib.hid h1
    have H2 := Lib.hid h2
    have H5 := Lib.hid h4
    have HK : Hid (∀ A, Off (fun k => k = arr) W A → (A.cell? ⟨sb, 0, none⟩ = some (.slice (some ⟨arr, 0, none⟩) n n)) ∧ (A.cell? ⟨bf, 0, none⟩ = some (.int .i64 id) ∧ A.cell? ⟨bf, 1, none⟩ = some (.int .u64 (wd p 0 : Int)) ∧ A.cell? ⟨bf, 2, none⟩ = some (.int .u64 (wd p 1 : Int)) ∧ A.cell? ⟨bf, 3, none⟩ = some (.int .u64 (wd p 2 : Int)) ∧ A.cell? ⟨bf, 4, none⟩ = some (.int .u64 (wd p 3 : Int)) ∧ A.cell? ⟨bf, 5, none⟩ = some (.int .u64 (i0 : Int)) ∧ A.cell? ⟨bf, 6, none⟩ = some (.int .u64 (wd r 0 : Int)) ∧ A.cell? ⟨bf, 7, none⟩ = some (.int .u64 (wd r 1 : Int)) ∧ A.cell? ⟨bf, 8, none⟩ = some (.int .u64 (wd r 2 : Int)) ∧ A.cell? ⟨bf, 9, none⟩ = some (.int .u64 (wd r 3 : Int)) ∧ A.cell? ⟨bf, 10, none⟩ = some (.int .u64 (wd s 0 : Int)) ∧ A.cell? ⟨bf, 11, none⟩ = some (.int .u64 (wd s 1 : Int)) ∧ A.cell? ⟨bf, 12, none⟩ = some (.int .u64 (wd s 2 : Int)) ∧ A.cell? ⟨bf, 13, none⟩ = some (.int .u64 (wd s 3 : Int))) ∧ (A.cell? ⟨B, 0, none⟩ = some (.int .u64 (wd y 0 : Int)) ∧ A.cell? ⟨B, 1, none⟩ = some (.int .u64 (wd y 1 : Int)) ∧ A.cell? ⟨B, 2, none⟩ = some (.int .u64 (wd y 2 : Int)) ∧ A.cell? ⟨B, 3, none⟩ = some (.int .u64 (wd y 3 : Int))) ∧ Off (fun k => k = arr) W A) := Lib.hid (fun A h => ⟨cell_of_heap (h.heap h2 (by have hb := HBk.out; omega)) 0, fv_cells (h.heap h1 (by have hb := HBk.out; omega)), cells4 (h.heap hcB (by have hb := HBk.out; omega)), h⟩)
    clear h1 h2 h3 h4 hcB hz hy hv hj hseq hL hL1 hLn hsn ho ht hoj
    gi_wp2
    refine wpIn_region_inv (fun a0 l a' w' => ∃ (u32 : Value) (u33 : Value) (u34 : Value) (u35 : Value) (u36 : Value) (u37 : Value) (u38 : Value) (u39 : Value) (u40 : Value) (u41 : Value), a' = (Act.put (Act.put (Act.put (Act.put (Act.put (Act.put (Act.put (Act.put (Act.put (Act.put a0 (some 32) u32) (some 33) u33) (some 34) u34) (some 35) u35) (some 36) u36) (some 37) u37) (some 38) u38) (some 39) u39) (some 40) u40) (some 41) u41) ∧ Slot l 0 u32 (.slice (some ⟨arr, 0, none⟩) n n) ∧ Slot l 1 u33 (.int .i64 (j : Int)) ∧ Slot l 2 u34 (FV id p i0 r s) ∧ Slot l 3 u35 (V y) ∧ Slot l 4 u36 (.slice (some ⟨arr, 0, none⟩) n n) ∧ Slot l 5 u37 (.int .i64 (j : Int)) ∧ Slot l 6 u38 (.pointer (some ⟨arr, j * 4, none⟩)) ∧ Slot l 7 u39 (V o) ∧ Slot l 8 u40 (V z) ∧ Slot l 9 u41 (.pointer (some ⟨arr, j * 4, none⟩)) ∧ Old l 10 arr W w' (.cells (flat4 L1).toArray 26) (.cells (flat4 (L1.set j z)).toArray 26) ∧ Dep l 7 10 ∧ Off (fun k => k = arr) W w') (by kernel_rfl) (by kernel_rfl) (by kernel_rfl) ?_ ⟨?_, ?_, ?_, ?_, ?_, ?_, ?_, ?_, ?_, ?_, ?_, trivial⟩ ?_
    · refine ⟨?z32, ?z33, ?z34, ?z35, ?z36, ?z37, ?z38, ?z39, ?z40, ?z41, ?fr, Slot.start _ _ _, Slot.start _ _ _, Slot.start _ _ _, Slot.start _ _ _, Slot.start _ _ _, Slot.start _ _ _, Slot.start _ _ _, Slot.start _ _ _, Slot.start _ _ _, Slot.start _ _ _, Old.start HAr.out _ _, Dep.start _ _, (Off.refl _ W).drew⟩
      case fr => first | (simp only [Act.put, List.setIfInBounds_toArray, List.set_cons_zero, List.set_cons_succ]; rfl) | simp only [Act.put, List.setIfInBounds_toArray, List.set_cons_zero, List.set_cons_succ]
    · intro l a wr hI hl hd K' hK
      obtain ⟨u32, u33, u34, u35, u36, u37, u38, u39, u40, u41, ha, s0, s1, s2, s3, s4, s5, s6, s7, s8, s9, O0, P7_10, hO⟩ := hI
      simp only [Act.put, List.setIfInBounds_toArray, List.set_cons_zero, List.set_cons_succ] at ha
      subst ha
      have hc := HK.out wr hO
      have p0 := hc.1
      clear hc
      go_simp
      refine hK.out _ _ ⟨_, _, _, _, _, _, _, _, _, _, ?_, Slot.new _ _ _, s1.keep rfl, s2.keep rfl, s3.keep rfl, s4.keep rfl, s5.keep rfl, s6.keep rfl, s7.keep rfl, s8.keep rfl, s9.keep rfl, O0.keep (Off.refl _ wr) rfl, P7_10.keep rfl, hO⟩
      simp only [Act.put, List.setIfInBounds_toArray, List.set_cons_zero, List.set_cons_succ]
    · intro l a wr hI hl hd K' hK
      obtain ⟨u32, u33, u34, u35, u36, u37, u38, u39, u40, u41, ha, s0, s1, s2, s3, s4, s5, s6, s7, s8, s9, O0, P7_10, hO⟩ := hI
      simp only [Act.put, List.setIfInBounds_toArray, List.set_cons_zero, List.set_cons_succ] at ha
      subst ha
      go_simp
      refine hK.out _ _ ⟨_, _, _, _, _, _, _, _, _, _, ?_, s0.keep rfl, Slot.new _ _ _, s2.keep rfl, s3.keep rfl, s4.keep rfl, s5.keep rfl, s6.keep rfl, s7.keep rfl, s8.keep rfl, s9.keep rfl, O0.keep (Off.refl _ wr) rfl, P7_10.keep rfl, hO⟩
      simp only [Act.put, List.setIfInBounds_toArray, List.set_cons_zero, List.set_cons_succ]
    · intro l a wr hI hl hd K' hK
      obtain ⟨u32, u33, u34, u35, u36, u37, u38, u39, u40, u41, ha, s0, s1, s2, s3, s4, s5, s6, s7, s8, s9, O0, P7_10, hO⟩ := hI
      simp only [Act.put, List.setIfInBounds_toArray, List.set_cons_zero, List.set_cons_succ] at ha
      subst ha
      have hc := HK.out wr hO
      have p0 := hc.2.1.1
      have p1 := hc.2.1.2.1
      have p2 := hc.2.1.2.2.1
      have p3 := hc.2.1.2.2.2.1
      have p4 := hc.2.1.2.2.2.2.1
      have p5 := hc.2.1.2.2.2.2.2.1
      have p6 := hc.2.1.2.2.2.2.2.2.1
      have p7 := hc.2.1.2.2.2.2.2.2.2.1
      have p8 := hc.2.1.2.2.2.2.2.2.2.2.1
      have p9 := hc.2.1.2.2.2.2.2.2.2.2.2.1
      have p10 := hc.2.1.2.2.2.2.2.2.2.2.2.2.1
      have p11 := hc.2.1.2.2.2.2.2.2.2.2.2.2.2.1
      have p12 := hc.2.1.2.2.2.2.2.2.2.2.2.2.2.2.1
      have p13 := hc.2.1.2.2.2.2.2.2.2.2.2.2.2.2.2
      clear hc
      go_simp
      refine hK.out _ _ ⟨_, _, _, _, _, _, _, _, _, _, ?_, s0.keep rfl, s1.keep rfl, Slot.new _ _ _, s3.keep rfl, s4.keep rfl, s5.keep rfl, s6.keep rfl, s7.keep rfl, s8.keep rfl, s9.keep rfl, O0.keep (Off.refl _ wr) rfl, P7_10.keep rfl, hO⟩
      simp only [Act.put, List.setIfInBounds_toArray, List.set_cons_zero, List.set_cons_succ]
    · intro l a wr hI hl hd K' hK
      obtain ⟨u32, u33, u34, u35, u36, u37, u38, u39, u40, u41, ha, s0, s1, s2, s3, s4, s5, s6, s7, s8, s9, O0, P7_10, hO⟩ := hI
      simp only [Act.put, List.setIfInBounds_toArray, List.set_cons_zero, List.set_cons_succ] at ha
      subst ha
      have hc := HK.out wr hO
      have p0 := hc.2.2.1.1
      have p1 := hc.2.2.1.2.1
      have p2 := hc.2.2.1.2.2.1
      have p3 := hc.2.2.1.2.2.2
      clear hc
      go_simp
      refine hK.out _ _ ⟨_, _, _, _, _, _, _, _, _, _, ?_, s0.keep rfl, s1.keep rfl, s2.keep rfl, Slot.new _ _ _, s4.keep rfl, s5.keep rfl, s6.keep rfl, s7.keep rfl, s8.keep rfl, s9.keep rfl, O0.keep (Off.refl _ wr) rfl, P7_10.keep rfl, hO⟩
      simp only [Act.put, List.setIfInBounds_toArray, List.set_cons_zero, List.set_cons_succ]
    · intro l a wr hI hl hd K' hK
      obtain ⟨u32, u33, u34, u35, u36, u37, u38, u39, u40, u41, ha, s0, s1, s2, s3, s4, s5, s6, s7, s8, s9, O0, P7_10, hO⟩ := hI
      simp only [Act.put, List.setIfInBounds_toArray, List.set_cons_zero, List.set_cons_succ] at ha
      subst ha
      have hc := HK.out wr hO
      have p0 := hc.1
      clear hc
      go_simp
      refine hK.out _ _ ⟨_, _, _, _, _, _, _, _, _, _, ?_, s0.keep rfl, s1.keep rfl, s2.keep rfl, s3.keep rfl, Slot.new _ _ _, s5.keep rfl, s6.keep rfl, s7.keep rfl, s8.keep rfl, s9.keep rfl, O0.keep (Off.refl _ wr) rfl, P7_10.keep rfl, hO⟩
      simp only [Act.put, List.setIfInBounds_toArray, List.set_cons_zero, List.set_cons_succ]
    · intro l a wr hI hl hd K' hK
      obtain ⟨u32, u33, u34, u35, u36, u37, u38, u39, u40, u41, ha, s0, s1, s2, s3, s4, s5, s6, s7, s8, s9, O0, P7_10, hO⟩ := hI
      simp only [Act.put, List.setIfInBounds_toArray, List.set_cons_zero, List.set_cons_succ] at ha
      subst ha
      go_simp
      refine hK.out _ _ ⟨_, _, _, _, _, _, _, _, _, _, ?_, s0.keep rfl, s1.keep rfl, s2.keep rfl, s3.keep rfl, s4.keep rfl, Slot.new _ _ _, s6.keep rfl, s7.keep rfl, s8.keep rfl, s9.keep rfl, O0.keep (Off.refl _ wr) rfl, P7_10.keep rfl, hO⟩
      simp only [Act.put, List.setIfInBounds_toArray, List.set_cons_zero, List.set_cons_succ]
    · intro l a wr hI hl hd K' hK
      obtain ⟨u32, u33, u34, u35, u36, u37, u38, u39, u40, u41, ha, s0, s1, s2, s3, s4, s5, s6, s7, s8, s9, O0, P7_10, hO⟩ := hI
      simp only [Act.put, List.setIfInBounds_toArray, List.set_cons_zero, List.set_cons_succ] at ha
      have q4 := s4 (hd 4 (by decide))
      have q5 := s5 (hd 5 (by decide))
      subst ha q4 q5
      go_simp
      refine hK.out _ _ ⟨_, _, _, _, _, _, _, _, _, _, ?_, s0.keep rfl, s1.keep rfl, s2.keep rfl, s3.keep rfl, s4.keep rfl, s5.keep rfl, Slot.new _ _ _, s7.keep rfl, s8.keep rfl, s9.keep rfl, O0.keep (Off.refl _ wr) rfl, P7_10.keep rfl, hO⟩
      simp only [Act.put, List.setIfInBounds_toArray, List.set_cons_zero, List.set_cons_succ]
    · intro l a wr hI hl hd K' hK
      obtain ⟨u32, u33, u34, u35, u36, u37, u38, u39, u40, u41, ha, s0, s1, s2, s3, s4, s5, s6, s7, s8, s9, O0, P7_10, hO⟩ := hI
      simp only [Act.put, List.setIfInBounds_toArray, List.set_cons_zero, List.set_cons_succ] at ha
      have q6 := s6 (hd 6 (by decide))
      subst ha q6
      have hZ := O0.was (P7_10 hl)
      obtain ⟨p0, p1, p2, p3⟩ := NumsAt.cell hZ HOj.out
      clear hZ
      go_simp
      refine hK.out _ _ ⟨_, _, _, _, _, _, _, _, _, _, ?_, s0.keep rfl, s1.keep rfl, s2.keep rfl, s3.keep rfl, s4.keep rfl, s5.keep rfl, s6.keep rfl, Slot.new _ _ _, s8.keep rfl, s9.keep rfl, O0.keep (Off.refl _ wr) rfl, P7_10.keep rfl, hO⟩
      simp only [Act.put, List.setIfInBounds_toArray, List.set_cons_zero, List.set_cons_succ]
    · intro l a wr hI hl hd K' hK
      obtain ⟨u32, u33, u34, u35, u36, u37, u38, u39, u40, u41, ha, s0, s1, s2, s3, s4, s5, s6, s7, s8, s9, O0, P7_10, hO⟩ := hI
      simp only [Act.put, List.setIfInBounds_toArray, List.set_cons_zero, List.set_cons_succ] at ha
      have q2 := s2 (hd 2 (by decide))
      have q3 := s3 (hd 3 (by decide))
      have q7 := s7 (hd 7 (by decide))
      subst ha q2 q3 q7
      go_simp
      refine (held_inv (HAd.out wr) hO).mono ?_
      rintro e w1 ⟨rfl, hO1, hOW⟩
      go_wp2_with fail
      refine hK.out _ _ ⟨_, _, _, _, _, _, _, _, _, _, ?_, s0.keep rfl, s1.keep rfl, s2.keep rfl, s3.keep rfl, s4.keep rfl, s5.keep rfl, s6.keep rfl, s7.keep rfl, Slot.new _ _ _, s9.keep rfl, O0.keep hOW rfl, P7_10.keep rfl, hO1⟩
      simp only [Act.put, List.setIfInBounds_toArray, List.set_cons_zero, List.set_cons_succ]
    · intro l a wr hI hl hd K' hK
      obtain ⟨u32, u33, u34, u35, u36, u37, u38, u39, u40, u41, ha, s0, s1, s2, s3, s4, s5, s6, s7, s8, s9, O0, P7_10, hO⟩ := hI
      simp only [Act.put, List.setIfInBounds_toArray, List.set_cons_zero, List.set_cons_succ] at ha
      have q0 := s0 (hd 0 (by decide))
      have q1 := s1 (hd 1 (by decide))
      subst ha q0 q1
      go_simp
      refine hK.out _ _ ⟨_, _, _, _, _, _, _, _, _, _, ?_, s0.keep rfl, s1.keep rfl, s2.keep rfl, s3.keep rfl, s4.keep rfl, s5.keep rfl, s6.keep rfl, s7.keep rfl, s8.keep rfl, Slot.new _ _ _, O0.keep (Off.refl _ wr) rfl, P7_10.keep rfl, hO⟩
      simp only [Act.put, List.setIfInBounds_toArray, List.set_cons_zero, List.set_cons_succ]
    · intro l a wr hI hl hd K' hK
      obtain ⟨u32, u33, u34, u35, u36, u37, u38, u39, u40, u41, ha, s0, s1, s2, s3, s4, s5, s6, s7, s8, s9, O0, P7_10, hO⟩ := hI
      simp only [Act.put, List.setIfInBounds_toArray, List.set_cons_zero, List.set_cons_succ] at ha
      have q9 := s9 (hd 9 (by decide))
      have q8 := s8 (hd 8 (by decide))
      subst ha q9 q8
      have hZ := (O0.was hl)
      obtain ⟨m0, m1, m2, m3⟩ := NumsAt.cell hZ HOj.out
      have fz := fun j => NumsAt.frozen hZ j
      have lt := heap_lt hZ
      clear hZ
      go_simp
      refine hK.out _ _ ⟨_, _, _, _, _, _, _, _, _, _, ?_, s0.keep rfl, s1.keep rfl, s2.keep rfl, s3.keep rfl, s4.keep rfl, s5.keep rfl, s6.keep rfl, s7.keep rfl, s8.keep rfl, s9.keep rfl, O0.putAt (HPt.out wr) hl, Dep.at (hd 7 (by decide)), setCells_in_at hO (fun _ => rfl) (words4 z)⟩
      simp only [Act.put, List.setIfInBounds_toArray, List.set_cons_zero, List.set_cons_succ]
    · intro l a wc hI hd
      obtain ⟨u32, u33, u34, u35, u36, u37, u38, u39, u40, u41, ha, s0, s1, s2, s3, s4, s5, s6, s7, s8, s9, O0, P7_10, hO⟩ := hI
      simp only [Act.put, List.setIfInBounds_toArray, List.set_cons_zero, List.set_cons_succ] at ha
      have q0 := s0 (hd 0 (by decide))
      have q1 := s1 (hd 1 (by decide))
      have q2 := s2 (hd 2 (by decide))
      have q3 := s3 (hd 3 (by decide))
      have q4 := s4 (hd 4 (by decide))
      have q5 := s5 (hd 5 (by decide))
      have q6 := s6 (hd 6 (by decide))
      have q7 := s7 (hd 7 (by decide))
      have q8 := s8 (hd 8 (by decide))
      have q9 := s9 (hd 9 (by decide))
      have r0 : wc.heap[arr]? = some (.cells (flat4 (L1.set j z)).toArray 26) := O0.now (hd 10 (by decide))
      subst ha q0 q1 q2 q3 q4 q5 q6 q7 q8 q9
      clear hd s0 s1 s2 s3 s4 s5 s6 s7 s8 s9 O0 P7_10
      have hb := HBk.out
      refine ⟨rfl, hO, hO.heap H1.out (by omega), hO.heap H2.out (by omega), ?_, H5.out.trans hO (fun k hk e => by omega)⟩
      rw [HSn.out, HLs.out]
      exact r0
  case done =>
    rintro D ys A hD rfl ⟨h1, h2, h3, h4⟩ hP hK
    rw [show setF n (fun i u => (vs.getD i 0 + u) % p) (us ++ List.replicate (n - m) 0) (List.range n) = sumL p vs us by rw [HN.out, HN2.out]; exact add_done vs us (by have := HN.out; have := HN2.out; omega)] at h3
    have HAr := Lib.hid h3
    have HP := Lib.hid hP
    have HO := Lib.hid h4
    have m0 : A.cell? ⟨sb, 0, none⟩ = some (.slice (some ⟨arr, 0, none⟩) n n) := cell_of_heap h2 0
    clear h1 h2 h3 h4 hP hseq
    gi_wp2
    refine ⟨by simp, .inl ⟨_, _, rfl, run_takeDeferred hK, ?_⟩⟩
    have hb := HBk.out
    have hqD : Quiet w.heap.size S A (A.putObj D (.deferred none)) := Quiet.putObj _ _ (by omega)
    have hP9 := noted_put (o' := .deferred none) HP.out hK
    have hO10 : Off S w (A.putObj D (.deferred none)) := HO.out.later' hqD (Nat.le_refl _) (fun _ _ c => c)
    have s9 : NumsAt (A.putObj D (.deferred none)) arr 26 ((sumL p vs us).map (fm p)) := (World.putObj_heap_other (by omega)).trans HAr.out
    obtain ⟨S', t1, t2⟩ := hP9
    exact ⟨_, results_tmp rfl _ _ _, ⟨arr, rfl, by omega, s9, ⟨S', t1, fun k c => (t2 k c).imp (fun c => c) (fun d => by omega)⟩, hO10⟩⟩
end Go.Proofs.YtiemajbcmmbjbaaDoor
