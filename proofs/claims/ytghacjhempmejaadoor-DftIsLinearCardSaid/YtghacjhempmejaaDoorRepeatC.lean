/-
  math/bits.Mul of small numbers, and slices.Repeat of one complex number. Condition: the number of repetitions is from 1 to 256.
-/
import Derived.Test.YtghacjhempmejaaDoorBitsMul
import Derived.Test.YtghacjhempmejaaDoorDftMult
namespace Go.Proofs.YtghacjhempmejaaDoor
open Go.RowKit
set_option maxRecDepth 100000
set_option linter.unusedVariables false
set_option maxHeartbeats 4000000
theorem bitsmul_c (x y : Nat) (hx : x < 18446744073709551616) (hy : y < 18446744073709551616) (w : World) :
    Calls Tryd.prog 28 #[.int .u64 x, .int .u64 y] w fun e w' => e = .returned (.tuple #[.int .u64 ((x * y / 18446744073709551616 : Nat) : Int), .int .u64 ((x * y % 18446744073709551616 : Nat) : Int)]) ∧ w' = w := by
  obtain ⟨h, hh⟩ : ∃ h, h = x * y / 18446744073709551616 := ⟨_, rfl⟩
  obtain ⟨l, hl⟩ : ∃ l, l = x * y % 18446744073709551616 := ⟨_, rfl⟩
  have FM := Lib.hid (show ∀ W, Calls Tryd.prog 35 #[.int .u64 x, .int .u64 y] W fun e w' => e = .returned (.tuple #[.int .u64 (h : Int), .int .u64 (l : Int)]) ∧ w' = W from fun W => by rw [hh, hl]; exact mul64_any x y hx hy W)
  rw [← hh, ← hl]
  clear hh hl hx hy
  go_enter Tryd.func28, Tryd.ntmps28
  go_wp2_with fail
  refine (FM.out _).mono ?_
  rintro e w' ⟨rfl, rfl⟩
  go_wp2
  refine bodyPost_ret (results_tmp2 rfl _ _ _) rfl ?_
  exact ⟨rfl, rfl⟩
theorem setCells_midc {b : Nat} {T : TypeId} : ∀ (vs pre mid post : List Value) (w : World) (o : Nat), pre.length = o → mid.length = vs.length → w.heap[b]? = some (.cells (pre ++ mid ++ post).toArray T (0, 0)) →
    (w.setCells b o vs).heap[b]? = some (.cells (pre ++ vs ++ post).toArray T (0, 0))
  | [], pre, mid, post, w, o, _, hm, h => by
    have : mid = [] := List.eq_nil_of_length_eq_zero hm
    subst this; exact h
  | v :: vs, pre, [], post, w, o, _, hm, _ => by simp at hm
  | v :: vs, pre, x :: mid, post, w, o, ho, hm, h => by
    have h1 := heap_set h o v
    have e : (pre ++ x :: mid ++ post).toArray.setIfInBounds o v = ((pre ++ [v]) ++ mid ++ post).toArray := by
      subst ho
      apply Array.ext'
      simp
    rw [e] at h1
    have := setCells_midc vs (pre ++ [v]) mid post _ (o + 1) (by simp [ho]) (by simpa using hm) h1
    have e2 : (pre ++ [v]) ++ vs ++ post = pre ++ v :: vs ++ post := by simp
    rw [e2] at this
    exact this
theorem slice_from_c (b n cap k : Nat) (hk : k ≤ n) (hc : k ≠ cap) (W : World) : (Instr.slice 30 (.slice (some ⟨b, 0, none⟩) n cap) (some (.int .i64 (k : Int))) none none).run Tryd.prog W = .ok (.slice (some ⟨b, k, none⟩) (n - k) (cap - k)) W := by
  have he : Tryd.prog.elem 30 = 34 := by simp [Program.elem, Tryd.underlying30]
  rw [run_slice_l W 30 _ _ _ (by rw [he]; exact Tryd.underlying30) .i64 _ (by omega) (by omega), he, Tryd.sizeOf34]
  simp [Result.andThen, sliced, Addr.add_lit, Ne.symm hc]
theorem cv_ones (l : List (Nat × Nat)) : ∀ u ∈ l.map cv, u.oneCell' = true := fun u hu => by
  obtain ⟨x, _, rfl⟩ := List.mem_map.1 hu
  rfl
/-- A block whose first c cells are x, and the others 0. -/
def RepC (w : World) (b n c : Nat) (x : Nat × Nat) : Prop := w.heap[b]? = some (.cells ((List.replicate c x).map cv ++ (List.replicate (n - c) (0, 0)).map cv).toArray 34)
/-- 'copy' of one number to a block's first. -/
theorem copy_one_c {w : World} {b n : Nat} {a : Addr} {cap : Nat} {x : Nat × Nat} (hx : w.cell? a = some (.complex .f64 x.1 x.2)) (hb : RepC w b n 0 x) (hn : 0 < n) :
    ∃ w1, (Builtin.copy_ #[30, 30] 3 #[.slice (some ⟨b, 0, none⟩) n n, .slice (some a) 1 cap]).run Tryd.prog w = .ok (.int .i64 1) w1 ∧ RepC w1 b n 1 x ∧ Off (fun k => k = b) w w1 := by
  have hu := Tryd.underlying30
  have hs : (Tryd.prog.info? 34).map (·.size) = some 1 := by kernel_rfl
  have hb2 : w.heap[b]? = some (.cells ([] ++ [cv (0, 0)] ++ (List.replicate (n - 1) (0, 0)).map cv).toArray 34) := by
    have h := hb
    unfold RepC at h
    rw [h]
    congr 3
    rw [show n - 0 = (n - 1) + 1 by omega, List.replicate_succ]
    simp
  have hmid := setCells_midc (b := b) (T := 34) [cv x] [] [cv (0, 0)] ((List.replicate (n - 1) (0, 0)).map cv) w 0 rfl rfl hb2
  refine ⟨w.setCells b 0 [cv x], ?_, ?_, setCells_off b [cv x] 0 w⟩
  · have hst := run_storeCells_cells (P := Tryd.prog) b 0 [cv x] 0 w (fun j hj => by
        simp at hj
        subst hj
        rw [cell_of_heap hb2]; simp) (fun j _ => frozen_of_heap hb2 _) (cv_ones [x])
    have hld := run_loadCells_list (P := Tryd.prog) w a [cv x] (fun j u hj => by
      cases j with
      | zero => simp at hj; subst hj; simpa [Addr.add, cv] using hx
      | succ j => simp at hj)
    have hmin : Nat.min 1 n = 1 := Nat.min_eq_left hn
    cases hq : Tryd.prog.info? 34 with
    | none => simp [hq] at hs
    | some i =>
      have hi : i.size = 1 := by simpa [hq] using hs
      simp at hld hst
      simp [Builtin.copy_, run_underlying hu, Builtin.lenOf, Builtin.firstCells, sizeOf, typeInfo, hq, hi, hmin, hld, hst, goInt]
  · unfold RepC
    exact hmid
/-- The first cells of a block are copied behind themselves. -/
theorem copy_rep_c {w : World} {b n c t : Nat} {x : Nat × Nat} (hb : RepC w b n c x) (hc : c < n) (ht : t = min (n - c) c) :
    ∃ w1, (Builtin.copy_ #[30, 30] 3 #[.slice (some ⟨b, c, none⟩) (n - c) (n - c), .slice (some ⟨b, 0, none⟩) c n]).run Tryd.prog w = .ok (.int .i64 (t : Int)) w1 ∧ RepC w1 b n (c + t) x ∧ Off (fun k => k = b) w w1 := by
  have hu := Tryd.underlying30
  have hs : (Tryd.prog.info? 34).map (·.size) = some 1 := by kernel_rfl
  have hz : List.replicate (n - c) ((0, 0) : Nat × Nat) = List.replicate t (0, 0) ++ List.replicate (n - (c + t)) (0, 0) := by rw [List.replicate_append_replicate, show t + (n - (c + t)) = n - c by omega]
  have hr : List.replicate (c + t) x = List.replicate c x ++ List.replicate t x := by rw [List.replicate_append_replicate]
  have hb2 : w.heap[b]? = some (.cells ((List.replicate c x).map cv ++ (List.replicate t (0, 0)).map cv ++ (List.replicate (n - (c + t)) (0, 0)).map cv).toArray 34) := by
    have h := hb
    unfold RepC at h
    rw [hz, List.map_append, ← List.append_assoc] at h; exact h
  have hmid := setCells_midc (b := b) (T := 34) ((List.replicate t x).map cv) ((List.replicate c x).map cv) ((List.replicate t (0, 0)).map cv) ((List.replicate (n - (c + t)) (0, 0)).map cv) w c (by simp) (by simp) hb2
  refine ⟨w.setCells b c ((List.replicate t x).map cv), ?_, ?_, setCells_off b _ c w⟩
  · have hst := run_storeCells_cells (P := Tryd.prog) b c ((List.replicate t x).map cv) 0 w (fun j hj => by
        simp at hj
        have hlt : c + j < ((List.replicate c x).map cv ++ (List.replicate t (0, 0)).map cv ++ (List.replicate (n - (c + t)) (0, 0)).map cv).toArray.size := by simp; omega
        rw [cell_of_heap hb2]; simp only [Nat.add_zero]; rw [Array.getElem?_eq_getElem hlt]; rfl) (fun j _ => frozen_of_heap hb2 _) (cv_ones _)
    have hld := run_loadCells_list (P := Tryd.prog) w ⟨b, 0, none⟩ ((List.replicate t x).map cv) (fun j u hj => by
      have hjl := (List.getElem?_eq_some_iff.1 hj).1
      simp at hjl
      rw [Addr.add_lit, Nat.zero_add, cell_of_heap hb2, List.getElem?_toArray]
      rw [show List.replicate c x = List.replicate t x ++ List.replicate (c - t) x by rw [List.replicate_append_replicate, show t + (c - t) = c by omega], List.map_append, List.append_assoc, List.append_assoc, List.getElem?_append_left (by simp; exact hjl)]
      exact hj)
    have hmin : Nat.min c (n - c) = t := by rw [ht, Nat.min_comm]
    cases hq : Tryd.prog.info? 34 with
    | none => simp [hq] at hs
    | some i =>
      have hi : i.size = 1 := by simpa [hq] using hs
      simp only [List.length_map, List.length_replicate] at hld
      simp only [List.map_replicate, Nat.add_zero] at hst ⊢
      simp [Builtin.copy_, run_underlying hu, Builtin.lenOf, Builtin.firstCells, sizeOf, typeInfo, hq, hi, hmin, hld, hst, goInt]
  · unfold RepC
    rw [hr, List.map_append]
    exact hmid
theorem repeat_c (x : Nat × Nat) (n : Nat) (h0 : 0 < n) (hn : n ≤ 256) (a : Addr) (cap : Nat) (w : World) (hx : w.cell? a = some (.complex .f64 x.1 x.2)) :
    Calls Tryd.prog 20 #[.slice (some a) 1 cap, .int .i64 (n : Int)] w fun r w' => MadeC w r w' n (List.replicate n x) := by
  have FB := Lib.hid (show ∀ W, Calls Tryd.prog 28 #[.int .u64 1, .int .u64 (n : Int)] W fun e w' => e = .returned (.tuple #[.int .u64 0, .int .u64 (n : Int)]) ∧ w' = W from fun W => by
    have h := bitsmul_c 1 n (by decide) (by omega) W
    rw [Nat.one_mul, Nat.div_eq_of_lt (by omega), Nat.mod_eq_of_lt (by omega)] at h; exact h)
  have hw1 : IntKind.u64.wrap (n : Int) = (n : Int) := by rw [IntKind.wrap_u64]; omega
  have hw2 : IntKind.i64.wrap (n : Int) = (n : Int) := by rw [IntKind.wrap_i64]; omega
  have hn0 : ¬ (n : Int) < 0 := by omega
  have hnm : ¬ (9223372036854775807 : Int) < (n : Int) := by omega
  have hmk := run_make_com n (by omega)
  have hst : RepC (w.alloc (.cells (Array.replicate n (Value.complex .f64 0 0)) 34)) w.heap.size n 0 x := by
    unfold RepC
    rw [show ((List.replicate 0 x).map cv ++ (List.replicate (n - 0) (0, 0)).map cv).toArray = Array.replicate n (Value.complex .f64 0 0) by simp [cv]]
    exact heap_new' rfl _
  obtain ⟨w1, hcp, hblk, hoff⟩ := copy_one_c (w := w.alloc (.cells (Array.replicate n (Value.complex .f64 0 0)) 34)) (cap := cap) (((Off.refl (fun _ => False) w).alloc _).cell hx (fun c => c)) hst h0
  have hO : Off (fun _ => False) w w1 := ((Off.refl (fun _ => False) w).alloc _).trans hoff (fun k hk e => by omega)
  obtain ⟨b, hb⟩ : ∃ b, b = w.heap.size := ⟨_, rfl⟩
  have HB := Lib.hid (show w.heap.size ≤ b by omega)
  have HO := Lib.hid hO
  have HBl := Lib.hid (show RepC w1 b n 1 x by rw [hb]; exact hblk)
  have Hb := Lib.hid hb
  clear hoff hO hblk hb hst hx
  go_enter Tryd.func20, Tryd.ntmps20
  go_wp2_with fail
  refine (FB.out _).mono ?_
  rintro e W ⟨rfl, rfl⟩
  go_wp2_with fail
  rw [← Hb.out]
  clear hcp hmk
  go_loopw [8] (fun i wr => ∃ c : Nat, 0 < c ∧ c ≤ n ∧ i = .int .i64 (c : Int) ∧ RepC wr b n c x ∧ Off (fun _ => False) W wr) (fun i _ => n - (intOf i).toNat)
  case atStart => exact ⟨1, by omega, by omega, rfl, HBl.out, HO.out⟩
  case round =>
    obtain ⟨c, hc0, hcn, rfl, hN, hO⟩ := hrel
    by_cases hlt : c < n
    · obtain ⟨t, ht⟩ : ∃ t, t = min (n - c) c := ⟨_, rfl⟩
      obtain ⟨w2, hcp, hN2, hoff⟩ := copy_rep_c (w := wr.drew) (show RepC wr.drew b n c x from hN) hlt ht
      have HN2 := Lib.hid hN2
      have HO2 := Lib.hid ((hO.drew).trans hoff (fun k hk e => by have := HB.out; omega))
      have hs1 := slice_from_c b n n c (by omega) (by omega)
      have hs2 := slice_com (some ⟨b, 0, none⟩) n n c (by omega)
      have hwk : IntKind.i64.wrap ((c : Int) + (t : Int)) = ((c + t : Nat) : Int) := by rw [IntKind.wrap_i64]; omega
      have hcb : (c : Int) < (n : Int) := by omega
      have htl : c + t ≤ n := by omega
      have ht0 : 0 < t := by omega
      clear hN hO hN2 hoff ht
      go_upto_region 9 with fail
      go_region
      all_goals (go_wp2; go_roundw)
      all_goals first | exact ⟨c + t, by omega, htl, rfl, HN2.out, HO2.out⟩ | (simp [intOf]; omega)
    · obtain rfl : c = n := by omega
      have H1 := Lib.hid (show wr.heap[b]? = some (.cells (cCells (List.replicate c x)) 34) by
        unfold RepC at hN
        rw [Nat.sub_self, List.replicate_zero, List.map_nil, List.append_nil] at hN; exact hN)
      have HO := Lib.hid hO
      clear hN hO
      go_wp2
      go_ret
      exact ⟨b, rfl, HB.out, H1.out, HO.out⟩
end Go.Proofs.YtghacjhempmejaaDoor
