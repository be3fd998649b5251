/-
  bytes.Repeat of one byte, many times. Condition: more than 8192 and at most 70000 times.
-/
import Derived.Test.YtllhfkcgocbblaaDoorBitsMul
import Derived.Test.YtllhfkcgocbblaaDoorBytMem
import Derived.Test.YtllhfkcgocbblaaDoorPartBy
import Derived.Lib.MakeNoZero
import Derived.Laws.Externs
namespace Go.Proofs.YtllhfkcgocbblaaDoor
open Go.RowKit
attribute [local go_sem ↓] Go.wp_at_zero Go.wp_at_succ
set_option maxRecDepth 100000 in
set_option maxHeartbeats 4000000 in
theorem bitsmul_any (x y : Nat) (hx : x < 18446744073709551616) (hy : y < 18446744073709551616) (w : World) :
    Calls Tryd.prog 35 #[.int .u64 x, .int .u64 y] w fun e w' => e = .returned (.tuple #[.int .u64 ((x * y / 18446744073709551616 : Nat) : Int), .int .u64 ((x * y % 18446744073709551616 : Nat) : Int)]) ∧ w' = w := by
  obtain ⟨h, hh⟩ : ∃ h, h = x * y / 18446744073709551616 := ⟨_, rfl⟩
  obtain ⟨l, hl⟩ : ∃ l, l = x * y % 18446744073709551616 := ⟨_, rfl⟩
  have FM := Lib.hid (show ∀ W, Calls Tryd.prog 46 #[.int .u64 x, .int .u64 y] W fun e w' => e = .returned (.tuple #[.int .u64 (h : Int), .int .u64 (l : Int)]) ∧ w' = W from fun W => by rw [hh, hl]; exact mul64_any x y hx hy W)
  rw [← hh, ← hl]
  clear hh hl hx hy
  go_enter Tryd.func35, Tryd.ntmps35
  go_wp2_with fail
  refine (FM.out _).mono ?_
  rintro e w' ⟨rfl, rfl⟩
  go_wp2
  refine bodyPost_ret (results_tmp2 rfl _ _ _) rfl ?_
  exact ⟨rfl, rfl⟩
/-- The block b begins with c bytes x. -/
def Filled (w : World) (b : Nat) (T : TypeId) (x c : Nat) (R : List Value) : Prop := w.heap[b]? = some (.cells ((List.replicate c x).map u8v ++ R).toArray T (0, 0))
theorem Filled.at {w : World} {b : Nat} {T : TypeId} {x c : Nat} {R : List Value} (h : Filled w b T x c R) {j : Nat} (hj : j < c) : w.cell? ⟨b, j, none⟩ = some (u8v x) := by
  unfold Filled at h
  rw [cell_of_heap h]
  rw [List.getElem?_toArray, List.getElem?_append_left (by simpa using hj)]
  simp [hj]
theorem Filled.has {w : World} {b : Nat} {T : TypeId} {x c : Nat} {R : List Value} (h : Filled w b T x c R) {j : Nat} (hj : j < c + R.length) : (w.cell? ⟨b, j, none⟩).isSome = true := by
  unfold Filled at h
  rw [cell_of_heap h, List.getElem?_toArray, List.getElem?_eq_getElem (by simpa using hj)]
  rfl
theorem Filled.bytes {w : World} {b : Nat} {T : TypeId} {x c : Nat} {R : List Value} (h : Filled w b T x c R) {k : Nat} (hk : k ≤ c) : BsAt w (some ⟨b, 0, none⟩) (List.replicate k x) (fun j => j = b) := fun _ => ⟨b, 0, rfl, rfl, fun j y hj => by
  have hlt := (List.getElem?_eq_some_iff.1 hj).1
  rw [List.length_replicate] at hlt
  rw [List.getElem?_replicate, if_pos hlt] at hj
  cases hj
  rw [Nat.zero_add]
  exact h.at (by omega)⟩
theorem copy_fill {w : World} {b c x dLen dCap m sCap t : Nat} {a : Option Addr} {S : Nat → Prop} {R : List Value} {TB ty : TypeId} (h : BsAt w a (List.replicate m x) S) (hb : Filled w b TB x c R) (ht : t = min dLen m) (ht0 : 0 < t) (hR : t ≤ R.length) :
    ∃ w1, (Builtin.copy_ #[25, 25] ty #[.slice (some ⟨b, c, none⟩) dLen dCap, .slice a m sCap]).run Tryd.prog w = .ok (.int .i64 (t : Int)) w1 ∧ Filled w1 b TB x (c + t) (R.drop t) ∧ Off (fun j => j = b) w w1 := by
  have hs : (Tryd.prog.info? 5).map (·.size) = some 1 := by kernel_rfl
  obtain ⟨b', off, rfl, _, hc⟩ := h (by rw [List.length_replicate]; omega)
  have hr := run_copy_cells (P := Tryd.prog) w 25 25 ty 5 b c dLen dCap ⟨b', off, none⟩ m sCap ((List.replicate t x).map u8v) Tryd.underlying25 hs (by rw [List.length_map, List.length_replicate, ht]; exact Nat.min_comm _ _)
    (fun j u hj => by
      have hlt := (List.getElem?_eq_some_iff.1 hj).1
      rw [List.length_map, List.length_replicate] at hlt
      rw [List.getElem?_map, List.getElem?_replicate, if_pos hlt] at hj
      cases hj
      rw [Addr.add_lit]
      exact hc j x (by rw [List.getElem?_replicate, if_pos (by omega)]))
    (fun j hj => by
      rw [List.length_map, List.length_replicate] at hj
      exact hb.has (by omega))
    (fun j _ => frozen_of_heap hb _)
    (fun u hu' => by obtain ⟨x, _, rfl⟩ := List.mem_map.1 hu'; rfl)
  rw [List.length_map, List.length_replicate] at hr
  refine ⟨_, hr, ?_, setCells_off b _ c w⟩
  have e : (List.replicate c x).map u8v ++ R = (List.replicate c x).map u8v ++ R.take t ++ R.drop t := by rw [List.append_assoc, List.take_append_drop]
  unfold Filled at hb ⊢
  rw [e] at hb
  have h2 := setCells_mid ((List.replicate t x).map u8v) ((List.replicate c x).map u8v) (R.take t) (R.drop t) w c (by simp) (by simp; omega) hb
  rw [h2, ← List.map_append, List.replicate_append_replicate]
set_option maxRecDepth 100000 in
set_option maxHeartbeats 4000000 in
theorem repeat_by (x n : Nat) (h0 : 8192 < n) (hn : n ≤ 70000) (a : Option Addr) (cap : Nat) (S : Nat → Prop) (w : World) (hb : BsAt w a [x] S) :
    Calls Tryd.prog 21 #[.slice a 1 cap, .int .i64 (n : Int)] w fun e w' => ∃ b, e = .returned (.slice (some ⟨b, 0, none⟩) n n) ∧ w.heap.size ≤ b ∧ BsAt w' (some ⟨b, 0, none⟩) (List.replicate n x) (fun j => j = b) ∧ Off (fun _ => False) w w' := by
  have FB := Lib.hid (show ∀ W, Calls Tryd.prog 35 #[.int .u64 1, .int .u64 (n : Int)] W fun e w' => e = .returned (.tuple #[.int .u64 0, .int .u64 (n : Int)]) ∧ w' = W from fun W => by
    have h := bitsmul_any 1 n (by decide) (by omega) W
    rw [Nat.one_mul, Nat.div_eq_of_lt (by omega), Nat.mod_eq_of_lt (by omega)] at h; exact h)
  have hw1 : IntKind.u64.wrap (n : Int) = (n : Int) := by rw [IntKind.wrap_u64]; omega
  have hw2 : IntKind.i64.wrap (n : Int) = (n : Int) := by rw [IntKind.wrap_i64]; omega
  have hn0 : ¬ (n : Int) < 0 := by omega
  have hnz : ¬ (n : Int) = 0 := by omega
  have hnm : ¬ (9223372036854775807 : Int) < (n : Int) := by omega
  have hn8 : (8192 : Int) < (n : Int) := by omega
  obtain ⟨cs, hrunM, hle, _⟩ := Lib.run_makeNoZero (P := Tryd.prog) w #[3] 25 5 Tryd.underlying25 n (by omega)
  have hcall : (callFunc 36 #[.int .i64 (n : Int)]).run Tryd.prog w = .ok (.value (.slice (some ⟨w.heap.size, 0, none⟩) n cs.size)) (w.drew.drew.alloc (.cells cs 5)) := by
    rw [run_callFunc_extern Tryd.func36 (by kernel_rfl) (by kernel_rfl) (by kernel_rfl) (e := Extern.BytealgMakeNoZero.makeNoZero #[3] #[25]) (by kernel_rfl), hrunM]
    rfl
  clear hrunM
  have i0 : (0 : Int) ≤ (n : Int) := by omega
  have i1 : (n : Int) ≤ (cs.size : Int) := by omega
  have HB := Lib.hid hb
  clear hb
  go_enter Tryd.func21, Tryd.ntmps21
  go_wp2_with fail
  refine (FB.out _).mono ?_
  rintro e W ⟨rfl, rfl⟩
  obtain ⟨W1, hW1⟩ : ∃ W1, W1 = W.drew.drew.alloc (.cells cs 5) := ⟨_, rfl⟩
  rw [← hW1] at hcall
  obtain ⟨b, hbb⟩ : ∃ b, b = W.heap.size := ⟨_, rfl⟩
  rw [← hbb] at hcall
  have hO1 : Off (fun _ => False) W W1 := by rw [hW1]; exact (((Off.refl _ W).drew).drew).alloc _
  have hF0 : Filled W1 b 5 x 0 cs.toList := by
    unfold Filled
    rw [hW1, hbb]
    exact heap_new' (by simp) _
  obtain ⟨w1, hcp, hF1, hoff⟩ := copy_fill (ty := 3) (dLen := n) (dCap := n) (m := 1) (sCap := cap) (t := 1) (HB.out.off hO1 (fun _ _ _ c => c)) hF0 (by omega) (by decide) (by simp; omega)
  rw [Nat.zero_add] at hF1
  have HO := Lib.hid (hO1.trans hoff (fun k hk e => by omega))
  have HF := Lib.hid (show ∃ R : List Value, Filled w1 b 5 x 1 R ∧ n ≤ 1 + R.length from ⟨_, hF1, by simp; omega⟩)
  have HBb := Lib.hid (show W.heap.size ≤ b by omega)
  clear hW1 hbb hO1 hF0 hF1 hoff HB
  go_wp2_with fail
  clear hcall hcp
  go_loopw [10] (fun i wr => ∃ c : Nat, 0 < c ∧ c ≤ n ∧ i = .int .i64 (c : Int) ∧ (∃ R : List Value, Filled wr b 5 x c R ∧ n ≤ c + R.length) ∧ Off (fun _ => False) W wr) (fun i _ => n - (intOf i).toNat)
  case atStart => exact ⟨1, by omega, by omega, rfl, HF.out, HO.out⟩
  case round =>
    obtain ⟨c, hc0, hcn, rfl, ⟨R, hF, hR⟩, hO⟩ := hrel
    by_cases hlt : c < n
    · obtain ⟨q, hq⟩ : ∃ q, q = min c 8192 := ⟨_, rfl⟩
      obtain ⟨t, ht⟩ : ∃ t, t = min (n - c) q := ⟨_, rfl⟩
      have mn : min (c : Int) 8192 = (q : Int) := by omega
      have hFd : Filled wr.drew b 5 x c R := hF
      obtain ⟨w2, hcp, hF2, hoff⟩ := copy_fill (ty := 3) (dLen := n - c) (dCap := n - c) (m := q) (sCap := n) (t := t) (hFd.bytes (k := q) (by omega)) hFd ht (by omega) (by omega)
      have hs1 := slice_lo b 0 n n c (by omega) (by omega)
      have hs2 := slice_hi b 0 n n q (by omega)
      rw [Nat.zero_add] at hs1
      have HF2 := Lib.hid (show ∃ R : List Value, Filled w2 b 5 x (c + t) R ∧ n ≤ c + t + R.length from ⟨_, hF2, by rw [List.length_drop]; omega⟩)
      have HO2 := Lib.hid ((hO.drew).trans hoff (fun k hk e => by have := HBb.out; omega))
      have hwk : IntKind.i64.wrap ((c : Int) + (t : Int)) = ((c + t : Nat) : Int) := by rw [IntKind.wrap_i64]; omega
      have hcb : (c : Int) < (n : Int) := by omega
      have htl : c + t ≤ n := by omega
      have ht0 : 0 < t := by omega
      clear hF hFd hF2 hR hoff ht hq hO
      go_upto_region 10 with fail
      go_region
      all_goals (go_wp2; go_roundw)
      all_goals first | exact ⟨c + t, by omega, htl, rfl, HF2.out, HO2.out⟩ | (simp [intOf]; omega)
    · obtain rfl : c = n := by omega
      have H1 := Lib.hid (hF.bytes (Nat.le_refl c))
      have HO := Lib.hid hO
      clear hF hO
      go_wp2
      go_ret
      exact ⟨b, rfl, HBb.out, H1.out, HO.out⟩
end Go.Proofs.YtllhfkcgocbblaaDoor
