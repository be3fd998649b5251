/-
  The examples of layer 13's chapter hold: the statements' own alive over this seat's translation. Conditions: the table of fields lies in memory as it was laid.
-/
import Derived.Test.YtllhfkcgocbblaaDoorChkSame
import Derived.Test.YtllhfkcgocbblaaDoorChkProg
import Derived.Laws.BytesArg
namespace Go.Proofs.YtllhfkcgocbblaaDoor
open Go.RowKit
attribute [local go_sem ↓] Go.wp_at_zero Go.wp_at_succ
/-- A conversion of bytes to bytes marks the block behind its end. -/
theorem convert_by (w : World) (C : Array Value) (n c : Nat) : (convert 25 25 (.slice (some ⟨w.heap.size, 0, none⟩) n c)).run Tryd.prog (w.alloc (.cells C 5)) = .ok (.slice (some ⟨w.heap.size, 0, none⟩) n c) (w.alloc (.cells C 5 (C.size, C.size + 1))) := by
  have hsh : (w.alloc (.cells C 5)).shape? w.heap.size = some (5, C.size) := by
    have : (w.alloc (.cells C 5)).heap[w.heap.size]? = some (.cells C 5) := heap_new' rfl _
    unfold World.shape?
    rw [this]
  have hfr : (w.alloc (.cells C 5)).freeze ⟨w.heap.size, C.size, none⟩ 1 = w.alloc (.cells C 5 (C.size, C.size + 1)) := by
    have hm : ∀ (a : Array Obj) (x : Obj) (f : Obj → Obj), (a.push x).modify a.size f = a.push (f x) := by
      intro a x f
      apply Array.ext
      · simp
      · intro i h1 h2
        simp only [Array.getElem_modify, Array.getElem_push]
        by_cases h : a.size = i
        · subst h
          simp
        · have hi : i < a.size := by simp at h1; omega
          simp [h, hi]
    unfold World.freeze
    rw [if_neg (by decide)]
    show ({ w.alloc (.cells C 5) with heap := (w.heap.push (.cells C 5)).modify w.heap.size _ } : World) = _
    rw [hm]
    rfl
  simp [convert, run_underlying Tryd.underlying25, run_underlying Tryd.underlying5, markStringish, hsh]
  exact hfr
/-- "secret". -/
def secB : List Nat := [115, 101, 99, 114, 101, 116]
theorem sec_str {W : World} {sv : Value} (h : SvAt W sv secB) : (convert 25 9 sv).run Tryd.prog W = .ok (.string { data := #[115, 101, 99, 114, 101, 116] }) W := by
  obtain ⟨a, n, c, rfl, hn, hc, hb⟩ := h
  obtain ⟨b, off, rfl, _, hx⟩ := hb (by decide)
  rw [run_convert_bytes_arg W 25 5 Tryd.underlying25 Tryd.underlying5 b off n c [115, 101, 99, 114, 101, 116] (by rw [hn]; rfl) (fun i hi => by
    have h6 : i < 6 := by rw [hn] at hi; exact hi
    have e : i = 0 ∨ i = 1 ∨ i = 2 ∨ i = 3 ∨ i = 4 ∨ i = 5 := by omega
    rcases e with rfl | rfl | rfl | rfl | rfl | rfl <;> exact hx _ _ rfl) 9 Tryd.underlying9]
  rfl
theorem sec_at {W : World} {b : Nat} {T : TypeId} {z : Nat × Nat} (h : W.heap[b]? = some (.cells #[.int .u8 115, .int .u8 101, .int .u8 99, .int .u8 114, .int .u8 101, .int .u8 116] T z)) : BsAt W (some ⟨b, 0, none⟩) secB (fun _ => True) := fun _ => ⟨b, 0, rfl, trivial, fun j x hj => by
  have h6 : j < 6 := (List.getElem?_eq_some_iff.1 hj).1
  rw [Nat.zero_add, cell_of_heap h]
  have e : j = 0 ∨ j = 1 ∨ j = 2 ∨ j = 3 ∨ j = 4 ∨ j = 5 := by omega
  rcases e with rfl | rfl | rfl | rfl | rfl | rfl <;> (simp [secB] at hj; subst hj; rfl)⟩
theorem sec_small : Small secB := by unfold secB Small; decide
theorem sec_lt {id : Int} {p i r s : Nat} (hF : Fld id p i r s) {bs : List Nat} (h : Small bs) : ∀ x ∈ splitV bs, x < p := fun x hx => by
  obtain ⟨k, _, rfl⟩ := List.mem_map.1 hx
  exact Nat.lt_of_lt_of_le (chk_num_lt h k) (fld_big hF)
set_option maxRecDepth 100000 in
set_option maxHeartbeats 4000000 in
theorem alive13_any (w : World) (hT : TabAt w) : Calls Tryd.prog 9 #[] w fun e w' => e = .returned (.bool true) ∧ Off (fun _ => False) w w' := by
  obtain ⟨id, p, i, r, s, hF, hid⟩ := fld_of true
  have FG := Lib.hid (get13_any true hF hid w hT)
  have FS := Lib.hid (fun (W : World) (a : Option Addr) (c : Nat) (S : Nat → Prop) (hb : BsAt W a secB S) (hc : 6 ≤ c) => (show Calls Tryd.prog 14 #[FV id p i r s, .slice a 6 c] W fun e w' => ∃ a2 c2, e = .returned (.tuple #[.slice a2 1 c2, .int .i64 0]) ∧ Ls w' (.slice a2 1 c2) ((splitV secB).map (fm p)) ∧ Off (fun _ => False) W w' from split_any hF a 6 c secB S W hb rfl hc sec_small (by decide)))
  have FJ := Lib.hid (fun (W : World) (v : Value) (hV : Ls W v ((splitV secB).map (fm p))) => (show Calls Tryd.prog 19 #[FV id p i r s, v, .int .i64 6] W fun e w' => ∃ sv, e = .returned (.tuple #[sv, .int .i64 0]) ∧ SvAt w' sv secB ∧ Off (fun _ => False) W w' from by
    have h := join_any hF (splitV secB) (sec_lt hF sec_small) v 6 (by decide) W hV
    rw [show joinV (splitV secB) 6 = (secB, 0) from join_split_all sec_small (by decide)] at h
    exact h))
  have FC0 := Lib.hid (fun W => show Calls Tryd.prog 10 #[.int .i64 0] W fun e w' => e = .returned (.int .i64 0) ∧ Off (fun _ => False) W w' from count_any 0 (by decide) W)
  have FC1 := Lib.hid (fun W => show Calls Tryd.prog 10 #[.int .i64 31] W fun e w' => e = .returned (.int .i64 1) ∧ Off (fun _ => False) W w' from count_any 31 (by decide) W)
  have FC2 := Lib.hid (fun W => show Calls Tryd.prog 10 #[.int .i64 32] W fun e w' => e = .returned (.int .i64 2) ∧ Off (fun _ => False) W w' from count_any 32 (by decide) W)
  clear hF hid
  go_enter Tryd.func9, Tryd.ntmps9
  go_wp2_with fail
  refine FG.out.mono ?_
  rintro e u0 ⟨rfl, hO⟩
  have HO0 := Lib.hid hO
  clear hO FG hT
  have hcv : ∀ (A B : Obj) (C : Array Value), (convert 25 25 (.slice (some ⟨u0.heap.size + 1 + 1, 0, none⟩) 6 6)).run Tryd.prog (((u0.alloc A).alloc B).alloc (.cells C 5)) = .ok (.slice (some ⟨u0.heap.size + 1 + 1, 0, none⟩) 6 6) (((u0.alloc A).alloc B).alloc (.cells C 5 (C.size, C.size + 1))) := fun A B C => by
    have h := convert_by ((u0.alloc A).alloc B) C 6 6
    simpa using h
  go_wp2_with fail
  refine (FS.out _ _ 6 (fun _ => True) (sec_at (heap_new' (by simp) _)) (Nat.le_refl _)).mono ?_
  rintro e u1 ⟨a2, c2, rfl, hLs, hO1⟩
  have r0 : u1.heap[u0.heap.size]? = some (.cells #[.int .i64 id, .int .u64 (wd p 0 : Int), .int .u64 (wd p 1 : Int), .int .u64 (wd p 2 : Int), .int .u64 (wd p 3 : Int), .int .u64 (i : Int), .int .u64 (wd r 0 : Int), .int .u64 (wd r 1 : Int), .int .u64 (wd r 2 : Int), .int .u64 (wd r 3 : Int), .int .u64 (wd s 0 : Int), .int .u64 (wd s 1 : Int), .int .u64 (wd s 2 : Int), .int .u64 (wd s 3 : Int)] 30) := hO1.heap (heap_old' (heap_old' (heap_new' rfl _) _) _) (fun c => c)
  obtain ⟨f0, f1, f2, f3, f4, f5, f6, f7, f8, f9, f10, f11, f12, f13⟩ := fv_cells r0
  have hb0 := heap_lt r0
  have HO1 := Lib.hid (HO0.out.trans ((((Off.refl (fun _ => False) u0).alloc _).alloc _).alloc _ |>.trans hO1 (fun _ _ c => c)) (fun _ _ c => c))
  have HLs := Lib.hid hLs
  clear hLs hO1 r0 hcv
  go_wp2_with fail
  refine (FJ.out _ _ HLs.out).mono ?_
  rintro e u2 ⟨sv, rfl, hsv, hO2⟩
  have HO2 := Lib.hid (HO1.out.trans hO2 (fun _ _ c => c))
  have HSv := Lib.hid hsv
  clear hO2 hsv f0 f1 f2 f3 f4 f5 f6 f7 f8 f9 f10 f11 f12 f13
  go_wp2_with fail
  refine (FC0.out _).mono ?_
  rintro e u3 ⟨rfl, hO3⟩
  have HO3 := Lib.hid (HO2.out.trans hO3 (fun _ _ c => c))
  have HSv3 := Lib.hid (HSv.out.off hO3)
  clear hO3
  go_wp2_with fail
  refine (FC1.out _).mono ?_
  rintro e u4 ⟨rfl, hO4⟩
  have HO4 := Lib.hid (HO3.out.trans hO4 (fun _ _ c => c))
  have HSv4 := Lib.hid (HSv3.out.off hO4)
  clear hO4
  go_wp2_with fail
  refine (FC2.out _).mono ?_
  rintro e u5 ⟨rfl, hO5⟩
  have HO5 := Lib.hid (HO4.out.trans hO5 (fun _ _ c => c))
  have hst := sec_str (HSv4.out.off hO5)
  clear hO5
  go_wp2
  go_ret
  exact ⟨rfl, HO5.out⟩
end Go.Proofs.YtllhfkcgocbblaaDoor
