/-
  The examples of layer 2's chapter hold: the function 'alive' of its statements returns true and changes nothing that lay in memory before. No condition.
-/
import Derived.Test.YtpaiigapffbinaaTapeLists
namespace Go.Proofs.Ytpaiigapffbinaa
open Go.RowKit

theorem evs_one (w : World) (e : Ev) (T : TypeId) (n : Nat) (hn : n ≤ w.heap.size) : EvsAt (w.alloc (.cells #[.int .i64 e.1, .int .i64 e.2.1, .int .i64 e.2.2] T)) (.slice (some ⟨w.heap.size, 0, none⟩) 1 1) [e] (fun k => n ≤ k) := by
  refine ⟨_, _, rfl, by simp, by unfold maxLen; omega, by simp, fun _ => ⟨_, _, rfl, hn, fun j x hj => ?_⟩⟩
  cases j with
  | zero =>
    have : x = e := by simpa using hj.symm
    subst this
    have h := World.alloc_heap_new w (.cells #[.int .i64 x.1, .int .i64 x.2.1, .int .i64 x.2.2] T)
    exact ⟨cell_of_heap h 0, cell_of_heap h 1, cell_of_heap h 2⟩
  | succ j => simp at hj

set_option maxHeartbeats 2000000 in
theorem alive_any (w : World) :
    Calls Try.prog 10 #[] w fun e w' => e = .returned (.bool true) ∧ Off (fun _ => False) w w' := by
  have hw0 := new_any (.slice none 0 0) [] (fun _ => False) w (evs_nil_new w _) (by simp)
  go_enter Try.func10, Try.ntmps10
  go_wp2_with fail
  refine hw0.mono ?_
  rintro e w1 ⟨rfl, hT1, hO1⟩
  have h1 := note_any _ _ _ _ hT1 (by simp) (1, 2, 3)
  go_wp2_with fail
  refine h1.mono ?_
  rintro e w2 ⟨rfl, hT2, hO2⟩
  have hT2' : TapeAt w2 w.heap.size [(1, 2, 3)] (fun k => w.heap.size ≤ k) := TapeG.mono hT2 (fun k hk h => h.elim id (fun h => by have := hO1.size; omega))
  have hO2' : Off (fun _ => False) w w2 := hO1.trans hO2 (fun k hk h => by omega)
  have h2 := note_any _ _ _ _ hT2' (by simp) (4, 5, 6)
  clear h1 hw0 hT1 hT2 hO1 hO2
  go_wp2_with fail
  refine h2.mono ?_
  rintro e w3 ⟨rfl, hT3, hO3⟩
  have hT3' : TapeAt w3 w.heap.size [(1, 2, 3), (4, 5, 6)] (fun k => w.heap.size ≤ k ∧ k < w3.heap.size) := TapeG.mono hT3 (fun k hk h => h.elim (fun h => ⟨h, hk⟩) (fun h => by have := hO2'.size; constructor <;> omega))
  have hO3' : Off (fun _ => False) w w3 := hO2'.trans hO3 (fun k hk h => by omega)
  have h3 := new_any _ [((1 : Int), (2 : Int), (3 : Int))] _ _ (evs_one w3 (1, 2, 3) 28 w3.heap.size (Nat.le_refl _)) (by simp)
  clear h2 hT2' hT3 hO2' hO3
  go_wp2_with fail
  refine h3.mono ?_
  rintro e w4 ⟨rfl, hT4, hO4⟩
  have hO34 : Off (fun _ => False) w3 w4 := ((Off.refl _ w3).alloc _).trans hO4 (fun _ _ c => c)
  rw [World.size_alloc] at hT4
  have hsz3 := hO3'.size
  have hsz34 : w3.heap.size + 1 ≤ w4.heap.size := by have := hO4.size; rw [World.size_alloc] at this; exact this
  have hO4' : Off (fun _ => False) w w4 := hO3'.trans hO34 (fun _ _ c => c)
  have ht4 : TapeV w4 (.pointer (some ⟨w.heap.size, 0, none⟩)) [(1, 2, 3), (4, 5, 6)] (fun k => k < w3.heap.size) := .inr ⟨_, rfl, (TapeG.mono hT3' (fun k _ h => h.2)).off hO34 (fun _ _ _ c => c)⟩
  clear h3 hT3' hO3' hO4 hO34
  obtain ⟨bu, hbu⟩ : ∃ bu, bu = w3.heap.size + 1 := ⟨_, rfl⟩
  rw [World.size_alloc]
  rw [← hbu] at hT4 ⊢
  have hu4 : TapeV w4 (.pointer (some ⟨bu, 0, none⟩)) [(1, 2, 3)] (fun k => w3.heap.size + 1 ≤ k) := .inr ⟨_, rfl, TapeG.mono hT4 (fun k _ h => by omega)⟩
  have hlen := len_any _ _ _ _ ht4
  have hcnt := count_any _ _ _ 4 _ ht4 (by simp)
  have hcv : ((countV [((1 : Int), (2 : Int), (3 : Int)), (4, 5, 6)] 4 : Nat) : Int) = 1 := by decide
  rw [hcv] at hcnt
  have HB := Lib.hid hbu
  clear hT4 hbu hcv
  go_wp2_with fail
  refine hlen.mono ?_
  rintro e w' ⟨rfl, rfl⟩
  go_wp2_with fail
  refine hcnt.mono ?_
  rintro e w5 ⟨rfl, hO5⟩
  have hO5' := hO4'.trans hO5 (fun _ _ c => c)
  have ht5 := ht4.off hO5 (fun _ _ _ c => c)
  have hu5 := hu4.off hO5 (fun _ _ _ c => c)
  have hsz5 := hO5.size
  have hsince := since_any _ _ _ 1 _ ht5 (by simp)
  have hav : afterV [((1 : Int), (2 : Int), (3 : Int)), (4, 5, 6)] 1 = [(4, 5, 6)] := by decide
  rw [hav] at hsince
  clear hlen hcnt hO5 ht4 hu4 hO4' hav
  go_wp2_with fail
  refine hsince.mono ?_
  rintro e w6 ⟨v, rfl, hv, hO6⟩
  have hO6' := hO5'.trans hO6 (fun _ _ c => c)
  have ht6 := ht5.off hO6 (fun _ _ _ c => c)
  have hu6 := hu5.off hO6 (fun _ _ _ c => c)
  have hsz6 := hO6.size
  have hal : Off (fun _ => False) w6 (w6.alloc (.cells #[.int .i64 4, .int .i64 5, .int .i64 6] 28)) := (Off.refl _ w6).alloc _
  have hsame := same_any v _ [((4 : Int), (5 : Int), (6 : Int))] [(4, 5, 6)] _ _ _ (hv.off hal (fun _ _ _ c => c)) (evs_one w6 (4, 5, 6) 28 0 (Nat.zero_le _)) (by simp) (by simp)
  rw [decide_eq_true rfl] at hsame
  clear hsince hO6 ht5 hu5 hO5'
  go_wp2_with fail
  refine hsame.mono ?_
  rintro e w7 ⟨rfl, hO7⟩
  have hO67 := hal.trans hO7 (fun _ _ c => c)
  have hO7' := hO6'.trans hO67 (fun _ _ c => c)
  have ht7 := ht6.off hO67 (fun _ _ _ c => c)
  have hu7 := hu6.off hO67 (fun _ _ _ c => c)
  have hsz7 := hO67.size
  have hfirst := first_any _ _ _ _ _ _ _ ht7 hu7 (by simp) (by simp)
  have hfv : firstV [((1 : Int), (2 : Int), (3 : Int)), (4, 5, 6)] [(1, 2, 3)] = 1 := by decide
  rw [hfv] at hfirst
  clear hsame hO7 hO67 hal hv ht6 hu6 hO6' hfv
  go_wp2_with fail
  refine hfirst.mono ?_
  rintro e w8 ⟨rfl, hO8⟩
  have hO8' := hO7'.trans hO8 (fun _ _ c => c)
  have ht8 := ht7.off hO8 (fun _ _ _ c => c)
  have hu8 := hu7.off hO8 (fun _ _ _ c => c)
  have hsz8 := hO8.size
  have hub : TapeAt w8 bu [((1 : Int), (2 : Int), (3 : Int))] (fun k => w3.heap.size + 1 ≤ k) := by
    rcases hu8 with ⟨h, _⟩ | ⟨b, h, hb⟩
    · cases h
    · have : b = bu := by simpa using h.symm
      subst this; exact hb
  have hplay := play_some bu _ _ _ _ _ _ hub ht8 (.inl (fun k _ h1 h2 => by omega)) (by simp)
  clear hfirst hO8 ht7 hu7 hu8 hO7'
  go_wp2_with fail
  refine hplay.mono ?_
  rintro e w9 ⟨rfl, hT9, hO9⟩
  have hO9' := hO8'.trans hO9 (fun k hk h => by have := HB.out; omega)
  have hlen9 := len_any _ _ _ _ (show TapeV w9 (.pointer (some ⟨bu, 0, none⟩)) _ _ from .inr ⟨_, rfl, hT9⟩)
  clear hplay hO9 ht8 hub hO8'
  go_wp2_with fail
  refine hlen9.mono ?_
  rintro e w' ⟨rfl, rfl⟩
  go_wp2
  go_ret
  exact ⟨rfl, hO9'⟩
end Go.Proofs.Ytpaiigapffbinaa
