/-
  Contracts of the reference's Subtract, Add and One (package sharecoreref04) over this seat's translation. Conditions: as each says.
-/
import Derived.Test.YtmokaikofcbboaaDoorModSum
namespace Go.Proofs.YtmokaikofcbboaaDoor
open Go.RowKit

theorem off4 {w u : World} {b : Nat} (h : Off (fun _ => False) w u) (hb : w.heap.size ≤ b) (v0 v1 v2 v3 : Value) : Off (fun _ => False) w ((((u.setCell ⟨b, 0, none⟩ v0).setCell ⟨b, 1, none⟩ v1).setCell ⟨b, 2, none⟩ v2).setCell ⟨b, 3, none⟩ v3) := by
  have hn : ∀ j, (⟨b, j, none⟩ : Addr).block < w.heap.size → False := fun j c => by simp at c; omega
  exact (((h.setCell (hn 0) _).setCell (hn 1) _).setCell (hn 2) _).setCell (hn 3) _

/-- x - m, where x is c * 2^256 + a, unless x is less than m. -/
def redV (m a : Nat) (c : Int) : Nat := if c % 2 = 0 ∧ a < m then a else subV a m
theorem redV_mod {p a b : Nat} (hp : p < R256) (ha : a < p) (hb : b < p) : V (redV p ((a + b) % R256) (((a + b) / R256 : Nat) : Int)) = V ((a + b) % p) := by
  rw [← V_mod (redV _ _ _)]
  congr 1
  have h1 : (a + b) % p = if a + b < p then a + b else a + b - p := by
    split
    · exact Nat.mod_eq_of_lt (by omega)
    · rw [Nat.mod_eq_sub_mod (by omega)]; exact Nat.mod_eq_of_lt (by omega)
  rw [h1]
  unfold redV subV R256 W64 at *
  simp only [Nat.reducePow] at *
  split <;> split <;> omega

set_option maxRecDepth 100000 in
set_option maxHeartbeats 2000000 in
theorem mod_subtract (m a : Nat) (hm : m < R256) (ha : a < R256) (c : Int) (hc : Word c) (w : World) :
    Calls Tryd.prog 32 #[V m, V a, .int .u64 c] w fun e w' => e = .returned (V (redV m a c)) ∧ Off (fun _ => False) w w' := by
  have F := fun W => mod_sub a m ha hm W
  have h0 := hc.1
  have h1 := hc.2
  obtain ⟨b, hb⟩ : ∃ b, b = ltN a m := ⟨_, rfl⟩
  obtain ⟨d, hd⟩ : ∃ d, d = subV a m := ⟨_, rfl⟩
  simp only [← hb, ← hd] at F
  have HF := Lib.hid F
  have hr : redV m a c = if c % 2 = 0 ∧ a < m then a else d := by rw [hd]; rfl
  have HD := Lib.hid hd
  clear F hc hd
  by_cases hodd : c % 2 = 0
  · have t1 : (c % 2 == 0) = true := by simpa using hodd
    by_cases hlt : a < m
    · have e : redV m a c = a := by rw [hr, if_pos ⟨hodd, hlt⟩]
      obtain rfl : b = 1 := by rw [hb]; unfold ltN; rw [if_pos hlt]
      have HF : Hid (∀ W, Calls Tryd.prog 38 #[V a, V m] W fun e w' => e = .returned (.tuple #[V d, .int .u64 1]) ∧ Off (fun _ => False) W w') := Lib.hid (fun W => HF.out W)
      rw [e]
      clear e hr hb hlt hodd hm ha
      go_enter Tryd.func32, Tryd.ntmps32
      go_wp2_with fail
      refine (HF.out _).mono ?_
      rintro e u ⟨rfl, hO⟩
      have hA : NumAt u (w.heap.size + 1) a := hO.heap (heap_old' (heap_new' (by simp) _) _) (fun c => c)
      have hR : PartAt u (w.heap.size + 1 + 1) 0 0 := hO.heap (heap_new' (by simp) _) (fun c => c)
      have la := heap_lt hR.old
      have lp := hA.lt
      obtain ⟨a0, a1, a2, a3⟩ := hA.four
      obtain ⟨⟨r0, r1, r2, r3⟩, fz⟩ := hR.four
      have HO := Lib.hid (((((Off.refl _ w).alloc _).alloc _).alloc _).trans hO (fun _ _ c => c))
      clear hA hR hO
      go_wp2
      refine bodyPost_ret (v := V a) (by simp [results, Tryd.results32, go_sem, r0, r1, r2, r3, la]) rfl ⟨rfl, ?_⟩
      exact (off4 HO.out (by omega) _ _ _ _).alloc _
    · have e : redV m a c = d := by rw [hr, if_neg (fun h => hlt h.2)]
      obtain rfl : b = 0 := by rw [hb]; unfold ltN; rw [if_neg hlt]
      have HF : Hid (∀ W, Calls Tryd.prog 38 #[V a, V m] W fun e w' => e = .returned (.tuple #[V d, .int .u64 0]) ∧ Off (fun _ => False) W w') := Lib.hid (fun W => HF.out W)
      rw [e]
      clear e hr hb hlt hodd hm ha
      go_enter Tryd.func32, Tryd.ntmps32
      go_wp2_with fail
      refine (HF.out _).mono ?_
      rintro e u ⟨rfl, hO⟩
      have hA : NumAt u (w.heap.size + 1) a := hO.heap (heap_old' (heap_new' (by simp) _) _) (fun c => c)
      have hR : PartAt u (w.heap.size + 1 + 1) 0 0 := hO.heap (heap_new' (by simp) _) (fun c => c)
      have la := heap_lt hR.old
      have lp := hA.lt
      obtain ⟨a0, a1, a2, a3⟩ := hA.four
      obtain ⟨⟨r0, r1, r2, r3⟩, fz⟩ := hR.four
      have HO := Lib.hid (((((Off.refl _ w).alloc _).alloc _).alloc _).trans hO (fun _ _ c => c))
      clear hA hR hO
      go_wp2
      refine bodyPost_ret (v := V d) (by simp [results, Tryd.results32, go_sem, r0, r1, r2, r3, la]) rfl ⟨rfl, ?_⟩
      exact (off4 HO.out (by omega) _ _ _ _).alloc _
  · have t1 : (c % 2 == 0) = false := by simpa using hodd
    have e : redV m a c = d := by rw [hr, if_neg (fun h => hodd h.1)]
    rw [e]
    clear e hr hb hodd hm ha
    go_enter Tryd.func32, Tryd.ntmps32
    go_wp2_with fail
    refine (HF.out _).mono ?_
    rintro e u ⟨rfl, hO⟩
    have hA : NumAt u (w.heap.size + 1) a := hO.heap (heap_old' (heap_new' (by simp) _) _) (fun c => c)
    have hR : PartAt u (w.heap.size + 1 + 1) 0 0 := hO.heap (heap_new' (by simp) _) (fun c => c)
    have la := heap_lt hR.old
    have lp := hA.lt
    obtain ⟨a0, a1, a2, a3⟩ := hA.four
    obtain ⟨⟨r0, r1, r2, r3⟩, fz⟩ := hR.four
    have HO := Lib.hid (((((Off.refl _ w).alloc _).alloc _).alloc _).trans hO (fun _ _ c => c))
    clear hA hR hO
    go_wp2
    refine bodyPost_ret (v := V d) (by simp [results, Tryd.results32, go_sem, r0, r1, r2, r3, la]) rfl ⟨rfl, ?_⟩
    exact (off4 HO.out (by omega) _ _ _ _).alloc _

end Go.Proofs.YtmokaikofcbboaaDoor
