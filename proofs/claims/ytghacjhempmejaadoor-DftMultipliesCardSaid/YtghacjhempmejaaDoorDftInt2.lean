/-
  integers of package dft: whole numbers near the real parts. Condition: each is within a quarter of a whole number, which is small.
-/
import Derived.Test.YtghacjhempmejaaDoorDftInts
import Derived.Test.YtghacjhempmejaaDoorCqAll
namespace Go.Proofs.YtghacjhempmejaaDoor
open Go.RowKit Ieee
set_option maxRecDepth 100000
set_option linter.unusedVariables false
set_option maxHeartbeats 4000000
theorem round_conv {x : Nat} {r : Rat} {c : Int} (hx : FR x r) (h : x < 2 ^ 64) (hc : Ab (r - (c : Rat)) (1 / 4)) (hb : c.natAbs ≤ 500000000000) : floatToIntVal .f64 (roundW x) .i64 = some c := by
  have hcb := abs_cast hb
  have e5 : ((500000000000 : Nat) : Rat) = 500000000000 := rfl
  rw [e5] at hcb
  obtain ⟨hc1, hc2⟩ := hc
  obtain ⟨t, h1, h2, h3⟩ := fr_round hx h ⟨by grind, by grind⟩
  have ht : t = c := int_near h2 h3 (by grind) (by grind)
  subst ht
  obtain ⟨t2, k1, k2, k3⟩ := fr_trunc h1
  have ht2 : t2 = t := by
    by_cases c0 : (0 : Rat) ≤ (t : Rat)
    · obtain ⟨a1, a2⟩ := k2 c0
      have b1 : t2 ≤ t := by exact_mod_cast a1
      have b2 : t < t2 + 1 := by exact_mod_cast a2
      omega
    · obtain ⟨a1, a2⟩ := k3 (by grind)
      have b1 : t2 - 1 < t := by
        have : ((t2 - 1 : Int) : Rat) < (t : Rat) := by rw [Rat.intCast_sub]; exact a1
        exact_mod_cast this
      have b2 : t ≤ t2 := by exact_mod_cast a2
      omega
  subst ht2
  unfold floatToIntVal
  have e : (FloatKind.f64.decode (roundW x)).toInt .zero = some t2 := k1
  rw [e]
  have m1 : IntKind.i64.min = -9223372036854775808 := rfl
  have m2 : IntKind.i64.max = 9223372036854775807 := rfl
  simp only [m1, m2]
  rw [if_pos (by omega)]
def fillI (cs : List Int) (k : Nat) : List Int := (List.range cs.length).map (fun i => if i < k then cs.getD i 0 else 0)
def iCells (L : List Int) : Array Value := (L.map (fun v => Value.int .i64 v)).toArray
theorem fillI_start (cs : List Int) : fillI cs 0 = List.replicate cs.length 0 := by
  unfold fillI
  apply List.ext_getElem (by simp)
  intro j h1 h2
  simp
theorem fillI_full (cs : List Int) : fillI cs cs.length = cs := by
  unfold fillI
  apply List.ext_getElem?
  intro j
  by_cases hj : j < cs.length
  · rw [List.getElem?_map, List.getElem?_range hj]
    simp only [Option.map_some]
    rw [if_pos hj, List.getD_eq_getElem?_getD, List.getElem?_eq_getElem hj]; rfl
  · rw [List.getElem?_eq_none (by simp; omega), List.getElem?_eq_none (by omega)]
theorem fillI_set (cs : List Int) {k : Nat} (hk : k < cs.length) : (fillI cs k).set k (cs.getD k 0) = fillI cs (k + 1) := by
  unfold fillI
  apply List.ext_getElem?
  intro m
  by_cases hm : m < cs.length
  · rw [List.getElem?_set, List.getElem?_map, List.getElem?_map, List.getElem?_range hm]
    by_cases e : k = m
    · subst e
      rw [if_pos rfl, if_pos (by simp; exact hk)]
      simp
    · rw [if_neg e]
      simp only [Option.map_some]
      by_cases c : m < k
      · rw [if_pos c, if_pos (by omega)]
      · rw [if_neg c, if_neg (by omega)]
  · rw [List.getElem?_eq_none (by simp; omega), List.getElem?_eq_none (by simp; omega)]
theorem fillI_get (cs : List Int) {k m : Nat} (hm : m < cs.length) : ∃ z, (fillI cs k)[m]? = some z := by
  unfold fillI
  rw [List.getElem?_map, List.getElem?_range hm]; exact ⟨_, rfl⟩
theorem cell_i {W : World} {b : Nat} {L : List Int} (h : W.heap[b]? = some (.cells (iCells L) 3)) {k : Nat} {z : Int} (hz : L[k]? = some z) : W.cell? ⟨b, k, none⟩ = some (.int .i64 z) := by
  rw [cell_of_heap h]; unfold iCells; rw [List.getElem?_toArray, List.getElem?_map, hz]; rfl
theorem iv_blk {W : World} {b n : Nat} {L : List Int} (h : W.heap[b]? = some (.cells (iCells L) 3)) (hn : n = L.length) (hl : n ≤ 1000) (hw : ∀ x ∈ L, x.natAbs ≤ 500000000000) : Iv W (.slice (some ⟨b, 0, none⟩) n n) L :=
  ⟨some ⟨b, 0, none⟩, n, by rw [hn], by unfold maxLen; omega, fun x hx => (by have := hw x hx; exact wf_i64 (by omega) (by omega)), fun _ => ⟨b, 0, rfl, trivial, fun j x hx => by
    rw [Nat.zero_add]; exact cell_i h hx⟩⟩
theorem integers_any (L : List (Nat × Nat)) (cs : List Int) (hlen : cs.length = L.length) (hl : L.length ≤ 256) (hc : ∀ j x, L[j]? = some x → floatToIntVal .f64 (roundW x.1) .i64 = some (cs.getD j 0)) (hb : ∀ x ∈ cs, x.natAbs ≤ 500000000000) (v : Value) (w : World) (hV : Cs w v L) :
    Calls Tryd.prog 24 #[v] w fun r w' => ∃ u, r = .returned u ∧ Iv w' u cs ∧ Off (fun _ => False) w w' := by
  obtain ⟨a, cap, rfl, _⟩ := hV.open
  obtain ⟨n, hn⟩ : ∃ n, n = L.length := ⟨_, rfl⟩
  rw [← hn] at hV hlen hl ⊢
  have HV := Lib.hid hV
  have HN := Lib.hid hn
  have HLEN := Lib.hid hlen
  have HC := Lib.hid hc
  have HB := Lib.hid hb
  have hmk := run_make_ints n (by omega)
  obtain ⟨W1, hW1⟩ : ∃ W1, W1 = w.alloc (.cells (Array.replicate n (Value.int .i64 0)) 3) := ⟨_, rfl⟩
  obtain ⟨g, hg⟩ : ∃ g, g = w.heap.size := ⟨_, rfl⟩
  have h1 : W1.heap[g]? = some (.cells (iCells (fillI cs 0)) 3) := by
    rw [fillI_start, hW1, hg, hlen, show iCells (List.replicate n 0) = Array.replicate n (Value.int .i64 0) by simp [iCells]]; exact heap_new' rfl _
  have o1 : Off (fun _ => False) w W1 := by rw [hW1]; exact (Off.refl _ w).alloc _
  have HG := Lib.hid h1
  have HO1 := Lib.hid o1
  have HW1 := Lib.hid hW1
  have Hg := Lib.hid hg
  clear h1 o1 hW1 hg hV hn hlen hc hb
  have hR := round_any
  go_enter Tryd.func24, Tryd.ntmps24
  go_wp2
  rw [← HW1.out, ← Hg.out]
  clear hmk
  go_loopw [11] (fun i wr => ∃ k : Nat, k ≤ n ∧ i = .int .i64 (k : Int) ∧ wr.heap[g]? = some (.cells (iCells (fillI cs k)) 3) ∧ Off (fun _ => False) w wr) (fun i _ => n - (intOf i).toNat)
  case atStart => exact ⟨0, Nat.zero_le _, rfl, HG.out, HO1.out⟩
  case round =>
    obtain ⟨k, hk, rfl, hL, hO⟩ := hrel
    by_cases hkn : k < n
    · have hki : (k : Int) < (n : Int) := by omega
      have hwk : IntKind.i64.wrap ((k : Int) + 1) = (k : Int) + 1 := by rw [IntKind.wrap_i64]; omega
      obtain ⟨x, hx⟩ : ∃ x, L[k]? = some x := ⟨_, List.getElem?_eq_getElem (by have := HN.out; omega)⟩
      obtain ⟨b, off, rfl, d1⟩ := Cs.cell HV.out hO (fun _ _ c => c) hx
      have q1 := HC.out k x hx
      obtain ⟨c, hc⟩ : ∃ c, c = cs.getD k 0 := ⟨_, rfl⟩
      rw [← hc] at q1
      have hRk := hR x.1
      obtain ⟨z, hz⟩ : ∃ z, z = roundW x.1 := ⟨_, rfl⟩
      rw [← hz] at q1 hRk
      have E1 := fun (W : World) => run_convert_float_int (P := Tryd.prog) W 35 3 .f64 .i64 z c (by kernel_rfl) (by kernel_rfl) q1
      obtain ⟨z0, hz0⟩ := fillI_get cs (k := k) (m := k) (by have := HLEN.out; omega)
      have m0 := cell_i hL hz0
      have lt := heap_lt hL
      have fz : wr.frozen? ⟨g, k, none⟩ = false := frozen_of_heap hL k
      have hst := ints_store hL k c
      rw [hc, fillI_set cs (by have := HLEN.out; omega), ← hc] at hst
      have hO3 : Off (fun _ => False) w (wr.setCells g k [.int .i64 c]) := hO.trans (setCells_off g _ k wr) (fun j hj e => by have := Hg.out; omega)
      have HST := Lib.hid hst
      have HO3 := Lib.hid hO3
      clear hL hO hst hO3 hx hc hz q1 hz0 hR
      go_wp2_with first | (go_at_call 31; refine (hRk _).mono ?_; rintro e w' ⟨rfl, rfl⟩) | fail
      go_roundw
      case rel => exact ⟨k + 1, by omega, by simp, HST.out, HO3.out⟩
      case measure => simp [intOf] <;> omega
    · obtain rfl : n = k := by omega
      have hki : ¬ ((n : Nat) : Int) < (n : Int) := by omega
      have e := HLEN.out
      rw [← e, fillI_full] at hL
      have HL2 := Lib.hid (iv_blk hL e.symm (by omega) HB.out)
      have HO2 := Lib.hid hO
      clear hL hO e
      go_wp2
      go_ret
      exact ⟨_, rfl, HL2.out, HO2.out⟩
end Go.Proofs.YtghacjhempmejaaDoor
