/-
  The contract of the reference's Multiply of layer 11: the product of two lists of integers, or a number for the error. No condition.
-/
import Derived.Test.YtghacjhempmejaaDoorDftConv
import Derived.Test.YtghacjhempmejaaDoorIntsAt
import Derived.Test.YtghacjhempmejaaDoorInvMore0
import Derived.Laws.MakeOwn
import Derived.OwnWalk
namespace Go.Proofs.YtghacjhempmejaaDoor
open Go.RowKit
theorem Iv.nil (w : World) : Iv w (.slice none 0 0) [] := ⟨none, 0, rfl, Nat.zero_le _, fun _ h => by simp at h, fun h => by simp at h⟩
theorem wf_i64 {x : Int} (h1 : -9223372036854775808 ≤ x) (h2 : x ≤ 9223372036854775807) : (Lit.int .i64 x).wf = true := by
  have e1 : IntKind.i64.min ≤ x := h1
  simp [Lit.wf, e1]
  exact h2
theorem int_info' : (Tryd.prog.info? 3).map (fun i => (i.zero, i.size, i.bytes)) = some (some (.int .i64 0), 1, 8) := by kernel_rfl
theorem run_make_ints (n : Nat) (hn : n ≤ 1000) (W : World) : (Instr.makeSlice 22 (.int .i64 (n : Int)) (.int .i64 (n : Int))).run Tryd.prog W = .ok (.slice (some ⟨W.heap.size, 0, none⟩) n n) (W.alloc (.cells (Array.replicate n (Value.int .i64 0)) 3)) := by
  obtain ⟨i0, hi, hz0, hz1, hz2⟩ := info_parts int_info'
  have h := run_make (P := Tryd.prog) W 22 3 i0 _ Tryd.underlying22 hi hz0 .i64 .i64 (n : Int) (n : Int) (by omega) (Int.le_refl _) (by rw [hz2]; omega) (by omega)
  have e : madeCells (Value.int .i64 0).cells n = Array.replicate n (Value.int .i64 0) := by
    apply Array.ext'
    rw [show (Value.int .i64 0).cells = #[.int .i64 0] from rfl, toList_madeCells_one]
    simp
  rw [← e]
  rw [hz1] at h
  simpa using h
theorem ints_store {W : World} {b : Nat} {L : List Int} (h : W.heap[b]? = some (.cells (L.map (fun v => Value.int .i64 v)).toArray 3)) (s : Nat) (z : Int) : (W.setCells b s [.int .i64 z]).heap[b]? = some (.cells ((L.set s z).map (fun v => Value.int .i64 v)).toArray 3) := by
  have h2 := heap_set h s (.int .i64 z)
  rw [List.map_set]
  simpa [World.setCells] using h2
set_option maxRecDepth 100000 in
set_option maxHeartbeats 4000000 in
theorem refmul11_any (la lb : List Int) (n1 n2 cap1 cap2 : Nat) (a1 a2 : Option Addr) (hn1 : n1 = la.length) (hn2 : n2 = lb.length) (w : World) (hV : Iv w (.slice a1 n1 cap1) la) (hU : Iv w (.slice a2 n2 cap2) lb) :
    Calls Tryd.prog 10 #[.slice a1 n1 cap1, .slice a2 n2 cap2] w fun e w' => ∃ u, e = .returned (.tuple #[u, .int .i64 (mulE la lb)]) ∧ Iv w' u (mulP la lb) ∧ Off (fun _ => False) w w' := by
  obtain ⟨E, hE⟩ : ∃ E, E = mulE la lb := ⟨_, rfl⟩
  obtain ⟨P, hP⟩ : ∃ P, P = mulP la lb := ⟨_, rfl⟩
  rw [← hE, ← hP]
  have HN1 := Lib.hid hn1
  have HN2 := Lib.hid hn2
  have HV := Lib.hid hV
  have HU := Lib.hid hU
  have HPl := Lib.hid (show 64 < n1 ∨ 64 < n2 → E = 8 ∧ P = [] from fun h => by
    have e : mulE la lb = 8 := by unfold mulE; rw [if_pos (by rw [← hn1, ← hn2]; exact h)]
    exact ⟨by rw [hE, e], by rw [hP]; unfold mulP; rw [e, if_pos (.inl (by decide))]⟩)
  have hE0 : ¬ (64 < n1 ∨ 64 < n2) → (∀ x ∈ la, -1000 ≤ x ∧ x ≤ 1000) → (∀ x ∈ lb, -1000 ≤ x ∧ x ≤ 1000) → mulE la lb = 0 := fun h ha hb => by
    unfold mulE
    rw [if_neg (by rw [← hn1, ← hn2]; exact h), if_neg (by rw [oob_no ha, oob_no hb]; simp)]
  have hEr : ¬ (64 < n1 ∨ 64 < n2) → (oobC la = true ∨ oobC lb = true) → E = 19 ∧ P = [] := fun h ho => by
    have e : mulE la lb = 19 := by unfold mulE; rw [if_neg (by rw [← hn1, ← hn2]; exact h), if_pos ho]
    exact ⟨by rw [hE, e], by rw [hP]; unfold mulP; rw [e, if_pos (.inl (by decide))]⟩
  by_cases h1 : 64 < n1
  · have hb1 : decide ((64 : Int) < (n1 : Int)) = true := by simp; omega
    have hp1 : (64 : Int) < (n1 : Int) := by omega
    have HPn := Lib.hid (HPl.out (.inl h1))
    clear hE0 hEr h1 hE hP hn1 hn2 hV hU
    go_enter Tryd.func10, Tryd.ntmps10
    go_wp2
    refine bodyPost_ret (results_tmp2 rfl _ _ _) rfl ?_
    exact ⟨.slice none 0 0, by rw [HPn.out.1]; rfl, by rw [HPn.out.2]; exact Iv.nil _, Off.refl _ w⟩
  · have hb1 : decide ((64 : Int) < (n1 : Int)) = false := by simp; omega
    have hp1 : ¬ (64 : Int) < (n1 : Int) := by omega
    by_cases h2 : 64 < n2
    · have hb2 : decide ((64 : Int) < (n2 : Int)) = true := by simp; omega
      have hp2 : (64 : Int) < (n2 : Int) := by omega
      have HPn := Lib.hid (HPl.out (.inr h2))
      clear hE0 hEr h1 h2 hE hP hn1 hn2 hV hU
      go_enter Tryd.func10, Tryd.ntmps10
      go_wp2
      refine bodyPost_ret (results_tmp2 rfl _ _ _) rfl ?_
      exact ⟨.slice none 0 0, by rw [HPn.out.1]; rfl, by rw [HPn.out.2]; exact Iv.nil _, Off.refl _ w⟩
    · have hb2 : decide ((64 : Int) < (n2 : Int)) = false := by simp; omega
      have hp2 : ¬ (64 : Int) < (n2 : Int) := by omega
      have h12 : ¬ (64 < n1 ∨ 64 < n2) := fun h => h.elim h1 h2
      have hs1 : n1 ≤ 64 := by omega
      have hs2 : n2 ≤ 64 := by omega
      have HRa := Lib.hid (show ∀ x : Int, x ∈ la → x < -1000 ∨ 1000 < x → E = 19 ∧ P = [] from fun x hx h => hEr h12 (.inl (oob_yes hx h)))
      have HRb := Lib.hid (show ∀ x : Int, x ∈ lb → x < -1000 ∨ 1000 < x → E = 19 ∧ P = [] from fun x hx h => hEr h12 (.inr (oob_yes hx h)))
      have HPz := Lib.hid (show n1 = 0 ∨ n2 = 0 → (∀ x ∈ la, -1000 ≤ x ∧ x ≤ 1000) → (∀ x ∈ lb, -1000 ≤ x ∧ x ≤ 1000) → E = 0 ∧ P = [] from fun h ha hb => ⟨by rw [hE, hE0 h12 ha hb], by rw [hP]; unfold mulP; rw [if_pos (.inr (by rw [← hn1, ← hn2]; exact h))]⟩)
      have HPc := Lib.hid (show (∀ x ∈ la, -1000 ≤ x ∧ x ≤ 1000) → (∀ x ∈ lb, -1000 ≤ x ∧ x ≤ 1000) → n1 ≠ 0 → n2 ≠ 0 → P = cvL la lb from fun ha hb h3 h4 => by
        rw [hP]; unfold mulP
        rw [hE0 h12 ha hb, if_neg (by rw [← hn1, ← hn2]; intro h; rcases h with h | h | h <;> first | exact absurd rfl h | omega)])
      have HPk := Lib.hid (show (∀ x ∈ la, -1000 ≤ x ∧ x ≤ 1000) → (∀ x ∈ lb, -1000 ≤ x ∧ x ≤ 1000) → E = 0 from fun ha hb => by rw [hE, hE0 h12 ha hb])
      clear hE0 hEr h1 h2 h12 hE hP hn1 hn2 hV hU HPl
      go_enter Tryd.func10, Tryd.ntmps10
      go_wp2
      go_loop [6] (fun i => ∃ k : Nat, k ≤ n1 ∧ i = .int .i64 (k : Int) ∧ Hid (∀ t x, t < k → la[t]? = some x → -1000 ≤ x ∧ x ≤ 1000)) (fun i => n1 - (intOf i).toNat)
      case atStart => exact ⟨0, Nat.zero_le _, rfl, Lib.hid (fun t x h => by omega)⟩
      case round =>
        obtain ⟨k, hk, rfl, HGd⟩ := hrel
        by_cases hkn : k < n1
        · obtain ⟨x, b1, o1, hx, rfl, d1, _, _⟩ := IvAt.at HV.out hkn
          have hki : (k : Int) < (n1 : Int) := by omega
          have hwk : IntKind.i64.wrap ((k : Int) + 1) = (k : Int) + 1 := by rw [IntKind.wrap_i64]; unfold maxLen at *; omega
          have HXm := Lib.hid (List.mem_of_getElem? hx)
          have HXk := Lib.hid hx
          clear hx
          by_cases hlo : x < -1000
          · have hlb : decide (x < -1000) = true := by simp [hlo]
            have HPn := Lib.hid (HRa.out x HXm.out (.inl hlo))
            clear HGd HXm HXk
            go_wp2
            refine bodyPost_ret (results_tmp2 rfl _ _ _) rfl ?_
            exact ⟨.slice none 0 0, by rw [HPn.out.1]; rfl, by rw [HPn.out.2]; exact Iv.nil _, Off.refl _ w⟩
          · have hlb : decide (x < -1000) = false := by simp [hlo]
            by_cases hhi : 1000 < x
            · have hhb : decide (1000 < x) = true := by simp [hhi]
              have HPn := Lib.hid (HRa.out x HXm.out (.inr hhi))
              clear HGd HXm HXk
              go_wp2
              refine bodyPost_ret (results_tmp2 rfl _ _ _) rfl ?_
              exact ⟨.slice none 0 0, by rw [HPn.out.1]; rfl, by rw [HPn.out.2]; exact Iv.nil _, Off.refl _ w⟩
            · have hhb : decide (1000 < x) = false := by simp [hhi]
              have HG2 := Lib.hid (show ∀ t v, t < k + 1 → la[t]? = some v → -1000 ≤ v ∧ v ≤ 1000 from fun t v h ht => by
                by_cases h2 : t < k
                · exact HGd.out t v h2 ht
                · obtain rfl : t = k := by omega
                  rw [HXk.out] at ht; cases ht; omega)
              clear HGd HXm HXk
              go_wp2
              go_round
              case rel => exact ⟨k + 1, by omega, by simp, HG2⟩
              case measure => simp [intOf] <;> omega
        · have hki : ¬ (k : Int) < (n1 : Int) := by omega
          have HA := Lib.hid (show ∀ x ∈ la, -1000 ≤ x ∧ x ≤ 1000 from fun x hx => by
            obtain ⟨t, ht⟩ := List.getElem?_of_mem hx
            have := (List.getElem?_eq_some_iff.1 ht).1
            exact HGd.out t x (by have := HN1.out; omega) ht)
          clear HGd
          go_wp2
          go_loop [7] (fun i => ∃ k : Nat, k ≤ n2 ∧ i = .int .i64 (k : Int) ∧ Hid (∀ t x, t < k → lb[t]? = some x → -1000 ≤ x ∧ x ≤ 1000)) (fun i => n2 - (intOf i).toNat)
          case atStart => exact ⟨0, Nat.zero_le _, rfl, Lib.hid (fun t x h => by omega)⟩
          case round =>
            obtain ⟨k, hk, rfl, HGd⟩ := hrel
            by_cases hkn : k < n2
            · obtain ⟨x, b1, o1, hx, rfl, d1, _, _⟩ := IvAt.at HU.out hkn
              have hki : (k : Int) < (n2 : Int) := by omega
              have hwk : IntKind.i64.wrap ((k : Int) + 1) = (k : Int) + 1 := by rw [IntKind.wrap_i64]; unfold maxLen at *; omega
              have HXm := Lib.hid (List.mem_of_getElem? hx)
              have HXk := Lib.hid hx
              clear hx
              by_cases hlo : x < -1000
              · have hlb : decide (x < -1000) = true := by simp [hlo]
                have HPn := Lib.hid (HRb.out x HXm.out (.inl hlo))
                clear HGd HXm HXk
                go_wp2
                refine bodyPost_ret (results_tmp2 rfl _ _ _) rfl ?_
                exact ⟨.slice none 0 0, by rw [HPn.out.1]; rfl, by rw [HPn.out.2]; exact Iv.nil _, Off.refl _ w⟩
              · have hlb : decide (x < -1000) = false := by simp [hlo]
                by_cases hhi : 1000 < x
                · have hhb : decide (1000 < x) = true := by simp [hhi]
                  have HPn := Lib.hid (HRb.out x HXm.out (.inr hhi))
                  clear HGd HXm HXk
                  go_wp2
                  refine bodyPost_ret (results_tmp2 rfl _ _ _) rfl ?_
                  exact ⟨.slice none 0 0, by rw [HPn.out.1]; rfl, by rw [HPn.out.2]; exact Iv.nil _, Off.refl _ w⟩
                · have hhb : decide (1000 < x) = false := by simp [hhi]
                  have HG2 := Lib.hid (show ∀ t v, t < k + 1 → lb[t]? = some v → -1000 ≤ v ∧ v ≤ 1000 from fun t v h ht => by
                    by_cases h2 : t < k
                    · exact HGd.out t v h2 ht
                    · obtain rfl : t = k := by omega
                      rw [HXk.out] at ht; cases ht; omega)
                  clear HGd HXm HXk
                  go_wp2
                  go_round
                  case rel => exact ⟨k + 1, by omega, by simp, HG2⟩
                  case measure => simp [intOf] <;> omega
            · have hki : ¬ (k : Int) < (n2 : Int) := by omega
              have HB := Lib.hid (show ∀ x ∈ lb, -1000 ≤ x ∧ x ≤ 1000 from fun x hx => by
                obtain ⟨t, ht⟩ := List.getElem?_of_mem hx
                have := (List.getElem?_eq_some_iff.1 ht).1
                exact HGd.out t x (by have := HN2.out; omega) ht)
              clear HGd
              by_cases hz1 : n1 = 0
              · have hzb : ((n1 : Int) == 0) = true := by simp [hz1]
                have hzd : decide ((n1 : Int) = 0) = true := by simp [hz1]
                have HPn := Lib.hid (HPz.out (.inl hz1) HA.out HB.out)
                go_wp2
                refine bodyPost_ret (results_tmp2 rfl _ _ _) rfl ?_
                exact ⟨.slice none 0 0, by rw [HPn.out.1]; rfl, by rw [HPn.out.2]; exact Iv.nil _, Off.refl _ w⟩
              · have hzb : ((n1 : Int) == 0) = false := by simp; omega
                have hzd : decide ((n1 : Int) = 0) = false := by simp; omega
                by_cases hz2 : n2 = 0
                · have hyb : ((n2 : Int) == 0) = true := by simp [hz2]
                  have hyd : decide ((n2 : Int) = 0) = true := by simp [hz2]
                  have HPn := Lib.hid (HPz.out (.inr hz2) HA.out HB.out)
                  go_wp2
                  refine bodyPost_ret (results_tmp2 rfl _ _ _) rfl ?_
                  exact ⟨.slice none 0 0, by rw [HPn.out.1]; rfl, by rw [HPn.out.2]; exact Iv.nil _, Off.refl _ w⟩
                · have hyb : ((n2 : Int) == 0) = false := by simp; omega
                  have hyd : decide ((n2 : Int) = 0) = false := by simp; omega
                  have HPf := Lib.hid (show n1 ≠ 0 → n2 ≠ 0 → P = cvL la lb from HPc.out HA.out HB.out)
                  have HE0 := Lib.hid (HPk.out HA.out HB.out)
                  obtain ⟨n, hn⟩ : ∃ n, n = n1 + n2 - 1 := ⟨_, rfl⟩
                  have hnn : ((n1 : Int) + (n2 : Int) - 1) = (n : Int) := by omega
                  have hmk : ∀ W : World, (Instr.makeSlice 22 (.int .i64 (n : Int)) (.int .i64 (n : Int))).run Tryd.prog W = .ok (.slice (some ⟨W.heap.size, 0, none⟩) n n) (W.alloc (.cells (Array.replicate n (Value.int .i64 0)) 3)) := fun W => run_make_ints n (by omega) W
                  obtain ⟨W1, hW1⟩ : ∃ W1, W1 = w.alloc (.cells (Array.replicate n (Value.int .i64 0)) 3) := ⟨_, rfl⟩
                  obtain ⟨g, hg⟩ : ∃ g, g = w.heap.size := ⟨_, rfl⟩
                  have h1 : W1.heap[g]? = some (.cells ((cvW la lb 0 0 n).map (fun v => Value.int .i64 v)).toArray 3 (0, 0)) := by
                    rw [cvW_start, hW1, hg, show ((List.replicate n (0 : Int)).map (fun v => Value.int .i64 v)).toArray = Array.replicate n (Value.int .i64 0) by simp]; exact heap_new' rfl _
                  have o1 : Off (fun _ => False) w W1 := by rw [hW1]; exact (Off.refl _ w).alloc _
                  have HG := Lib.hid h1
                  have HO1 := Lib.hid o1
                  have HW1 := Lib.hid hW1
                  have Hg := Lib.hid hg
                  have HFin := Lib.hid (show P = cvL la lb from HPf.out hz1 hz2)
                  have HNe := Lib.hid (show n = la.length + lb.length - 1 by rw [hn, HN1.out, HN2.out])
                  clear h1 o1 hW1 hg hn
                  go_wp2
                  rw [← HW1.out, ← Hg.out]
                  clear hmk
                  go_loopw [9] (fun i wr => ∃ k : Nat, k ≤ n1 ∧ i = .int .i64 (k : Int) ∧ wr.heap[g]? = some (.cells ((cvW la lb k 0 n).map (fun v => Value.int .i64 v)).toArray 3 (0, 0)) ∧ Off (fun _ => False) w wr) (fun i _ => n1 - (intOf i).toNat)
                  case atStart => exact ⟨0, Nat.zero_le _, rfl, HG.out, HO1.out⟩
                  case round =>
                    obtain ⟨k, hk, rfl, hL, hO⟩ := hrel
                    by_cases hkn : k < n1
                    · have hki : (k : Int) < (n1 : Int) := by omega
                      have HLk := Lib.hid hL
                      have HOk := Lib.hid hO
                      clear hL hO
                      go_wp2
                      go_loopw [10] (fun i wr => ∃ m : Nat, m ≤ n2 ∧ i = .int .i64 (m : Int) ∧ wr.heap[g]? = some (.cells ((cvW la lb k m n).map (fun v => Value.int .i64 v)).toArray 3 (0, 0)) ∧ Off (fun _ => False) w wr) (fun i _ => n2 - (intOf i).toNat)
                      case atStart => exact ⟨0, Nat.zero_le _, rfl, HLk.out, HOk.out⟩
                      case round =>
                        obtain ⟨m, hm, rfl, hL, hO⟩ := hrel
                        by_cases hmn : m < n2
                        · obtain ⟨x, b1, o1, hx, rfl, d1, _, _⟩ := IvAt.at (Iv.off HV.out hO) hkn
                          obtain ⟨y, b2, o2, hy, rfl, d2, _, _⟩ := IvAt.at (Iv.off HU.out hO) hmn
                          have hsn : k + m < n := by have := HNe.out; have := HN1.out; have := HN2.out; omega
                          have hsI : (k : Int) + (m : Int) < (n : Int) := by omega
                          have hwkm : IntKind.i64.wrap ((k : Int) + (m : Int)) = (k : Int) + (m : Int) := by rw [IntKind.wrap_i64]; omega
                          have hwkm2 : RowKit.wrap64 ((k : Int) + (m : Int)) = (k : Int) + (m : Int) := IntWalk.wrap64_in _ (by omega)
                          have hkm0 : (0 : Int) ≤ (k : Int) + (m : Int) := by omega
                          have hkmt : ((k : Int) + (m : Int)).toNat = k + m := by omega
                          obtain ⟨cur, hcur⟩ : ∃ c, c = cvK la lb k m (k + m) := ⟨_, rfl⟩
                          obtain ⟨q, hq⟩ : ∃ q, q = x * y := ⟨_, rfl⟩
                          obtain ⟨z, hz⟩ : ∃ z, z = cur + q := ⟨_, rfl⟩
                          have hqb := mul_small (HA.out x (List.mem_of_getElem? hx)) (HB.out y (List.mem_of_getElem? hy))
                          rw [← hq] at hqb
                          have hcb := cvK_small HA.out HB.out k m (k + m)
                          rw [← hcur] at hcb
                          have hq1 : IntKind.i64.wrap (x * y) = q := by rw [← hq, IntWalk.i64_in _ (by omega)]
                          have hq2 : RowKit.wrap64 (x * y) = q := by rw [← hq, IntWalk.wrap64_in _ (by omega)]
                          have hz1' : IntKind.i64.wrap (cur + q) = z := by rw [← hz, IntWalk.i64_in _ (by omega)]
                          have hz2' : RowKit.wrap64 (cur + q) = z := by rw [← hz, IntWalk.wrap64_in _ (by omega)]
                          obtain ⟨wr0, hwr⟩ : ∃ u, u = wr := ⟨_, rfl⟩
                          rw [← hwr] at d1 d2 hO hL ⊢
                          have hge : b1 ≠ g ∧ b2 ≠ g := by
                            have e1 := Hg.out
                            obtain ⟨_, b1', _, _, e2, e3, _, _⟩ := IvAt.at HV.out.lt hkn
                            obtain ⟨_, b2', _, _, e4, e5, _, _⟩ := IvAt.at HU.out.lt hmn
                            cases e2; cases e4
                            have := World.block_lt_of_cell? w _ e3
                            have := World.block_lt_of_cell? w _ e5
                            simp only at *
                            omega
                          have HK : Hid (∀ W', Off (fun j => j = g) wr0 W' → (W'.cell? ⟨b1, o1 + k, none⟩ = some (.int .i64 x)) ∧ (W'.cell? ⟨b2, o2 + m, none⟩ = some (.int .i64 y)) ∧ Off (fun j => j = g) wr0 W') := Lib.hid (fun W' h => ⟨h.cell d1 hge.1, h.cell d2 hge.2, h⟩)
                          have HCe := Lib.hid (show ∀ W : World, W.heap[g]? = some (.cells ((cvW la lb k m n).map (fun v => Value.int .i64 v)).toArray 3) → W.cell? ⟨g, k + m, none⟩ = some (.int .i64 cur) from fun W h => by
                            rw [cell_of_heap h, List.getElem?_toArray, List.getElem?_map, cvW_at la lb k m n (k + m) hsn, ← hcur]; rfl)
                          have HPt := Lib.hid (show ∀ W : World, W.heap[g]? = some (.cells ((cvW la lb k m n).map (fun v => Value.int .i64 v)).toArray 3) → (W.setCells g (k + m) [.int .i64 z]).heap[g]? = some (.cells ((cvW la lb k (m + 1) n).map (fun v => Value.int .i64 v)).toArray 3) from fun W h => by
                            have e : cvW la lb k (m + 1) n = (cvW la lb k m n).set (k + m) z := by
                              rw [← cvW_set la lb k m n hsn, hz, hcur, hq, List.getD_eq_getElem?_getD, List.getD_eq_getElem?_getD, hx, hy]; rfl
                            rw [e]; exact ints_store h (k + m) z)
                          have HAr := Lib.hid hL
                          have HOr := Lib.hid hO
                          clear d1 d2 hO hL hx hy hwr hcur hq hz hqb hcb hge
                          go_upto_region 22 with fail
                          refine wp_region_inv (fun a0 l a' w' => ∃ (u82 : Value) (u83 : Value) (u84 : Value) (u85 : Value) (u86 : Value) (u87 : Value) (u88 : Value) (u89 : Value) (u90 : Value) (u91 : Value) (u92 : Value) (u93 : Value) (u94 : Value) (u95 : Value) (u96 : Value) (u97 : Value) (u98 : Value), a' = (Act.put (Act.put (Act.put (Act.put (Act.put (Act.put (Act.put (Act.put (Act.put (Act.put (Act.put (Act.put (Act.put (Act.put (Act.put (Act.put (Act.put a0 (some 82) u82) (some 83) u83) (some 84) u84) (some 85) u85) (some 86) u86) (some 87) u87) (some 88) u88) (some 89) u89) (some 90) u90) (some 91) u91) (some 92) u92) (some 93) u93) (some 94) u94) (some 95) u95) (some 96) u96) (some 97) u97) (some 98) u98) ∧ Slot l 0 u82 (.slice (some ⟨g, 0, none⟩) n n) ∧ Slot l 1 u83 (.int .i64 (k : Int)) ∧ Slot l 2 u84 (.int .i64 (m : Int)) ∧ Slot l 3 u85 (.int .i64 ((k : Int) + (m : Int))) ∧ Slot l 4 u86 (.pointer (some ⟨g, k + m, none⟩)) ∧ Slot l 5 u87 (.int .i64 cur) ∧ Slot l 6 u88 (.slice (some ⟨b1, o1, none⟩) n1 cap1) ∧ Slot l 7 u89 (.int .i64 (k : Int)) ∧ Slot l 8 u90 (.pointer (some ⟨b1, o1 + k, none⟩)) ∧ Slot l 9 u91 (.int .i64 x) ∧ Slot l 10 u92 (.slice (some ⟨b2, o2, none⟩) n2 cap2) ∧ Slot l 11 u93 (.int .i64 (m : Int)) ∧ Slot l 12 u94 (.pointer (some ⟨b2, o2 + m, none⟩)) ∧ Slot l 13 u95 (.int .i64 y) ∧ Slot l 14 u96 (.int .i64 q) ∧ Slot l 15 u97 (.int .i64 z) ∧ Slot l 16 u98 (.pointer (some ⟨g, k + m, none⟩)) ∧ Old l 17 g wr0 w' (.cells ((cvW la lb k m n).map (fun v => Value.int .i64 v)).toArray 3) (.cells ((cvW la lb k (m + 1) n).map (fun v => Value.int .i64 v)).toArray 3) ∧ Dep l 5 17 ∧ Off (fun k => k = g) wr0 w') (by kernel_rfl) (by kernel_rfl) ?_ ⟨?_, ?_, ?_, ?_, ?_, ?_, ?_, ?_, ?_, ?_, ?_, ?_, ?_, ?_, ?_, ?_, ?_, ?_, trivial⟩ ?_
                          · refine ⟨?z82, ?z83, ?z84, ?z85, ?z86, ?z87, ?z88, ?z89, ?z90, ?z91, ?z92, ?z93, ?z94, ?z95, ?z96, ?z97, ?z98, ?fr, Slot.start _ _ _, Slot.start _ _ _, Slot.start _ _ _, Slot.start _ _ _, Slot.start _ _ _, Slot.start _ _ _, Slot.start _ _ _, Slot.start _ _ _, Slot.start _ _ _, Slot.start _ _ _, Slot.start _ _ _, Slot.start _ _ _, Slot.start _ _ _, Slot.start _ _ _, Slot.start _ _ _, Slot.start _ _ _, Slot.start _ _ _, Old.start HAr.out _ _, Dep.start _ _, (Off.refl _ wr0).drew⟩
                            case fr => first | (simp only [Act.put, List.setIfInBounds_toArray, List.set_cons_zero, List.set_cons_succ]; rfl) | simp only [Act.put, List.setIfInBounds_toArray, List.set_cons_zero, List.set_cons_succ]
                          · intro l a wr hI hl hd K' hK
                            obtain ⟨u82, u83, u84, u85, u86, u87, u88, u89, u90, u91, u92, u93, u94, u95, u96, u97, u98, ha, s0, s1, s2, s3, s4, s5, s6, s7, s8, s9, s10, s11, s12, s13, s14, s15, s16, O0, P5_17, hO⟩ := hI
                            simp only [Act.put, List.setIfInBounds_toArray, List.set_cons_zero, List.set_cons_succ] at ha
                            subst ha
                            go_simp
                            refine hK.out _ _ ⟨_, _, _, _, _, _, _, _, _, _, _, _, _, _, _, _, _, ?_, Slot.new _ _ _, s1.keep rfl, s2.keep rfl, s3.keep rfl, s4.keep rfl, s5.keep rfl, s6.keep rfl, s7.keep rfl, s8.keep rfl, s9.keep rfl, s10.keep rfl, s11.keep rfl, s12.keep rfl, s13.keep rfl, s14.keep rfl, s15.keep rfl, s16.keep rfl, O0.keep (Off.refl _ wr) rfl, P5_17.keep rfl, hO⟩
                            simp only [Act.put, List.setIfInBounds_toArray, List.set_cons_zero, List.set_cons_succ]
                          · intro l a wr hI hl hd K' hK
                            obtain ⟨u82, u83, u84, u85, u86, u87, u88, u89, u90, u91, u92, u93, u94, u95, u96, u97, u98, ha, s0, s1, s2, s3, s4, s5, s6, s7, s8, s9, s10, s11, s12, s13, s14, s15, s16, O0, P5_17, hO⟩ := hI
                            simp only [Act.put, List.setIfInBounds_toArray, List.set_cons_zero, List.set_cons_succ] at ha
                            subst ha
                            go_simp
                            refine hK.out _ _ ⟨_, _, _, _, _, _, _, _, _, _, _, _, _, _, _, _, _, ?_, s0.keep rfl, Slot.new _ _ _, s2.keep rfl, s3.keep rfl, s4.keep rfl, s5.keep rfl, s6.keep rfl, s7.keep rfl, s8.keep rfl, s9.keep rfl, s10.keep rfl, s11.keep rfl, s12.keep rfl, s13.keep rfl, s14.keep rfl, s15.keep rfl, s16.keep rfl, O0.keep (Off.refl _ wr) rfl, P5_17.keep rfl, hO⟩
                            simp only [Act.put, List.setIfInBounds_toArray, List.set_cons_zero, List.set_cons_succ]
                          · intro l a wr hI hl hd K' hK
                            obtain ⟨u82, u83, u84, u85, u86, u87, u88, u89, u90, u91, u92, u93, u94, u95, u96, u97, u98, ha, s0, s1, s2, s3, s4, s5, s6, s7, s8, s9, s10, s11, s12, s13, s14, s15, s16, O0, P5_17, hO⟩ := hI
                            simp only [Act.put, List.setIfInBounds_toArray, List.set_cons_zero, List.set_cons_succ] at ha
                            subst ha
                            go_simp
                            refine hK.out _ _ ⟨_, _, _, _, _, _, _, _, _, _, _, _, _, _, _, _, _, ?_, s0.keep rfl, s1.keep rfl, Slot.new _ _ _, s3.keep rfl, s4.keep rfl, s5.keep rfl, s6.keep rfl, s7.keep rfl, s8.keep rfl, s9.keep rfl, s10.keep rfl, s11.keep rfl, s12.keep rfl, s13.keep rfl, s14.keep rfl, s15.keep rfl, s16.keep rfl, O0.keep (Off.refl _ wr) rfl, P5_17.keep rfl, hO⟩
                            simp only [Act.put, List.setIfInBounds_toArray, List.set_cons_zero, List.set_cons_succ]
                          · intro l a wr hI hl hd K' hK
                            obtain ⟨u82, u83, u84, u85, u86, u87, u88, u89, u90, u91, u92, u93, u94, u95, u96, u97, u98, ha, s0, s1, s2, s3, s4, s5, s6, s7, s8, s9, s10, s11, s12, s13, s14, s15, s16, O0, P5_17, hO⟩ := hI
                            simp only [Act.put, List.setIfInBounds_toArray, List.set_cons_zero, List.set_cons_succ] at ha
                            have q1 := s1 (hd 1 (by decide))
                            have q2 := s2 (hd 2 (by decide))
                            subst ha q1 q2
                            go_simp
                            refine hK.out _ _ ⟨_, _, _, _, _, _, _, _, _, _, _, _, _, _, _, _, _, ?_, s0.keep rfl, s1.keep rfl, s2.keep rfl, Slot.new _ _ _, s4.keep rfl, s5.keep rfl, s6.keep rfl, s7.keep rfl, s8.keep rfl, s9.keep rfl, s10.keep rfl, s11.keep rfl, s12.keep rfl, s13.keep rfl, s14.keep rfl, s15.keep rfl, s16.keep rfl, O0.keep (Off.refl _ wr) rfl, P5_17.keep rfl, hO⟩
                            simp only [Act.put, List.setIfInBounds_toArray, List.set_cons_zero, List.set_cons_succ]
                          · intro l a wr hI hl hd K' hK
                            obtain ⟨u82, u83, u84, u85, u86, u87, u88, u89, u90, u91, u92, u93, u94, u95, u96, u97, u98, ha, s0, s1, s2, s3, s4, s5, s6, s7, s8, s9, s10, s11, s12, s13, s14, s15, s16, O0, P5_17, hO⟩ := hI
                            simp only [Act.put, List.setIfInBounds_toArray, List.set_cons_zero, List.set_cons_succ] at ha
                            have q0 := s0 (hd 0 (by decide))
                            have q3 := s3 (hd 3 (by decide))
                            subst ha q0 q3
                            go_simp
                            refine hK.out _ _ ⟨_, _, _, _, _, _, _, _, _, _, _, _, _, _, _, _, _, ?_, s0.keep rfl, s1.keep rfl, s2.keep rfl, s3.keep rfl, Slot.new _ _ _, s5.keep rfl, s6.keep rfl, s7.keep rfl, s8.keep rfl, s9.keep rfl, s10.keep rfl, s11.keep rfl, s12.keep rfl, s13.keep rfl, s14.keep rfl, s15.keep rfl, s16.keep rfl, O0.keep (Off.refl _ wr) rfl, P5_17.keep rfl, hO⟩
                            simp only [Act.put, List.setIfInBounds_toArray, List.set_cons_zero, List.set_cons_succ]
                          · intro l a wr hI hl hd K' hK
                            obtain ⟨u82, u83, u84, u85, u86, u87, u88, u89, u90, u91, u92, u93, u94, u95, u96, u97, u98, ha, s0, s1, s2, s3, s4, s5, s6, s7, s8, s9, s10, s11, s12, s13, s14, s15, s16, O0, P5_17, hO⟩ := hI
                            simp only [Act.put, List.setIfInBounds_toArray, List.set_cons_zero, List.set_cons_succ] at ha
                            have q4 := s4 (hd 4 (by decide))
                            subst ha q4
                            have hZ := O0.was (P5_17 hl)
                            obtain ⟨p0, p1, p2, p3⟩ := And.intro (HCe.out wr hZ) (And.intro trivial (And.intro trivial trivial))
                            clear hZ
                            go_simp
                            refine hK.out _ _ ⟨_, _, _, _, _, _, _, _, _, _, _, _, _, _, _, _, _, ?_, s0.keep rfl, s1.keep rfl, s2.keep rfl, s3.keep rfl, s4.keep rfl, Slot.new _ _ _, s6.keep rfl, s7.keep rfl, s8.keep rfl, s9.keep rfl, s10.keep rfl, s11.keep rfl, s12.keep rfl, s13.keep rfl, s14.keep rfl, s15.keep rfl, s16.keep rfl, O0.keep (Off.refl _ wr) rfl, P5_17.keep rfl, hO⟩
                            simp only [Act.put, List.setIfInBounds_toArray, List.set_cons_zero, List.set_cons_succ]
                          · intro l a wr hI hl hd K' hK
                            obtain ⟨u82, u83, u84, u85, u86, u87, u88, u89, u90, u91, u92, u93, u94, u95, u96, u97, u98, ha, s0, s1, s2, s3, s4, s5, s6, s7, s8, s9, s10, s11, s12, s13, s14, s15, s16, O0, P5_17, hO⟩ := hI
                            simp only [Act.put, List.setIfInBounds_toArray, List.set_cons_zero, List.set_cons_succ] at ha
                            subst ha
                            go_simp
                            refine hK.out _ _ ⟨_, _, _, _, _, _, _, _, _, _, _, _, _, _, _, _, _, ?_, s0.keep rfl, s1.keep rfl, s2.keep rfl, s3.keep rfl, s4.keep rfl, s5.keep rfl, Slot.new _ _ _, s7.keep rfl, s8.keep rfl, s9.keep rfl, s10.keep rfl, s11.keep rfl, s12.keep rfl, s13.keep rfl, s14.keep rfl, s15.keep rfl, s16.keep rfl, O0.keep (Off.refl _ wr) rfl, P5_17.keep rfl, hO⟩
                            simp only [Act.put, List.setIfInBounds_toArray, List.set_cons_zero, List.set_cons_succ]
                          · intro l a wr hI hl hd K' hK
                            obtain ⟨u82, u83, u84, u85, u86, u87, u88, u89, u90, u91, u92, u93, u94, u95, u96, u97, u98, ha, s0, s1, s2, s3, s4, s5, s6, s7, s8, s9, s10, s11, s12, s13, s14, s15, s16, O0, P5_17, hO⟩ := hI
                            simp only [Act.put, List.setIfInBounds_toArray, List.set_cons_zero, List.set_cons_succ] at ha
                            subst ha
                            go_simp
                            refine hK.out _ _ ⟨_, _, _, _, _, _, _, _, _, _, _, _, _, _, _, _, _, ?_, s0.keep rfl, s1.keep rfl, s2.keep rfl, s3.keep rfl, s4.keep rfl, s5.keep rfl, s6.keep rfl, Slot.new _ _ _, s8.keep rfl, s9.keep rfl, s10.keep rfl, s11.keep rfl, s12.keep rfl, s13.keep rfl, s14.keep rfl, s15.keep rfl, s16.keep rfl, O0.keep (Off.refl _ wr) rfl, P5_17.keep rfl, hO⟩
                            simp only [Act.put, List.setIfInBounds_toArray, List.set_cons_zero, List.set_cons_succ]
                          · intro l a wr hI hl hd K' hK
                            obtain ⟨u82, u83, u84, u85, u86, u87, u88, u89, u90, u91, u92, u93, u94, u95, u96, u97, u98, ha, s0, s1, s2, s3, s4, s5, s6, s7, s8, s9, s10, s11, s12, s13, s14, s15, s16, O0, P5_17, hO⟩ := hI
                            simp only [Act.put, List.setIfInBounds_toArray, List.set_cons_zero, List.set_cons_succ] at ha
                            have q6 := s6 (hd 6 (by decide))
                            have q7 := s7 (hd 7 (by decide))
                            subst ha q6 q7
                            go_simp
                            refine hK.out _ _ ⟨_, _, _, _, _, _, _, _, _, _, _, _, _, _, _, _, _, ?_, s0.keep rfl, s1.keep rfl, s2.keep rfl, s3.keep rfl, s4.keep rfl, s5.keep rfl, s6.keep rfl, s7.keep rfl, Slot.new _ _ _, s9.keep rfl, s10.keep rfl, s11.keep rfl, s12.keep rfl, s13.keep rfl, s14.keep rfl, s15.keep rfl, s16.keep rfl, O0.keep (Off.refl _ wr) rfl, P5_17.keep rfl, hO⟩
                            simp only [Act.put, List.setIfInBounds_toArray, List.set_cons_zero, List.set_cons_succ]
                          · intro l a wr hI hl hd K' hK
                            obtain ⟨u82, u83, u84, u85, u86, u87, u88, u89, u90, u91, u92, u93, u94, u95, u96, u97, u98, ha, s0, s1, s2, s3, s4, s5, s6, s7, s8, s9, s10, s11, s12, s13, s14, s15, s16, O0, P5_17, hO⟩ := hI
                            simp only [Act.put, List.setIfInBounds_toArray, List.set_cons_zero, List.set_cons_succ] at ha
                            have q8 := s8 (hd 8 (by decide))
                            subst ha q8
                            have hc := HK.out wr hO
                            have p0 := hc.1
                            clear hc
                            go_simp
                            refine hK.out _ _ ⟨_, _, _, _, _, _, _, _, _, _, _, _, _, _, _, _, _, ?_, s0.keep rfl, s1.keep rfl, s2.keep rfl, s3.keep rfl, s4.keep rfl, s5.keep rfl, s6.keep rfl, s7.keep rfl, s8.keep rfl, Slot.new _ _ _, s10.keep rfl, s11.keep rfl, s12.keep rfl, s13.keep rfl, s14.keep rfl, s15.keep rfl, s16.keep rfl, O0.keep (Off.refl _ wr) rfl, P5_17.keep rfl, hO⟩
                            simp only [Act.put, List.setIfInBounds_toArray, List.set_cons_zero, List.set_cons_succ]
                          · intro l a wr hI hl hd K' hK
                            obtain ⟨u82, u83, u84, u85, u86, u87, u88, u89, u90, u91, u92, u93, u94, u95, u96, u97, u98, ha, s0, s1, s2, s3, s4, s5, s6, s7, s8, s9, s10, s11, s12, s13, s14, s15, s16, O0, P5_17, hO⟩ := hI
                            simp only [Act.put, List.setIfInBounds_toArray, List.set_cons_zero, List.set_cons_succ] at ha
                            subst ha
                            go_simp
                            refine hK.out _ _ ⟨_, _, _, _, _, _, _, _, _, _, _, _, _, _, _, _, _, ?_, s0.keep rfl, s1.keep rfl, s2.keep rfl, s3.keep rfl, s4.keep rfl, s5.keep rfl, s6.keep rfl, s7.keep rfl, s8.keep rfl, s9.keep rfl, Slot.new _ _ _, s11.keep rfl, s12.keep rfl, s13.keep rfl, s14.keep rfl, s15.keep rfl, s16.keep rfl, O0.keep (Off.refl _ wr) rfl, P5_17.keep rfl, hO⟩
                            simp only [Act.put, List.setIfInBounds_toArray, List.set_cons_zero, List.set_cons_succ]
                          · intro l a wr hI hl hd K' hK
                            obtain ⟨u82, u83, u84, u85, u86, u87, u88, u89, u90, u91, u92, u93, u94, u95, u96, u97, u98, ha, s0, s1, s2, s3, s4, s5, s6, s7, s8, s9, s10, s11, s12, s13, s14, s15, s16, O0, P5_17, hO⟩ := hI
                            simp only [Act.put, List.setIfInBounds_toArray, List.set_cons_zero, List.set_cons_succ] at ha
                            subst ha
                            go_simp
                            refine hK.out _ _ ⟨_, _, _, _, _, _, _, _, _, _, _, _, _, _, _, _, _, ?_, s0.keep rfl, s1.keep rfl, s2.keep rfl, s3.keep rfl, s4.keep rfl, s5.keep rfl, s6.keep rfl, s7.keep rfl, s8.keep rfl, s9.keep rfl, s10.keep rfl, Slot.new _ _ _, s12.keep rfl, s13.keep rfl, s14.keep rfl, s15.keep rfl, s16.keep rfl, O0.keep (Off.refl _ wr) rfl, P5_17.keep rfl, hO⟩
                            simp only [Act.put, List.setIfInBounds_toArray, List.set_cons_zero, List.set_cons_succ]
                          · intro l a wr hI hl hd K' hK
                            obtain ⟨u82, u83, u84, u85, u86, u87, u88, u89, u90, u91, u92, u93, u94, u95, u96, u97, u98, ha, s0, s1, s2, s3, s4, s5, s6, s7, s8, s9, s10, s11, s12, s13, s14, s15, s16, O0, P5_17, hO⟩ := hI
                            simp only [Act.put, List.setIfInBounds_toArray, List.set_cons_zero, List.set_cons_succ] at ha
                            have q10 := s10 (hd 10 (by decide))
                            have q11 := s11 (hd 11 (by decide))
                            subst ha q10 q11
                            go_simp
                            refine hK.out _ _ ⟨_, _, _, _, _, _, _, _, _, _, _, _, _, _, _, _, _, ?_, s0.keep rfl, s1.keep rfl, s2.keep rfl, s3.keep rfl, s4.keep rfl, s5.keep rfl, s6.keep rfl, s7.keep rfl, s8.keep rfl, s9.keep rfl, s10.keep rfl, s11.keep rfl, Slot.new _ _ _, s13.keep rfl, s14.keep rfl, s15.keep rfl, s16.keep rfl, O0.keep (Off.refl _ wr) rfl, P5_17.keep rfl, hO⟩
                            simp only [Act.put, List.setIfInBounds_toArray, List.set_cons_zero, List.set_cons_succ]
                          · intro l a wr hI hl hd K' hK
                            obtain ⟨u82, u83, u84, u85, u86, u87, u88, u89, u90, u91, u92, u93, u94, u95, u96, u97, u98, ha, s0, s1, s2, s3, s4, s5, s6, s7, s8, s9, s10, s11, s12, s13, s14, s15, s16, O0, P5_17, hO⟩ := hI
                            simp only [Act.put, List.setIfInBounds_toArray, List.set_cons_zero, List.set_cons_succ] at ha
                            have q12 := s12 (hd 12 (by decide))
                            subst ha q12
                            have hc := HK.out wr hO
                            have p0 := hc.2.1
                            clear hc
                            go_simp
                            refine hK.out _ _ ⟨_, _, _, _, _, _, _, _, _, _, _, _, _, _, _, _, _, ?_, s0.keep rfl, s1.keep rfl, s2.keep rfl, s3.keep rfl, s4.keep rfl, s5.keep rfl, s6.keep rfl, s7.keep rfl, s8.keep rfl, s9.keep rfl, s10.keep rfl, s11.keep rfl, s12.keep rfl, Slot.new _ _ _, s14.keep rfl, s15.keep rfl, s16.keep rfl, O0.keep (Off.refl _ wr) rfl, P5_17.keep rfl, hO⟩
                            simp only [Act.put, List.setIfInBounds_toArray, List.set_cons_zero, List.set_cons_succ]
                          · intro l a wr hI hl hd K' hK
                            obtain ⟨u82, u83, u84, u85, u86, u87, u88, u89, u90, u91, u92, u93, u94, u95, u96, u97, u98, ha, s0, s1, s2, s3, s4, s5, s6, s7, s8, s9, s10, s11, s12, s13, s14, s15, s16, O0, P5_17, hO⟩ := hI
                            simp only [Act.put, List.setIfInBounds_toArray, List.set_cons_zero, List.set_cons_succ] at ha
                            have q9 := s9 (hd 9 (by decide))
                            have q13 := s13 (hd 13 (by decide))
                            subst ha q9 q13
                            go_simp
                            refine hK.out _ _ ⟨_, _, _, _, _, _, _, _, _, _, _, _, _, _, _, _, _, ?_, s0.keep rfl, s1.keep rfl, s2.keep rfl, s3.keep rfl, s4.keep rfl, s5.keep rfl, s6.keep rfl, s7.keep rfl, s8.keep rfl, s9.keep rfl, s10.keep rfl, s11.keep rfl, s12.keep rfl, s13.keep rfl, Slot.new _ _ _, s15.keep rfl, s16.keep rfl, O0.keep (Off.refl _ wr) rfl, P5_17.keep rfl, hO⟩
                            simp only [Act.put, List.setIfInBounds_toArray, List.set_cons_zero, List.set_cons_succ]
                          · intro l a wr hI hl hd K' hK
                            obtain ⟨u82, u83, u84, u85, u86, u87, u88, u89, u90, u91, u92, u93, u94, u95, u96, u97, u98, ha, s0, s1, s2, s3, s4, s5, s6, s7, s8, s9, s10, s11, s12, s13, s14, s15, s16, O0, P5_17, hO⟩ := hI
                            simp only [Act.put, List.setIfInBounds_toArray, List.set_cons_zero, List.set_cons_succ] at ha
                            have q5 := s5 (hd 5 (by decide))
                            have q14 := s14 (hd 14 (by decide))
                            subst ha q5 q14
                            go_simp
                            refine hK.out _ _ ⟨_, _, _, _, _, _, _, _, _, _, _, _, _, _, _, _, _, ?_, s0.keep rfl, s1.keep rfl, s2.keep rfl, s3.keep rfl, s4.keep rfl, s5.keep rfl, s6.keep rfl, s7.keep rfl, s8.keep rfl, s9.keep rfl, s10.keep rfl, s11.keep rfl, s12.keep rfl, s13.keep rfl, s14.keep rfl, Slot.new _ _ _, s16.keep rfl, O0.keep (Off.refl _ wr) rfl, P5_17.keep rfl, hO⟩
                            simp only [Act.put, List.setIfInBounds_toArray, List.set_cons_zero, List.set_cons_succ]
                          · intro l a wr hI hl hd K' hK
                            obtain ⟨u82, u83, u84, u85, u86, u87, u88, u89, u90, u91, u92, u93, u94, u95, u96, u97, u98, ha, s0, s1, s2, s3, s4, s5, s6, s7, s8, s9, s10, s11, s12, s13, s14, s15, s16, O0, P5_17, hO⟩ := hI
                            simp only [Act.put, List.setIfInBounds_toArray, List.set_cons_zero, List.set_cons_succ] at ha
                            have q0 := s0 (hd 0 (by decide))
                            have q3 := s3 (hd 3 (by decide))
                            subst ha q0 q3
                            go_simp
                            refine hK.out _ _ ⟨_, _, _, _, _, _, _, _, _, _, _, _, _, _, _, _, _, ?_, s0.keep rfl, s1.keep rfl, s2.keep rfl, s3.keep rfl, s4.keep rfl, s5.keep rfl, s6.keep rfl, s7.keep rfl, s8.keep rfl, s9.keep rfl, s10.keep rfl, s11.keep rfl, s12.keep rfl, s13.keep rfl, s14.keep rfl, s15.keep rfl, Slot.new _ _ _, O0.keep (Off.refl _ wr) rfl, P5_17.keep rfl, hO⟩
                            simp only [Act.put, List.setIfInBounds_toArray, List.set_cons_zero, List.set_cons_succ]
                          · intro l a wr hI hl hd K' hK
                            obtain ⟨u82, u83, u84, u85, u86, u87, u88, u89, u90, u91, u92, u93, u94, u95, u96, u97, u98, ha, s0, s1, s2, s3, s4, s5, s6, s7, s8, s9, s10, s11, s12, s13, s14, s15, s16, O0, P5_17, hO⟩ := hI
                            simp only [Act.put, List.setIfInBounds_toArray, List.set_cons_zero, List.set_cons_succ] at ha
                            have q15 := s15 (hd 15 (by decide))
                            have q16 := s16 (hd 16 (by decide))
                            subst ha q15 q16
                            have hZ := (O0.was hl)
                            have m0 := HCe.out wr hZ
                            have fz := fun j => frozen_of_heap hZ j
                            have lt := heap_lt hZ
                            clear hZ
                            go_simp
                            refine hK.out _ _ ⟨_, _, _, _, _, _, _, _, _, _, _, _, _, _, _, _, _, ?_, s0.keep rfl, s1.keep rfl, s2.keep rfl, s3.keep rfl, s4.keep rfl, s5.keep rfl, s6.keep rfl, s7.keep rfl, s8.keep rfl, s9.keep rfl, s10.keep rfl, s11.keep rfl, s12.keep rfl, s13.keep rfl, s14.keep rfl, s15.keep rfl, s16.keep rfl, O0.putAt (HPt.out wr) hl, Dep.at (hd 5 (by decide)), setCells_in_at hO (fun _ => rfl) [.int .i64 z]⟩
                            simp only [Act.put, List.setIfInBounds_toArray, List.set_cons_zero, List.set_cons_succ]
                          · intro l a wc hI hd
                            obtain ⟨u82, u83, u84, u85, u86, u87, u88, u89, u90, u91, u92, u93, u94, u95, u96, u97, u98, ha, s0, s1, s2, s3, s4, s5, s6, s7, s8, s9, s10, s11, s12, s13, s14, s15, s16, O0, P5_17, hO⟩ := hI
                            simp only [Act.put, List.setIfInBounds_toArray, List.set_cons_zero, List.set_cons_succ] at ha
                            have q0 := s0 (hd 0 (by decide))
                            have q1 := s1 (hd 1 (by decide))
                            have q2 := s2 (hd 2 (by decide))
                            have q3 := s3 (hd 3 (by decide))
                            have q4 := s4 (hd 4 (by decide))
                            have q5 := s5 (hd 5 (by decide))
                            have q6 := s6 (hd 6 (by decide))
                            have q7 := s7 (hd 7 (by decide))
                            have q8 := s8 (hd 8 (by decide))
                            have q9 := s9 (hd 9 (by decide))
                            have q10 := s10 (hd 10 (by decide))
                            have q11 := s11 (hd 11 (by decide))
                            have q12 := s12 (hd 12 (by decide))
                            have q13 := s13 (hd 13 (by decide))
                            have q14 := s14 (hd 14 (by decide))
                            have q15 := s15 (hd 15 (by decide))
                            have q16 := s16 (hd 16 (by decide))
                            have r0 : wc.heap[g]? = some (.cells ((cvW la lb k (m + 1) n).map (fun v => Value.int .i64 v)).toArray 3) := O0.now (hd 17 (by decide))
                            subst ha q0 q1 q2 q3 q4 q5 q6 q7 q8 q9 q10 q11 q12 q13 q14 q15 q16
                            clear hd s0 s1 s2 s3 s4 s5 s6 s7 s8 s9 s10 s11 s12 s13 s14 s15 s16 O0 P5_17
                            have HO2 := Lib.hid (HOr.out.trans hO (fun j hj e => by have := Hg.out; omega))
                            have HL2 := Lib.hid r0
                            clear hO r0
                            go_wp2
                            go_roundw
                            case rel => exact ⟨m + 1, by omega, by simp, HL2.out, HO2.out⟩
                            case measure => simp [intOf] <;> omega
                        · obtain rfl : n2 = m := by omega
                          have hmi : ¬ ((n2 : Nat) : Int) < (n2 : Int) := by omega
                          rw [HN2.out, cvW_row] at hL
                          have HL2 := Lib.hid hL
                          have HO2 := Lib.hid hO
                          clear hL hO
                          go_wp2
                          go_roundw
                          case rel => exact ⟨k + 1, by omega, by simp, HL2.out, HO2.out⟩
                          case measure => simp [intOf] <;> omega
                    · obtain rfl : n1 = k := by omega
                      have hki : ¬ ((n1 : Nat) : Int) < (n1 : Int) := by omega
                      have hIv : Iv wr (.slice (some ⟨g, 0, none⟩) n n) P := by
                        rw [HNe.out, HN1.out, cvW_end, ← HFin.out] at hL
                        have hPl : P.length = n := by rw [HFin.out, HNe.out]; simp [cvL]
                        refine ⟨some ⟨g, 0, none⟩, n, by rw [hPl], by rw [hPl]; unfold maxLen; omega, fun v hv => ?_, fun _ => ⟨g, 0, rfl, trivial, fun j v hv => ?_⟩⟩
                        · rw [HFin.out] at hv
                          obtain ⟨m, _, rfl⟩ := List.mem_map.1 hv
                          have := cvS_small HA.out HB.out m la.length
                          have := HN1.out
                          exact wf_i64 (by omega) (by omega)
                        · rw [cell_of_heap hL, List.getElem?_toArray, Nat.zero_add, List.getElem?_map, hv]; rfl
                      have HI := Lib.hid hIv
                      have HO2 := Lib.hid hO
                      clear hIv hL hO
                      go_wp2
                      refine bodyPost_ret (results_tmp2 rfl _ _ _) rfl ?_
                      exact ⟨.slice (some ⟨g, 0, none⟩) n n, by rw [HE0.out]; rfl, HI.out, HO2.out⟩
end Go.Proofs.YtghacjhempmejaaDoor
