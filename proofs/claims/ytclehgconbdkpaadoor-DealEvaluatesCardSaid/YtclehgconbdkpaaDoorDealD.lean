/-
  The contract of package deal's checkPolynomials over this seat's translation. Conditions: the lists lie in memory; the table of fields lies in memory as it was laid.
  The contract of the closure that package deal's evaluator returns, over this seat's translation: the values of all polynomials at an index, with the events. Conditions: the field's constants are those of its modulus, the lists lie in memory, outside of the tape.
  The contract of the iterator that package deal's emptyShares returns, over this seat's translation: it yields the shares without payloads, in ascending order of their indices. Condition: the number of shares is from 0 to 255 and the parameters stay in their box.
  The contract of package deal's Polynomials over this seat's translation. Conditions: the parameters are ints, the secret and the random bytes lie in memory and are short; the table of fields lies in memory as it was laid.
  What lies in memory while package deal's Evaluate makes its shares, and what each step leaves of it. Plain facts on worlds; no condition.
  The contract of package deal's Evaluate over this seat's translation. Conditions: the parameters are ints, the lists lie in memory outside of the tape; the table of fields lies in memory as it was laid.
  The contract of package deal's Deal over this seat's translation. Conditions: the parameters are ints, the secret and the random bytes lie in memory and are short; the table of fields lies in memory as it was laid.
-/
import Derived.Test.YtclehgconbdkpaaDoorDealPlain
import Derived.Test.YtclehgconbdkpaaDoorDealB
import Derived.Test.YtclehgconbdkpaaDoorParEnd
import Derived.Test.YtclehgconbdkpaaDoorQOff
import Derived.Test.YtclehgconbdkpaaDoorPolEval
import Derived.Test.YtclehgconbdkpaaDoorInvTape
import Derived.Test.YtclehgconbdkpaaDoorParGrp
import Derived.Test.YtclehgconbdkpaaDoorPolCore
import Derived.RangeFuncNested
import Derived.RangeFuncBound
import Derived.RangeFuncCalls
import Derived.RangeFuncLeaves
import Derived.RangeFuncBox
import Derived.RangeFuncFrom
import Derived.Shelf.Abstract
import Derived.Shelf.RegionOpen
import Derived.OwnWalkIn
import Derived.TacticsInMore
import Derived.LoopNIn
import Derived.LoopIn
import Derived.Test.YtclehgconbdkpaaDoorChkAll
import Derived.Test.YtclehgconbdkpaaDoorSrcEnd
import Derived.Test.YtclehgconbdkpaaDoorFieldGrp
import Derived.Test.YtclehgconbdkpaaDoorBytRow
import Derived.Test.YtclehgconbdkpaaDoorShrRow
import Derived.Test.YtclehgconbdkpaaDoorDealA
import Derived.ArgAppend
namespace Go.Proofs.YtclehgconbdkpaaDoor
section
open Go.RowKit
attribute [local go_sem ↓] Go.wp_at_zero Go.wp_at_succ
set_option maxRecDepth 100000
set_option maxHeartbeats 4000000
theorem evaE_ok {q : Pms} {cs : List (List Nat)} (h : evaE q cs = 0) : prN q = 0 ∧ cs.length = q.cn ∧ ∀ c ∈ cs, c.length = q.T := by
  unfold evaE at h
  split at h
  · next c => exact absurd h c
  · next c1 =>
    split at h
    · exact absurd h (by decide)
    · next c2 =>
      refine ⟨by omega, ?_, fun c hc => ?_⟩
      · exact Decidable.byContradiction fun hn => c2 (.inl hn)
      · exact Decidable.byContradiction fun hn => c2 (.inr ⟨c, hc, hn⟩)
theorem checkpol_any (q : Pms) (hq : q.ok) (xs : List (List Nat)) (v : Value) (w : World) (hL : LLs w v xs) (hT : TabAt w) :
    Calls Tryd.prog 43 #[q.val, v] w fun e w' => e = .returned (.int .i64 (evaE q xs : Int)) ∧ Off (fun _ => False) w w' := by
  obtain ⟨c, hc⟩ : ∃ c, c = evaE q xs := ⟨_, rfl⟩
  rw [← hc]
  have FK0 := fun W (h : Off (fun _ => False) w W) => check_par q hq W (hT.off h)
  have FN0 := fun W => count_any q.ln hq.2.2.2 W
  obtain ⟨d, hd⟩ : ∃ d, d = prN q := ⟨_, rfl⟩
  obtain ⟨cn, hcn⟩ : ∃ cn, cn = q.cn := ⟨_, rfl⟩
  unfold evaE at hc
  rw [← hd, ← hcn] at hc
  rw [← hd] at FK0
  rw [show cntI q.ln = cn from hcn.symm] at FN0
  have HP := Lib.hid (show d = 0 → 1 ≤ q.th from fun h => (prN_ok (q := q) (by omega)).2.2.2.1)
  obtain ⟨T, hTT⟩ : ∃ T, T = q.T := ⟨_, rfl⟩
  rw [← hTT] at hc
  unfold Pms.T at hTT
  clear hd hcn hq hT
  obtain ⟨fd, th, sh, ln⟩ := q
  unfold Pms.val at FK0 ⊢
  dsimp only at FK0 FN0 HP hTT ⊢
  have FK := Lib.hid FK0
  have FN := Lib.hid FN0
  clear FK0 FN0
  have hz := hL
  obtain ⟨a, cap, rfl, _, _⟩ := hz
  obtain ⟨m, hm⟩ : ∃ m, m = xs.length := ⟨_, rfl⟩
  rw [← hm] at hL hc ⊢
  have hm1 := (LLsAt.len hL).2
  have HM := Lib.hid hm
  clear hm
  obtain ⟨W0, hW0⟩ : ∃ W0, W0 = w.alloc (.cells #[.int .i64 fd, .int .i64 th, .int .i64 sh, .int .i64 ln] 23) := ⟨_, rfl⟩
  have HG0 := Lib.hid (show W0.heap[w.heap.size]? = some (.cells #[.int .i64 fd, .int .i64 th, .int .i64 sh, .int .i64 ln] 23 (0, 0)) by rw [hW0]; exact heap_new' rfl _)
  have HO0 := Lib.hid (show Off (fun _ => False) w W0 by rw [hW0]; exact (Off.refl _ w).alloc _)
  have HW0 := Lib.hid hW0
  have HL := Lib.hid hL
  clear hW0 hL
  by_cases h0 : d = 0
  · subst h0
    rw [if_neg (by omega)] at hc
    have hth := HP.out rfl
    have HTH := Lib.hid (show th = (T : Int) by omega)
    clear hTT HP hth
    go_enter Tryd.func43, Tryd.ntmps43
    go_wp2_with fail
    rw [← HW0.out]
    obtain ⟨p0, p1, p2, p3⟩ := cells4 HG0.out
    have lp := heap_lt HG0.out
    go_wp2_with fail
    refine (FK.out _ HO0.out).mono ?_
    rintro e u ⟨rfl, hO⟩
    clear p0 p1 p2 p3 lp
    have p3 : u.cell? ⟨w.heap.size, 3, none⟩ = some (.int .i64 ln) := cell_of_heap (hO.heap HG0.out (fun c => c)) 3
    have lp := heap_lt (hO.heap HG0.out (fun c => c))
    have HO1 := Lib.hid (HO0.out.trans hO (fun _ _ c => c))
    have HG1 := Lib.hid (hO.heap HG0.out (fun c => c))
    clear hO
    go_wp2_with fail
    refine (FN.out _).mono ?_
    rintro e u1 ⟨rfl, hO⟩
    have HO2 := Lib.hid (HO1.out.trans hO (fun _ _ c => c))
    have HG2 := Lib.hid (hO.heap HG1.out (fun c => c))
    clear hO p3 lp
    by_cases hmc : m = cn
    · have i1' : ((m : Int) != (cn : Int)) = false := by rw [hmc]; simp
      have HMC := Lib.hid hmc
      have HC0 := Lib.hid (show (∀ (k : Nat) (y : List Nat), xs[k]? = some y → y.length = T) → c = 0 from fun h => by
        rw [hc, if_neg]
        rintro (h1 | ⟨y, h1, h2⟩)
        · exact h1 hmc
        · obtain ⟨k, hk⟩ := List.getElem?_of_mem h1
          exact h2 (h k y hk))
      have HC8 := Lib.hid (show ∀ (k : Nat) (y : List Nat), xs[k]? = some y → y.length ≠ T → c = 8 from fun k y h1 h2 => by rw [hc, if_pos (.inr ⟨y, List.mem_of_getElem? h1, h2⟩)])
      clear hc hmc
      go_wp2
      go_loopw [21] (fun i wr => ∃ j : Nat, j ≤ m ∧ i = .int .i64 (j : Int) ∧ (∀ (k : Nat) (y : List Nat), k < j → xs[k]? = some y → y.length = T) ∧ wr.heap[w.heap.size]? = some (.cells #[.int .i64 fd, .int .i64 th, .int .i64 sh, .int .i64 ln] 23 (0, 0)) ∧ Off (fun _ => False) w wr) (fun i _ => m - (intOf i).toNat)
      case atStart => exact ⟨0, Nat.zero_le _, rfl, fun k y h => absurd h (Nat.not_lt_zero k), HG2.out, HO2.out⟩
      case round =>
        obtain ⟨j, hj, rfl, hall, hg, hO⟩ := hrel
        have HAll := Lib.hid hall
        have HO3 := Lib.hid hO
        have HG3 := Lib.hid hg
        by_cases hlt : j < m
        · obtain ⟨y, hy⟩ : ∃ y, xs[j]? = some y := ⟨_, List.getElem?_eq_getElem (by rw [← HM.out]; exact hlt)⟩
          obtain ⟨b, off, a1, c1, rfl, _, u0, _⟩ := LLsAt.get (HL.out.off hO) hy
          obtain ⟨d, hd⟩ : ∃ d, d = y.length := ⟨_, rfl⟩
          rw [← hd] at u0
          have hlb := World.block_lt_of_cell? wr _ u0
          have p1 : wr.cell? ⟨w.heap.size, 1, none⟩ = some (.int .i64 th) := cell_of_heap hg 1
          have lp := heap_lt hg
          have hjm : (j : Int) < (m : Int) := by omega
          have HY := Lib.hid hy
          have HD := Lib.hid hd
          clear hall hg hO hy hd hj
          by_cases hdT : d = T
          · have i2 : ((d : Int) != th) = false := by have := HTH.out; rw [this, hdT]; simp
            have HDT := Lib.hid hdT
            have w1 : IntKind.i64.wrap ((j : Int) + 1) = (j : Int) + 1 := by rw [IntKind.wrap_i64]; omega
            have HLt := Lib.hid hlt
            clear hdT hlt
            go_wp2
            go_roundw
            case rel =>
              refine ⟨j + 1, HLt.out, rfl, fun k y hk hy => ?_, HG3.out, HO3.out⟩
              by_cases hkj : k = j
              · subst hkj
                rw [HY.out] at hy
                cases hy
                rw [← HD.out, HDT.out]
              · exact HAll.out k y (by omega) hy
            case measure => simp [intOf]; have := HLt.out; omega
          · have i2 : ((d : Int) != th) = true := by have := HTH.out; rw [this]; simp; omega
            obtain rfl : c = 8 := HC8.out j y HY.out (by rw [← HD.out]; exact hdT)
            clear hdT
            go_wp2
            exact bodyPost_ret (v := .int .i64 8) (by simp [results, Tryd.results43, go_sem]) rfl ⟨rfl, HO3.out⟩
        · obtain rfl : j = m := by omega
          have i1 : ¬ (j : Int) < (j : Int) := by omega
          obtain rfl : c = 0 := HC0.out (fun k y h => HAll.out k y (by have := (List.getElem?_eq_some_iff.1 h).1; have := HM.out; omega) h)
          clear hall hO hg hlt hj
          go_wp2
          exact bodyPost_ret (v := .int .i64 0) (by simp [results, Tryd.results43, go_sem]) rfl ⟨rfl, HO3.out⟩
    · have i1' : ((m : Int) != (cn : Int)) = true := by simp; omega
      obtain rfl : c = 8 := by rw [hc, if_pos (.inl hmc)]
      clear hc hmc
      go_wp2
      go_ret
      exact ⟨rfl, HO2.out⟩
  · rw [if_pos h0] at hc
    subst hc
    have i1 : ((c : Int) != 0) = true := by simp; omega
    have i2 : ¬ (c : Int) = 0 := by omega
    clear hTT HP h0
    go_enter Tryd.func43, Tryd.ntmps43
    go_wp2_with fail
    rw [← HW0.out]
    obtain ⟨p0, p1, p2, p3⟩ := cells4 HG0.out
    have lp := heap_lt HG0.out
    go_wp2_with fail
    refine (FK.out _ HO0.out).mono ?_
    rintro e u ⟨rfl, hO⟩
    have HO1 := Lib.hid (HO0.out.trans hO (fun _ _ c => c))
    clear hO p0 p1 p2 p3 lp
    go_wp2
    go_ret
    exact ⟨rfl, HO1.out⟩
end
section
open Go.RowKit
attribute [local go_sem ↓] Go.wp_at_zero Go.wp_at_succ
set_option maxRecDepth 100000
set_option maxHeartbeats 4000000
/-- The payload so far: the first j values, then zeros. -/
def paySo (p m : Nat) (cs : List (List Nat)) (k j : Nat) : List Nat := payN p (cs.take j) k ++ List.replicate (m - j) 0
theorem paySo_length {p m : Nat} {cs : List (List Nat)} {k j : Nat} (hm : m = cs.length) (hj : j ≤ m) : (paySo p m cs k j).length = m := by simp [paySo, payN]; omega
theorem paySo_next {p m : Nat} {cs : List (List Nat)} {k j : Nat} {c : List Nat} (hm : m = cs.length) (hc : cs[j]? = some c) : (paySo p m cs k j).set j (fm p (pv c k % p)) = paySo p m cs k (j + 1) := by
  have hj : j < cs.length := (List.getElem?_eq_some_iff.1 hc).1
  have e1 : (payN p (cs.take j) k).length = j := by simp [payN]; omega
  unfold paySo
  rw [List.take_add_one, hc, show m - j = (m - (j + 1)) + 1 by omega, List.replicate_succ]
  rw [List.set_append_right _ _ (by omega), e1, Nat.sub_self, List.set_cons_zero]
  simp [payN]
theorem paySo_all {p m : Nat} {cs : List (List Nat)} {k : Nat} (hm : m = cs.length) : paySo p m cs k m = payN p cs k := by simp [paySo, hm]
theorem evalat_any {id : Int} {p i0 r s : Nat} (hF : Fld id p i0 r s) (cs : List (List Nat)) (T m : Nat) (hm : m = cs.length) (hm2 : m ≤ 1000) (hcs : ∀ c ∈ cs, c.length = T) (hT2 : T ≤ 255) (k : Nat) (hk : k < 256) (hkp : k < p) (bf bp bt : Nat) (a : Option Addr) (cap : Nat) (q : Option Addr) (es : List Ev) (S Sl : Nat → Prop) (w : World)
    (gf : w.heap[bf]? = some (.cells #[.int .i64 id, .int .u64 (wd p 0 : Int), .int .u64 (wd p 1 : Int), .int .u64 (wd p 2 : Int), .int .u64 (wd p 3 : Int), .int .u64 (i0 : Int), .int .u64 (wd r 0 : Int), .int .u64 (wd r 1 : Int), .int .u64 (wd r 2 : Int), .int .u64 (wd r 3 : Int), .int .u64 (wd s 0 : Int), .int .u64 (wd s 1 : Int), .int .u64 (wd s 2 : Int), .int .u64 (wd s 3 : Int)] 73 (0, 0)))
    (gp : w.heap[bp]? = some (.cells #[.slice a m cap] 29 (0, 0))) (gt : w.heap[bt]? = some (.cells #[.pointer q] 56 (0, 0))) (nf : ¬ S bf) (np : ¬ S bp) (nt : ¬ S bt)
    (hL : LLsAt w (.slice a m cap) (cs.map (·.map (fm p))) Sl) (hSl : ∀ b, Sl b → b < w.heap.size ∧ ¬ S b) (hS : Tp w q es S) (hl : es.length + m * (1 + T) ≤ 70000) :
    Calls Tryd.prog 71 #[.int .i64 (k : Int), .pointer (some ⟨bf, 0, none⟩), .pointer (some ⟨bp, 0, none⟩), .pointer (some ⟨bt, 0, none⟩)] w fun e w' => ∃ b2, e = .returned (.slice (some ⟨b2, 0, none⟩) m m) ∧ w.heap.size ≤ b2 ∧ NumsAt w' b2 66 (payN p cs k) ∧ Noted w.heap.size q es (chEv T m) S w' ∧ Off S w w' := by
  have FM := Lib.hid (fun W => mto_any hF k (Nat.lt_trans hk (by decide)) W)
  rw [Nat.mod_eq_of_lt hkp] at FM
  have hsm := lit_small k (by omega)
  have hwk : IntKind.u64.wrap (k : Int) = (k : Int) := by rw [IntKind.wrap_u64]; omega
  have hmk := run_make_el m (by omega)
  obtain ⟨X, hX⟩ : ∃ X, X = fm p k := ⟨_, rfl⟩
  have HX := Lib.hid hX
  rw [← hX, hsm] at FM
  have HGf := Lib.hid gf
  have HGp := Lib.hid gp
  have HGt := Lib.hid gt
  have HNo := Lib.hid (And.intro nf (And.intro np nt))
  have HL := Lib.hid hL
  have HSl := Lib.hid hSl
  have HS := Lib.hid hS
  have HEs := Lib.hid hl
  have HF := Lib.hid hF
  have HM := Lib.hid hm
  have HM2 := Lib.hid hm2
  have HCs := Lib.hid hcs
  have HT2 := Lib.hid hT2
  obtain ⟨f0, f1, f2, f3, f4, f5, f6, f7, f8, f9, f10, f11, f12, f13⟩ := fv_cells gf
  have lf := heap_lt gf
  clear hX gf gp gt nf np nt hL hSl hS hl hF hm hcs hT2 hkp hk
  go_enter Tryd.func71, Tryd.ntmps71
  go_wp2_with fail
  refine (FM.out _).mono ?_
  rintro e u ⟨rfl, hO⟩
  clear f0 f1 f2 f3 f4 f5 f6 f7 f8 f9 f10 f11 f12 f13 lf FM hsm hwk
  have p0 : u.cell? ⟨bp, 0, none⟩ = some (.slice a m cap) := cell_of_heap (hO.heap HGp.out (fun c => c)) 0
  have lp := heap_lt (hO.heap HGp.out (fun c => c))
  have HO := Lib.hid hO
  clear hO
  go_wp2_with fail
  obtain ⟨W0, hW0⟩ : ∃ W0, W0 = (u.alloc (.cells #[.int .u64 (wd X 0 : Int), .int .u64 (wd X 1 : Int), .int .u64 (wd X 2 : Int), .int .u64 (wd X 3 : Int)] 66)).alloc (.cells (flat4 (List.replicate m 0)).toArray 66) := ⟨_, rfl⟩
  have HX0 := Lib.hid (show W0.heap[u.heap.size]? = some (.cells #[.int .u64 (wd X 0 : Int), .int .u64 (wd X 1 : Int), .int .u64 (wd X 2 : Int), .int .u64 (wd X 3 : Int)] 66 (0, 0)) by rw [hW0]; exact heap_old' (heap_new' rfl _) _)
  have HA0 := Lib.hid (show NumsAt W0 (u.heap.size + 1) 66 (paySo p m cs k 0) by rw [hW0]; unfold paySo; exact heap_new' (by simp) _)
  have HO0 := Lib.hid (show Off (fun _ => False) w W0 by rw [hW0]; exact (HO.out.alloc _).alloc _)
  have HSz := Lib.hid (show w.heap.size ≤ u.heap.size from HO.out.size)
  rw [← hW0]
  obtain ⟨bx, hbx⟩ : ∃ bx, bx = u.heap.size := ⟨_, rfl⟩
  rw [← hbx] at HX0 HA0 HSz ⊢
  have HT0 := Lib.hid (HS.out.off0 HO0.out)
  have HN0 := Lib.hid (show W0.heap.size = bx + 2 by rw [hW0, hbx]; simp)
  clear hW0 hbx HO p0 lp hmk hm2
  go_loopw [20] (fun i wr => ∃ j : Nat, j ≤ m ∧ i = .int .i64 (j : Int) ∧ wr.heap[bx]? = some (.cells #[.int .u64 (wd X 0 : Int), .int .u64 (wd X 1 : Int), .int .u64 (wd X 2 : Int), .int .u64 (wd X 3 : Int)] 66 (0, 0)) ∧ NumsAt wr (bx + 1) 66 (paySo p m cs k j) ∧ (∃ S1, Tp wr q (ext q es (chEv T j)) S1 ∧ ∀ b, S1 b → S b ∨ bx + 2 ≤ b) ∧ Off S w wr) (fun i _ => m - (intOf i).toNat)
  case atStart => exact ⟨0, Nat.zero_le _, rfl, HX0.out, HA0.out, ⟨S, by rw [chEv_zero, ext_nil]; exact HT0.out, fun b c => .inl c⟩, HO0.out.mono (fun _ _ c => c.elim)⟩
  case round =>
    obtain ⟨j, hj, rfl, hx, ha, ⟨S1, ht1, ht2⟩, hO⟩ := hrel
    by_cases hlt : j < m
    · obtain ⟨c, hc⟩ : ∃ c, cs[j]? = some c := ⟨_, List.getElem?_eq_getElem (by rw [← HM.out]; exact hlt)⟩
      have hcT := HCs.out c (List.mem_of_getElem? hc)
      have hwz : ∀ b, b < w.heap.size → S1 b → S b := fun b hb c => (ht2 b c).elim (fun c => c) (fun c => by have := HSz.out; omega)
      have hLr := HL.out.off hO (fun b _ c => (HSl.out b c).2)
      obtain ⟨b, off, a1, c1, rfl, hSb, u0, hl1⟩ := LLsAt.get hLr (ys := c.map (fm p)) (j := j) (by rw [List.getElem?_map, hc]; rfl)
      rw [List.length_map, hcT] at u0 hl1
      have hlb := World.block_lt_of_cell? wr _ u0
      have t0 : wr.cell? ⟨bt, 0, none⟩ = some (.pointer q) := cell_of_heap (hO.heap HGt.out HNo.out.2.2) 0
      have ltt := heap_lt (hO.heap HGt.out HNo.out.2.2)
      have FN := Lib.hid (note_ext q _ S1 wr ht1 (by have := ext_le q es (chEv T j); rw [chEv_len] at this; have h1 := HEs.out; have h2 := Nat.mul_le_mul_right (1 + T) (Nat.le_of_lt hlt); omega) ((4 : Int), (j : Int), (0 : Int)))
      have hjm : (j : Int) < (m : Int) := by omega
      have HC := Lib.hid hc
      have HSb := Lib.hid hSb
      have HL1 := Lib.hid hl1
      have HX1 := Lib.hid hx
      have HA1 := Lib.hid ha
      have HT2' := Lib.hid ht2
      have HWz := Lib.hid hwz
      have HO1 := Lib.hid hO
      have HCT := Lib.hid hcT
      have HU0 := Lib.hid u0
      clear hc hcT hLr hSb hl1 hx ha ht1 ht2 hwz hO hj
      go_wp2_with fail
      refine FN.out.mono ?_
      rintro e u1 ⟨rfl, hN, hO⟩
      obtain ⟨S2, hs1, hs2⟩ := hN
      have hwr := HA1.out.lt
      have hs3 : ∀ b, S2 b → S b ∨ bx + 2 ≤ b := fun b c => (hs2 b c).elim (HT2'.out b) (fun c => .inr (by omega))
      have hn2 : ∀ b, b < bx + 2 → ¬ S b → ¬ S2 b := fun b h1 h2 c => (hs3 b c).elim h2 (fun c => by omega)
      have hSw : ∀ b, b < w.heap.size → S2 b → S b := fun b hb c => (hs3 b c).elim (fun c => c) (fun c => by have := HSz.out; omega)
      have hbo : ∀ b, S b → b < w.heap.size := HS.out.2
      have hS1x : ∀ b, b < bx + 2 → ¬ S b → ¬ S1 b := fun b h1 h2 c => (HT2'.out b c).elim h2 (fun c => by omega)
      have hOu : Off S w u1 := HO1.out.trans hO HWz.out
      have hx1 := hO.heap HX1.out (hS1x _ (by omega) (fun c => by have := hbo _ c; have := HSz.out; omega))
      have ha1 := HA1.out.off hO (hS1x _ (by omega) (fun c => by have := hbo _ c; have := HSz.out; omega))
      have hl2 := HL1.out.off hO (fun b _ c => hS1x _ (by have := (HSl.out b c).1; have := HSz.out; omega) (HSl.out b c).2)
      obtain ⟨z, hz⟩ : ∃ z, z = fm p (pv c k % p) := ⟨_, rfl⟩
      have hek : k % p = k % p := rfl
      have FE := Lib.hid (eval_any HF.out c T c1 a1 HCT.out.symm (by have := HT2.out; omega) q _ S2 Sl u1 hl2 (fun b c => ⟨by have := (HSl.out b c).1; have := HSz.out; have := ha1.lt; omega, hn2 b (by have := (HSl.out b c).1; have := HSz.out; omega) (HSl.out b c).2⟩) hs1 (by
        have h0 := ext_le q es (chEv T j)
        have h1 := ext_le q (ext q es (chEv T j)) [((4 : Int), (j : Int), (0 : Int))]
        rw [chEv_len] at h0
        have h2 := HEs.out
        have h3 := Nat.mul_le_mul_right (1 + T) hlt
        rw [Nat.succ_mul] at h3
        simp at h1
        omega) k)
      rw [← hz, ← HX.out] at FE
      have g0 : u1.cell? ⟨bt, 0, none⟩ = some (.pointer q) := cell_of_heap (hOu.heap HGt.out HNo.out.2.2) 0
      obtain ⟨f0, f1, f2, f3, f4, f5, f6, f7, f8, f9, f10, f11, f12, f13⟩ := fv_cells (hOu.heap HGf.out HNo.out.1)
      obtain ⟨x0, x1, x2, x3⟩ := cells4 hx1
      have lf := heap_lt (hOu.heap HGf.out HNo.out.1)
      have lx := heap_lt hx1
      have lt2 := heap_lt (hOu.heap HGt.out HNo.out.2.2)
      have HZ := Lib.hid hz
      have HX2 := Lib.hid hx1
      have HA2 := Lib.hid ha1
      have HOu := Lib.hid hOu
      have HS3 := Lib.hid hs3
      have HN2 := Lib.hid hn2
      have HSw := Lib.hid hSw
      have HBo := Lib.hid hbo
      clear hs1 hs2 hs3 hn2 hSw hbo hS1x hOu hx1 ha1 hl2 hz hek hO FN t0 ltt u0 hlb hwr
      go_wp2_with fail
      refine FE.out.mono ?_
      rintro e u2 ⟨rfl, hN, hO⟩
      clear f0 f1 f2 f3 f4 f5 f6 f7 f8 f9 f10 f11 f12 f13 x0 x1 x2 x3 lf lx lt2 g0 FE
      have ha2 := HA2.out.off hO (HN2.out _ (by omega) (fun c => by have := HBo.out _ c; have := HSz.out; omega))
      obtain ⟨y0, hy0⟩ : ∃ y, (paySo p m cs k j)[j]? = some y := ⟨_, List.getElem?_eq_getElem (by rw [paySo_length HM.out (Nat.le_of_lt hlt)]; exact hlt)⟩
      obtain ⟨m0, m1, m2, m3⟩ := NumsAt.cell ha2 hy0
      have fz := fun j => NumsAt.frozen ha2 j
      have lt3 := ha2.lt
      have hst := NumsAt.store ha2 (j := j) (by rw [paySo_length HM.out (Nat.le_of_lt hlt)]; exact hlt) z
      rw [HZ.out, paySo_next HM.out HC.out, ← HZ.out] at hst
      have HSt := Lib.hid hst
      have HX3 := Lib.hid (hO.heap HX2.out (HN2.out _ (by omega) (fun c => by have := HBo.out _ c; have := HSz.out; omega)))
      have HOo := Lib.hid hO
      have HNn := Lib.hid hN
      have HLt := Lib.hid hlt
      have w1 : IntKind.i64.wrap ((j : Int) + 1) = (j : Int) + 1 := by rw [IntKind.wrap_i64]; have := HM2.out; omega
      clear ha2 hy0 hst hO hN hlt
      go_wp2
      go_roundw
      case rel =>
        obtain ⟨S3, h1, h2⟩ := HNn.out
        have h4 : ¬ S3 (bx + 1) := fun c => (h2 _ c).elim (fun c => HN2.out _ (by omega) (fun c => by have := HBo.out _ c; have := HSz.out; omega) c) (fun c => by have := HA2.out.lt; omega)
        refine ⟨j + 1, HLt.out, rfl, setCells_far_at (vs := words4 z) (by omega) HX3.out, HSt.out, ⟨S3, ?_, fun b c => (h2 b c).elim (HS3.out b) (fun c => .inr (by have := HA2.out.lt; omega))⟩, setCells_in_at (HOu.out.trans HOo.out HSw.out) (fun h => by have := HSz.out; omega) (words4 z)⟩
        have h5 := Tp.off h1 (setCells_off (bx + 1) (words4 z) (j * 4) u2) (fun k c d => by subst c; exact h4 d)
        rw [ext_ext, ext_ext] at h5
        rw [chEv_succ]
        exact h5
      case measure => simp [intOf]; have := HLt.out; omega
    · obtain rfl : j = m := by omega
      have i1 : ¬ (j : Int) < (j : Int) := by omega
      rw [paySo_all HM.out] at ha
      have HA1 := Lib.hid ha
      have HO1 := Lib.hid hO
      have HTp := Lib.hid (show Noted w.heap.size q es (chEv T j) S wr from ⟨S1, ht1, fun b c => (ht2 b c).elim .inl (fun c => .inr (by have := HSz.out; omega))⟩)
      clear ha hO ht1 ht2 hx hlt hj
      go_wp2
      exact bodyPost_ret (v := .slice (some ⟨bx + 1, 0, none⟩) j j) (by simp [results, Tryd.results71, go_sem]) rfl ⟨_, rfl, by have := HSz.out; omega, HA1.out, HTp.out, HO1.out⟩
end
section
open Go.RowKit Go.Shelf
theorem wide_fnD (f : Nat) : Fence.wide.fn f = True := rfl
attribute [local go_sem] Oper.semAt_some wide_fnD
/-- The box B holds the parameters. -/
def ParB (B : Nat) (q : Pms) (W : World) : Prop := W.heap[B]? = some (.cells #[.int .i64 q.fd, .int .i64 q.th, .int .i64 q.sh, .int .i64 q.ln] 23 (0, 0))
theorem ParB.kept {B : Nat} {q : Pms} {w w' : World} {row : Option Nat} (h : ParB B q w) (hg : w.grownBy w' row) (hr : ∀ r, row = some r → ∃ o : Obj, w.heap[r]? = some o ∧ o.isCells = false) : ParB B q w' :=
  (hg.block B (heap_lt h) (fun e => by obtain ⟨o, h1, h2⟩ := hr B e.symm; rw [show w.heap[B]? = some _ from h] at h1; cases h1; cases h2)).trans h
theorem parK_b {B : Nat} {q : Pms} {n : Nat} (W : World) (l : Nat) (o o' : Obj) (_ : n ≤ l) (h : W.heap[l]? = some o) (hc : o.isCells = false) (_ : o.isWalk = false) : ParB B q W → ParB B q (W.putObj l o') :=
  fun hr => hr.kept (grownBy_putObj' W l o') (fun r e => by cases e; exact ⟨o, h, hc⟩)
theorem finR_valD (c : Nat) : (List.finRange c).map Fin.val = List.range c := List.ext_getElem (by simp) (fun i h1 h2 => by simp)
/-- The first k indices below c. -/
def firstD (c k : Nat) : List (Fin c) := (List.finRange c).take k
theorem firstD_length (c k : Nat) (h : k ≤ c) : (firstD c k).length = k := by unfold firstD; simp; omega
theorem firstD_succ (c k : Nat) (h : k < c) : firstD c (k + 1) = firstD c k ++ [⟨k, h⟩] := by
  unfold firstD
  rw [List.take_add_one]
  congr 1
  simp [h]
theorem firstD_all (c : Nat) : firstD c c = List.finRange c := by unfold firstD; rw [List.take_of_length_le (by simp)]
set_option maxRecDepth 100000 in
set_option maxHeartbeats 2000000 in
theorem empty1_in (n : Nat) (hn : 1 ≤ n) (l B : Nat) (q : Pms) (c : Nat) (hc : q.sh = (c : Int)) (hM : c ≤ 255) (J Jx : List (Fin c) → World → Prop) (W : World)
    (hJ : ∀ s A B, J s A → A.grownBy B none → J s B)
    (hY : ∀ (pre : List (Fin c)) (x : Fin c) W, J pre W → pre.length < c → YieldAt Fence.wide (n - 1) Tryd.prog l #[.agg #[.int .i64 q.fd, .int .i64 q.th, .int .i64 ((x.val : Int) + 1), .int .i64 q.ln, .slice none 0 0]] W fun e W' =>
      (e = .returned (.bool true) ∧ J (pre ++ [x]) W' ∧ (ParB B q W → ParB B q W')) ∨ (e = .returned (.bool false) ∧ Jx (pre ++ [x]) W'))
    (hR : ParB B q W) (h0 : J [] W) :
    CallsIn Fence.wide n Tryd.prog 74 #[.func (.yield l) #[] #[], .pointer (some ⟨B, 0, none⟩)] W fun e W' => (∃ v, e = .returned v) ∧
      ((∃ ys, ys = List.finRange c ∧ J ys W') ∨ (∃ pre, (∃ k, k < c ∧ pre = firstD c (k + 1)) ∧ Jx pre W')) := by
  refine callsIn_of_wp Tryd.func74 rfl trivial ?_ rfl
  simp only [Tryd.ntmps74, List.size_toArray, List.length_cons, List.length_nil, Nat.reduceAdd, Nat.reduceSub, Array.replicate_succ, Array.replicate_zero, List.push_toArray, List.append_toArray, List.nil_append, List.cons_append]
  have hmx : Tryd.prog.follows .mixedOrders = true := by kernel_rfl
  obtain ⟨fd, th, sh, ln⟩ := q
  dsimp only at hc hY
  subst hc
  have r0 : W.cell? ⟨B, 2, none⟩ = some (.int .i64 (c : Int)) := cell_of_heap hR 2
  have lB := heap_lt hR
  have HR := Lib.hid hR
  clear hR
  gi_wp2
  gi_loopw [7] (fun i wr => ∃ k : Nat, k ≤ c ∧ i = .int .i64 (k : Int) ∧ J (firstD c k) wr ∧ ParB B ⟨fd, th, (c : Int), ln⟩ wr) (fun i _ => c - (intOf i).toNat)
  case atStart => exact ⟨0, Nat.zero_le _, by simp, hJ _ _ _ h0 ⟨rfl, rfl, rfl, Nat.le_refl _, fun _ _ _ => rfl⟩, HR.out⟩
  case round =>
    obtain ⟨k, hk, rfl, hJs, hRd⟩ := hrel
    have t0 : wr.cell? ⟨B, 0, none⟩ = some (.int .i64 fd) := cell_of_heap hRd 0
    have t1 : wr.cell? ⟨B, 1, none⟩ = some (.int .i64 th) := cell_of_heap hRd 1
    have t3 : wr.cell? ⟨B, 3, none⟩ = some (.int .i64 ln) := cell_of_heap hRd 3
    have lBr := heap_lt hRd
    by_cases hlt : k < c
    · have w3 : IntKind.i64.wrap ((k : Int) + 1) = (k : Int) + 1 := by rw [IntKind.wrap_i64]; omega
      have i1 : (k : Int) < (c : Int) := by omega
      have hJa := hJ _ _ _ hJs (show wr.grownBy (wr.alloc (.cells #[.int .i64 fd, .int .i64 th, .int .i64 ((k : Int) + 1), .int .i64 ln, .slice none 0 0] 69)) none from ((Off.refl _ wr).alloc _).to_grown)
      have hRa : ParB B ⟨fd, th, (c : Int), ln⟩ (wr.alloc (.cells #[.int .i64 fd, .int .i64 th, .int .i64 ((k : Int) + 1), .int .i64 ln, .slice none 0 0] 69)) := heap_old' hRd _
      obtain ⟨fn, tmps, assign, body, hy, hround⟩ := hY _ ⟨k, hlt⟩ _ hJa (by rw [firstD_length _ _ (by omega)]; exact hlt)
      rw [← firstD_succ] at hround
      dsimp only at hy hround
      have HRa := Lib.hid hRa
      clear hRd hRa hJa
      gi_wp2
      refine hround.mono ?_
      rintro r W3 (⟨rfl, hJ3, hk3⟩ | ⟨rfl, hJx3⟩)
      · have hRd3 := hk3 HRa.out
        clear hk3 hround hy
        gi_wp2
        go_roundw
        case rel => exact ⟨k + 1, by omega, by simp, hJ3, hRd3⟩
        case measure => simp [intOf]; omega
      · clear hround hy
        gi_wp2
        refine bodyPost_ret (results_none rfl _ _ _) rfl ?_
        exact ⟨⟨_, rfl⟩, .inr ⟨_, ⟨k, hlt, rfl⟩, hJx3⟩⟩
    · obtain rfl : k = c := by omega
      have i1 : ¬ (k : Int) < (k : Int) := by omega
      gi_wp2
      go_end0
      rw [firstD_all] at hJs
      first | exact ⟨⟨_, rfl⟩, .inl ⟨_, rfl, hJs⟩⟩ | exact ⟨⟨_, rfl⟩, .inl hJs⟩

set_option maxHeartbeats 400000 in
theorem empty_any (q : Pms) (w : World) :
    Calls Tryd.prog 45 #[q.val] w fun e w' => e = .returned (.func (.func 74) #[] #[.pointer (some ⟨w.heap.size, 0, none⟩)]) ∧ w' = w.alloc (.cells #[.int .i64 q.fd, .int .i64 q.th, .int .i64 q.sh, .int .i64 q.ln] 23) := by
  unfold Pms.val
  go_enter Tryd.func45, Tryd.ntmps45
  go_wp2
  go_ret
  exact ⟨rfl, rfl⟩
/-- The iterator as a loop takes it. -/
theorem empty_stops (n : Nat) (hn : 1 ≤ n) (B : Nat) (q : Pms) (c : Nat) (hc : q.sh = (c : Int)) (hM : c ≤ 255) (w : World) (hi : ParB B q w) :
    SeqStopsK Fence.wide n Tryd.prog 74 #[.pointer (some ⟨B, 0, none⟩)] (fun x : Fin c => #[.agg #[.int .i64 q.fd, .int .i64 q.th, .int .i64 ((x.val : Int) + 1), .int .i64 q.ln, .slice none 0 0]]) (fun A C => ParB B q A → ParB B q C)
      (fun ys => ys = List.finRange c) (fun pre => ∃ k, k < c ∧ pre = firstD c (k + 1)) c w := fun l J Jx W hW hJ _ hY h0 => by
  have hg : w.grownBy W none := ⟨hW.os, hW.tape, hW.output, hW.size, fun k hk _ => hW.block k hk⟩
  exact empty1_in n hn l B q c hc hM J Jx W (fun x A B hx hg => hJ x A B none hx hg (fun r e => by cases e)) (fun pre x W1 hj hlen => hY pre x W1 hj hlen)
    (hi.kept hg (fun r e => by cases e)) h0
end
section
open Go.RowKit
attribute [local go_sem ↓] Go.wp_at_zero Go.wp_at_succ
set_option maxRecDepth 100000
set_option maxHeartbeats 4000000
/-- field.Get of a known field. -/
theorem fget_kn {id : Int} (h : Kn id) : ∃ i r s, Fld id (modN id) i r s ∧ ∀ W, TabAt W → Calls Tryd.prog 32 #[.int .i64 id] W fun e w' => e = .returned (.tuple #[FV id (modN id) i r s, .int .i64 0]) ∧ Off (fun _ => False) W w' := by
  rcases h with rfl | rfl
  · exact ⟨_, _, _, fld1, fun W hT => fget_in 1 P1 (by decide) (by decide) rfl W hT⟩
  · exact ⟨_, _, _, fld2, fun W hT => fget_in 2 P2 (by decide) (by decide) rfl W hT⟩
/-- Elements put behind a list of elements of the call's own. -/
theorem app_elB {B : Nat} {W : World} {v sv : Value} {xs ys : List Nat} {S : Nat → Prop} (h1 : W.ownsRow B 66 4 v xs.length (flat4 xs)) (hB : B ≤ W.heap.size) (h2 : LsAt W sv ys S) (hk : xs.length + ys.length ≤ 100000) :
    ∃ v' w', (Builtin.append_ #[47, 47] 47 #[v, sv]).run Tryd.prog W = .ok v' w' ∧ w'.ownsRow B 66 4 v' (xs ++ ys).length (flat4 (xs ++ ys)) ∧ W.grownBy w' v.ownBlock := by
  obtain ⟨i0, hi, hz0, hz1, hz2⟩ := info_parts elem_info
  obtain ⟨a, cap, rfl, hl, hat⟩ := h2
  rcases Nat.eq_zero_or_pos ys.length with h0 | hp
  · obtain rfl : ys = [] := List.eq_nil_of_length_eq_zero h0
    refine ⟨v, W, ?_, by rw [List.append_nil]; exact h1, ⟨rfl, rfl, rfl, Nat.le_refl _, fun _ _ _ => rfl⟩⟩
    have ht := Tryd.underlying47
    rcases h1.2 with ⟨rfl, hn⟩ | ⟨g, cp, cur, rfl, _, _, hnc, _⟩
    · cases a <;> simp [Builtin.append_, run_underlying ht, sizeOf, typeInfo, hi, Builtin.lenOf, Builtin.firstCells, loadCells, loadCellsFrom]
    · cases a <;> simp [Builtin.append_, run_underlying ht, sizeOf, typeInfo, hi, Builtin.lenOf, Builtin.firstCells, hnc, storeCells, loadCells, loadCellsFrom]
  · obtain ⟨b, off, rfl, _, hc⟩ := hat hp
    obtain ⟨v', w', hr, ho, hg, _, hb⟩ := run_append_own_at (P := Tryd.prog) W B 47 47 66 i0 _ 4 32 Tryd.underlying47 hi hz0 hz1 hz2 rfl (by decide) v xs.length _ h1 ⟨b, off, none⟩ ys.length cap (flat4 ys) (by rw [flat4_length]) (fun j u hj => by
      have hjl : j < (flat4 ys).length := (List.getElem?_eq_some_iff.1 hj).1
      rw [flat4_length] at hjl
      obtain ⟨x, hx⟩ : ∃ x, ys[j / 4]? = some x := ⟨_, List.getElem?_eq_getElem (by omega)⟩
      obtain ⟨c0, c1, c2, c3⟩ := hc _ x hx
      obtain ⟨f0, f1, f2, f3⟩ := flat4_get ys _ x hx
      rw [Addr.add_lit]
      have h4 : j = j / 4 * 4 ∨ j = j / 4 * 4 + 1 ∨ j = j / 4 * 4 + 2 ∨ j = j / 4 * 4 + 3 := by omega
      rcases h4 with h | h | h | h
      · rw [h] at hj ⊢; rw [f0] at hj; cases hj; exact c0
      · rw [h] at hj ⊢; rw [f1] at hj; cases hj; rw [← Nat.add_assoc]; exact c1
      · rw [h] at hj ⊢; rw [f2] at hj; cases hj; rw [← Nat.add_assoc]; exact c2
      · rw [h] at hj ⊢; rw [f3] at hj; cases hj; rw [← Nat.add_assoc]; exact c3) (fun u hu => by
        have : ∀ l : List Nat, ∀ u ∈ flat4 l, u.oneCell' = true := fun l => by
          induction l with
          | nil => intro u h; cases h
          | cons x r ih =>
            intro u h
            simp only [flat4, List.mem_cons] at h
            rcases h with rfl | rfl | rfl | rfl | h <;> first | rfl | exact ih u h
        exact this ys u hu) (by unfold maxLen; omega) (by omega) hB
    refine ⟨v', w', hr, ?_, hg⟩
    rw [flat4_append, List.length_append]
    exact ho
/-- A list of one element, just built. -/
theorem own_one {W : World} {b z : Nat} {T : TypeId} (h : W.heap[b]? = some (.cells #[.int .u64 (wd z 0 : Int), .int .u64 (wd z 1 : Int), .int .u64 (wd z 2 : Int), .int .u64 (wd z 3 : Int)] T (0, 0))) : W.ownsRow b T 4 (.slice (some ⟨b, 0, none⟩) 1 1) [z].length (flat4 [z]) :=
  ⟨rfl, .inr ⟨b, 1, _, rfl, Nat.le_refl _, h, Nat.le_refl _, by unfold maxLen; omega, rfl, rfl⟩⟩
/-- A new list of k empty lists. -/
theorem rows_info : (Tryd.prog.info? 47).map (fun i => (i.zero, i.size, i.bytes)) = some (some (.slice none 0 0), 1, 24) := by kernel_rfl
theorem run_make_rows (n : Nat) (hn : n ≤ 100000) (w : World) : (Instr.makeSlice 29 (.int .i64 (n : Int)) (.int .i64 (n : Int))).run Tryd.prog w = .ok (.slice (some ⟨w.heap.size, 0, none⟩) n n) (w.alloc (.cells (madeCells #[.slice none 0 0] n) 47)) := by
  obtain ⟨i0, hi, hz0, hz1, hz2⟩ := info_parts rows_info
  have := run_make (P := Tryd.prog) w 29 47 i0 _ Tryd.underlying29 hi hz0 .i64 .i64 (n : Int) (n : Int) (by omega) (Int.le_refl _) (by rw [hz2]; omega) (by omega)
  rw [hz1, Nat.mul_one, Int.toNat_natCast] at this
  exact this
/-- The polynomials so far: k lists in the first k cells of a block. -/
def PolsI (W : World) (N0 pb sb c p T : Nat) (q : Pms) (sec rnd : List Nat) (k : Nat) : Prop := ∃ C : Array Value, C.size = c ∧ W.heap[pb]? = some (.cells C 47 (0, 0)) ∧ ∀ j, j < k → ∃ a1 c1, C[j]? = some (.slice a1 T c1) ∧ LsAt W (.slice a1 T c1) ((polN q sec rnd j).map (fm p)) (fun b => b ≠ pb ∧ b ≠ sb ∧ N0 ≤ b)
theorem elsK_take {bs : List Nat} {N D : Nat} : ∀ n, D + 64 * n ≤ N → elsK ((bs.take N).drop D) n = elsK (bs.drop D) n
  | 0, _ => rfl
  | n + 1, h => by
    rw [elsK_succ, elsK_succ, elsK_take n (by omega)]
    congr 2
    unfold elB
    rw [List.drop_drop, List.drop_drop, List.drop_take, List.take_take, Nat.min_eq_left (by omega)]
theorem nil_lls (w : World) (S : Nat → Prop) : LLsAt w (.slice none 0 0) [] S := ⟨none, 0, rfl, Nat.zero_le _, fun h => by simp at h⟩
theorem pols_new (q : Pms) (hq : q.ok) (a1 a2 : Option Addr) (m1 m2 c1 c2 : Nat) (sec rnd : List Nat) (S : Nat → Prop) (w : World) (_hS : ∀ k, S k → k < w.heap.size) (hm1 : m1 = sec.length) (hm2 : m2 = rnd.length) (hc1 : m1 ≤ c1) (hc2 : m2 ≤ c2) (hs1 : Small sec) (hs2 : Small rnd) (hl1 : m1 ≤ 200) (hl2 : m2 ≤ 10000)
    (h1 : BsAt w a1 sec S) (h2 : BsAt w a2 rnd S) (hT : TabAt w) :
    Calls Tryd.prog 11 #[q.val, .slice a1 m1 c1, .slice a2 m2 c2] w fun e w' => ∃ v, e = .returned (.tuple #[v, .int .i64 (polE q sec rnd : Int)]) ∧ LLsAt w' v (if polE q sec rnd = 0 then (polsN q sec rnd).map (·.map (fm (modN q.fd))) else []) (fun b => w.heap.size ≤ b) ∧ Off (fun _ => False) w w' := by
  obtain ⟨c, hc⟩ : ∃ c, c = polE q sec rnd := ⟨_, rfl⟩
  have HPE := Lib.hid (show c = 0 → polE q sec rnd = 0 from fun h => hc.symm.trans h)
  have FK := Lib.hid (fun W (h : Off (fun _ => False) w W) => check_par q hq W (hT.off h))
  have FR := Lib.hid (fun W (h : Off (fun _ => False) w W) => random_par q hq W (hT.off h))
  obtain ⟨R, hR⟩ : ∃ R, R = (if c = 0 then (polsN q sec rnd).map (·.map (fm (modN q.fd))) else []) := ⟨_, rfl⟩
  rw [← hc, ← hR]
  have HR := Lib.hid hR
  unfold polE at hc
  rw [← hm1, ← hm2] at hc
  obtain ⟨d, hd⟩ : ∃ d, d = prN q := ⟨_, rfl⟩
  obtain ⟨rn, hrn⟩ : ∃ rn, rn = rndN q := ⟨_, rfl⟩
  rw [← hd, ← hrn] at hc
  rw [← hd] at FK
  rw [← hrn] at FR
  have HQ := Lib.hid hq
  have HD := Lib.hid hd
  have HRn := Lib.hid hrn
  have HT := Lib.hid hT
  have H1 := Lib.hid h1
  have H2 := Lib.hid h2
  have HM := Lib.hid (And.intro hm1 hm2)
  have HSm := Lib.hid (And.intro hs1 hs2)
  clear hR hd hrn hq hT h1 h2 hm1 hm2 hs1 hs2
  obtain ⟨Q, hQ⟩ : ∃ Q : Pms, Q = q := ⟨_, rfl⟩
  rw [← hQ] at HPE HR HD HRn HQ
  have HQe := Lib.hid hQ
  clear hQ
  obtain ⟨fd, th, sh, ln⟩ := q
  unfold Pms.val at FK FR ⊢
  dsimp only at FK FR hc ⊢
  obtain ⟨W0, hW0⟩ : ∃ W0, W0 = w.alloc (.cells #[.int .i64 fd, .int .i64 th, .int .i64 sh, .int .i64 ln] 23) := ⟨_, rfl⟩
  have HG0 := Lib.hid (show W0.heap[w.heap.size]? = some (.cells #[.int .i64 fd, .int .i64 th, .int .i64 sh, .int .i64 ln] 23 (0, 0)) by rw [hW0]; exact heap_new' rfl _)
  have HO0 := Lib.hid (show Off (fun _ => False) w W0 by rw [hW0]; exact (Off.refl _ w).alloc _)
  have HW0 := Lib.hid hW0
  clear hW0
  go_enter Tryd.func11, Tryd.ntmps11
  go_wp2_with fail
  rw [← HW0.out]
  obtain ⟨p0, p1, p2, p3⟩ := cells4 HG0.out
  have lp := heap_lt HG0.out
  go_wp2_with fail
  refine (FK.out _ HO0.out).mono ?_
  rintro e u ⟨rfl, hO⟩
  have HO1 := Lib.hid (HO0.out.trans hO (fun _ _ c => c))
  have HG1 := Lib.hid (hO.heap HG0.out (fun c => c))
  clear hO p0 p1 p2 p3 lp
  by_cases h0 : d = 0
  · subst h0
    rw [if_neg (by omega)] at hc
    obtain ⟨p0, p1, p2, p3⟩ := cells4 HG1.out
    have lp := heap_lt HG1.out
    by_cases hln : (m1 : Int) = ln
    · rw [if_neg (by omega)] at hc
      have i1 : ((m1 : Int) != ln) = false := by rw [hln]; simp
      have HLn := Lib.hid hln
      clear hln
      go_wp2_with fail
      refine (FR.out _ HO1.out).mono ?_
      rintro e u1 ⟨rfl, hO⟩
      have HO2 := Lib.hid (HO1.out.trans hO (fun _ _ c => c))
      have HG2 := Lib.hid (hO.heap HG1.out (fun c => c))
      clear hO p0 p1 p2 p3 lp i1
      by_cases hrl : (m2 : Int) < rn
      · rw [if_pos hrl] at hc
        subst hc
        go_wp2
        exact bodyPost_ret (v := .tuple #[.slice none 0 0, .int .i64 7]) (by simp [results, Tryd.results11, go_sem]) rfl ⟨_, rfl, by rw [HR.out]; exact nil_lls _ _, HO2.out⟩
      · rw [if_neg hrl] at hc
        subst hc
        have hok := prN_ok (q := Q) HD.out.symm
        rw [HQe.out] at hok
        dsimp only at hok
        obtain ⟨hkn, _, _, ht1, ht2, hl0, hl9⟩ := hok
        obtain ⟨i0, r, s, hF, hgf⟩ := fget_kn hkn
        obtain ⟨p, hp⟩ : ∃ p, p = modN fd := ⟨_, rfl⟩
        rw [← hp] at hF hgf
        obtain ⟨T, hTT⟩ : ∃ T : Nat, T = th.toNat := ⟨_, rfl⟩
        obtain ⟨cn, hcn⟩ : ∃ cn, cn = cntN m1 := ⟨_, rfl⟩
        have hcq : Q.cn = cn := by rw [hcn, HM.out.1]; exact cntI_len (by have := HLn.out; have := HM.out.1; rw [HQe.out]; dsimp only; omega) (by rw [HQe.out]; exact hl9)
        have hTq : Q.T = T := by rw [hTT, HQe.out]; rfl
        have hc7 : cn ≤ 7 := by rw [hcn]; unfold cntN; omega
        have hT1 : 1 ≤ T := by omega
        have hT2 : T ≤ 255 := by omega
        have hth : th = (T : Int) := by omega
        obtain ⟨N, hN⟩ : ∃ N, N = 64 * ((T - 1) * cn) := ⟨_, rfl⟩
        have hNr : rn = (N : Int) := by
          rw [HRn.out]
          unfold rndN
          rw [if_pos HD.out.symm]
          rw [show (cntI Q.ln : Int) = (cn : Int) from congrArg _ hcq, show Q.th - 1 = ((T - 1 : Nat) : Int) by rw [HQe.out]; dsimp only; omega, hN]
          push_cast
          rw [Int.mul_assoc]
        subst hNr
        have hNm : N ≤ m2 := by omega
        have HF := Lib.hid hF
        have FG := Lib.hid (fun W (h : Off (fun _ => False) w W) => hgf W (HT.out.off h))
        have HP := Lib.hid hp
        have HNum := Lib.hid (And.intro hcn (And.intro hcq (And.intro hTq (And.intro hN (And.intro hNm hl2)))))
        have HB := Lib.hid (And.intro hc7 (And.intro hT1 hT2))
        have HTh := Lib.hid hth
        clear hF hgf hp hTT hcn hcq hTq hN hNm hkn ht1 ht2 hl0 hl9 hc7 hT1 hT2 hl2
        obtain ⟨p0, p1, p2, p3⟩ := cells4 HG2.out
        have lp := heap_lt HG2.out
        go_wp2_with fail
        refine (FG.out _ HO2.out).mono ?_
        rintro e u2 ⟨rfl, hO⟩
        obtain ⟨W3, hW3⟩ : ∃ W3, W3 = u2.alloc (.cells #[.int .i64 fd, .int .u64 (wd p 0 : Int), .int .u64 (wd p 1 : Int), .int .u64 (wd p 2 : Int), .int .u64 (wd p 3 : Int), .int .u64 (i0 : Int), .int .u64 (wd r 0 : Int), .int .u64 (wd r 1 : Int), .int .u64 (wd r 2 : Int), .int .u64 (wd r 3 : Int), .int .u64 (wd s 0 : Int), .int .u64 (wd s 1 : Int), .int .u64 (wd s 2 : Int), .int .u64 (wd s 3 : Int)] 73) := ⟨_, rfl⟩
        obtain ⟨bf, hbf⟩ : ∃ bf, bf = u2.heap.size := ⟨_, rfl⟩
        have HF3 := Lib.hid (show W3.heap[bf]? = some (.cells #[.int .i64 fd, .int .u64 (wd p 0 : Int), .int .u64 (wd p 1 : Int), .int .u64 (wd p 2 : Int), .int .u64 (wd p 3 : Int), .int .u64 (i0 : Int), .int .u64 (wd r 0 : Int), .int .u64 (wd r 1 : Int), .int .u64 (wd r 2 : Int), .int .u64 (wd r 3 : Int), .int .u64 (wd s 0 : Int), .int .u64 (wd s 1 : Int), .int .u64 (wd s 2 : Int), .int .u64 (wd s 3 : Int)] 73 (0, 0)) by rw [hW3, hbf]; exact heap_new' rfl _)
        have HO3 := Lib.hid (show Off (fun _ => False) w W3 by rw [hW3]; exact (HO2.out.trans hO (fun _ _ c => c)).alloc _)
        have HG3 := Lib.hid (show W3.heap[w.heap.size]? = some (.cells #[.int .i64 fd, .int .i64 th, .int .i64 sh, .int .i64 ln] 23 (0, 0)) by rw [hW3]; exact heap_old' (hO.heap HG2.out (fun c => c)) _)
        have FS := Lib.hid (fun W (h : Off (fun _ => False) w W) => split_any HF.out a1 m1 c1 sec S W (H1.out.off h (fun _ _ _ c => c)) HM.out.1 hc1 HSm.out.1 (by omega))
        rw [← HNum.out.1] at FS
        have HW3 := Lib.hid hW3
        have HBf := Lib.hid hbf
        clear hO hW3 hbf p0 p1 p2 p3 lp
        go_upto_region 10 with fail
        rw [← HW3.out, ← HBf.out]
        obtain ⟨f0, f1, f2, f3, f4, f5, f6, f7, f8, f9, f10, f11, f12, f13⟩ := fv_cells HF3.out
        have lf := heap_lt HF3.out
        go_wp2_with fail
        refine (FS.out _ HO3.out).mono ?_
        rintro e u4 ⟨a3, c3, rfl, hls, hO⟩
        obtain ⟨a4, hsl, hb4⟩ := part_h a2 m2 c2 N rnd HM.out.2 HNum.out.2.2.2.2.1 hc2
        have HO4 := Lib.hid (HO3.out.trans hO (fun _ _ c => c))
        have HF4 := Lib.hid (hO.heap HF3.out (fun c => c))
        have HG4 := Lib.hid (hO.heap HG3.out (fun c => c))
        have HLs := Lib.hid hls
        have FN := Lib.hid (new_src a4 N c2 (rnd.take N) _ u4 (hb4 u4 S (H2.out.off HO4.out (fun _ _ _ c => c))) (by rw [List.length_take]; have := HNum.out.2.2.2.2.1; have := HM.out.2; omega) (by have := HNum.out.2.2.2.2.1; omega) (HSm.out.2.take _) (by have := HNum.out.2.2.2.2.1; have := HNum.out.2.2.2.2.2; omega))
        clear f0 f1 f2 f3 f4 f5 f6 f7 f8 f9 f10 f11 f12 f13 lf hO hls hb4 FS FG
        go_wp2_with fail
        refine FN.out.mono ?_
        rintro e u5 ⟨sb, S5, rfl, hsrc, hS5, hO⟩
        have hmk := run_make_rows cn (by have := HB.out.1; omega)
        obtain ⟨W6, hW6⟩ : ∃ W6, W6 = u5.alloc (.cells (madeCells #[.slice none 0 0] cn) 47) := ⟨_, rfl⟩
        obtain ⟨pb, hpb⟩ : ∃ pb, pb = u5.heap.size := ⟨_, rfl⟩
        have HPb := Lib.hid (show u4.heap.size ≤ pb ∧ ¬ S5 pb from ⟨by rw [hpb]; exact hO.size, fun c => by have := hsrc.lt _ c; omega⟩)
        have HI6 := Lib.hid (show PolsI W6 w.heap.size pb sb cn p T Q sec rnd 0 from ⟨_, size_madeCells _ _, by rw [hW6, hpb]; exact heap_new' rfl _, fun j h => absurd h (Nat.not_lt_zero j)⟩)
        have HS6 := Lib.hid (show SrcP W6 sb ((rnd.take N).drop (64 * ((T - 1) * 0))) S5 by rw [hW6]; exact hsrc.keep ((Off.refl _ _).alloc _))
        have HO6 := Lib.hid (show Off (fun _ => False) u4 W6 by rw [hW6]; exact hO.alloc _)
        have HS5 := Lib.hid hS5
        have HW6 := Lib.hid hW6
        have HPbe := Lib.hid hpb
        clear hsrc hS5 hO hW6 hpb FN
        go_wp2_with fail
        rw [← HW6.out, ← HPbe.out]
        clear hmk
        go_loopw [57] (fun i wr => ∃ k : Nat, k ≤ cn ∧ i = .int .i64 (k : Int) ∧ PolsI wr w.heap.size pb sb cn p T Q sec rnd k ∧ SrcP wr sb ((rnd.take N).drop (64 * ((T - 1) * k))) S5 ∧ Off (fun _ => False) u4 wr) (fun i _ => cn - (intOf i).toNat)
        case atStart => exact ⟨0, Nat.zero_le _, rfl, HI6.out, HS6.out, HO6.out⟩
        case round =>
          obtain ⟨k, hk, rfl, hI, hsr, hO⟩ := hrel
          by_cases hlt : k < cn
          · have hx : ((splitV sec).map (fm p))[k]? = some (fm p (numB (chk sec k))) := by
              rw [List.getElem?_map]
              unfold splitV
              rw [splitK_get sec (by rw [← HM.out.1, ← HNum.out.1]; exact hlt)]
              rfl
            obtain ⟨b, off, rfl, _, e0, e1, e2, e3⟩ := LsAt.get (Ls.off HLs.out hO) hx
            obtain ⟨z, hz⟩ : ∃ z, z = fm p (numB (chk sec k)) := ⟨_, rfl⟩
            rw [← hz] at e0 e1 e2 e3
            have hlb := World.block_lt_of_cell? wr _ e0
            obtain ⟨Wa, hWa⟩ : ∃ Wa, Wa = wr.alloc (.cells #[.int .u64 (wd z 0 : Int), .int .u64 (wd z 1 : Int), .int .u64 (wd z 2 : Int), .int .u64 (wd z 3 : Int)] 66) := ⟨_, rfl⟩
            obtain ⟨bx, hbx⟩ : ∃ bx, bx = wr.heap.size := ⟨_, rfl⟩
            have hXa : Wa.heap[bx]? = some (.cells #[.int .u64 (wd z 0 : Int), .int .u64 (wd z 1 : Int), .int .u64 (wd z 2 : Int), .int .u64 (wd z 3 : Int)] 66 (0, 0)) := by rw [hWa, hbx]; exact heap_new' rfl _
            have hOa : Off (fun _ => False) wr Wa := by rw [hWa]; exact (Off.refl _ _).alloc _
            have hO4a : Off (fun _ => False) u4 Wa := hO.trans hOa (fun _ _ c => c)
            have hbl : bx < Wa.heap.size := heap_lt hXa
            have hsbx : ∀ b, S5 b → b < bx := fun b c => by rw [hbx]; exact hsr.lt b c
            have hN := HNum.out.2.2.2.1
            have hmul : (T - 1) * k + (T - 1) ≤ (T - 1) * cn := by
              have := Nat.mul_le_mul_left (T - 1) hlt
              rw [Nat.mul_succ] at this
              exact this
            have hbl2 : ((rnd.take N).drop (64 * ((T - 1) * k))).length = N - 64 * ((T - 1) * k) := by
              rw [List.length_drop, List.length_take, Nat.min_eq_left (by have := HNum.out.2.2.2.2.1; have := HM.out.2; omega)]
            have FE := Lib.hid (els_any HF.out sb _ S5 ((T - 1 : Nat) : Int) (wf_small (by have := HB.out.2.2; omega)) Wa (hsr.keep hOa) (by rw [hbl2]; have := HNum.out.2.2.2.2; omega))
            rw [elemsV_ok (by rw [hbl2]; omega)] at FE
            dsimp only at FE
            rw [elsK_take (T - 1) (by omega), List.drop_drop, show 64 * ((T - 1) * k) + 64 * (T - 1) = 64 * ((T - 1) * (k + 1)) by rw [Nat.mul_succ]; omega] at FE
            have hkI : (k : Int) < (cn : Int) := by omega
            have w1 : IntKind.i64.wrap ((T : Int) - 1) = ((T - 1 : Nat) : Int) := by rw [IntKind.wrap_i64]; have := HB.out.2; omega
            have w2 : IntKind.i64.wrap ((k : Int) + 1) = (k : Int) + 1 := by rw [IntKind.wrap_i64]; have := HB.out.1; omega
            obtain ⟨f0, f1, f2, f3, f4, f5, f6, f7, f8, f9, f10, f11, f12, f13⟩ := fv_cells (hO4a.heap HF4.out (fun c => c))
            have p1 : Wa.cell? ⟨w.heap.size, 1, none⟩ = some (.int .i64 (T : Int)) := by rw [← HTh.out]; exact cell_of_heap (hO4a.heap HG4.out (fun c => c)) 1
            have lf := heap_lt (hO4a.heap HF4.out (fun c => c))
            have lp := heap_lt (hO4a.heap HG4.out (fun c => c))
            have HI := Lib.hid hI
            have HX := Lib.hid hXa
            have HOa := Lib.hid hOa
            have HO4a := Lib.hid hO4a
            have HSx := Lib.hid hsbx
            have HBx := Lib.hid hbx
            have HWa := Lib.hid hWa
            have HZ := Lib.hid hz
            have HLt := Lib.hid hlt
            have HBl := Lib.hid hbl
            clear hI hXa hOa hO4a hsbx hbx hWa hz hbl hN hmul hbl2 hx hsr hO hk hlt
            go_upto_region 16 with fail
            rw [← HWa.out, ← HBx.out]
            clear e0 e1 e2 e3 hlb
            go_wp2_with fail
            refine FE.out.mono ?_
            rintro e u7 ⟨v7, rfl, hl7, hs7, hO⟩
            obtain ⟨ys, hys⟩ : ∃ ys, ys = (elsK (rnd.drop (64 * ((T - 1) * k))) (T - 1)).map (fm p) := ⟨_, rfl⟩
            have hyl : ys.length = T - 1 := by rw [hys, List.length_map, elsK_length]
            rw [← hys] at hl7
            have hl7b := hl7
            obtain ⟨ar, cr, rfl, _, _⟩ := hl7b
            rw [hyl] at hl7 ⊢
            clear f0 f1 f2 f3 f4 f5 f6 f7 f8 f9 f10 f11 f12 f13 lf lp p1 FE w1
            have hX7 := hO.heap HX.out (fun e => by have := HSx.out sb hs7.mem; omega)
            obtain ⟨x0, x1, x2, x3⟩ := cells4 hX7
            have lx := heap_lt hX7
            obtain ⟨W8, hW8⟩ : ∃ W8, W8 = u7.alloc (.cells #[.int .u64 (wd z 0 : Int), .int .u64 (wd z 1 : Int), .int .u64 (wd z 2 : Int), .int .u64 (wd z 3 : Int)] 66) := ⟨_, rfl⟩
            obtain ⟨nb, hnb⟩ : ∃ nb, nb = u7.heap.size := ⟨_, rfl⟩
            have hN8 : W8.heap[nb]? = some (.cells #[.int .u64 (wd z 0 : Int), .int .u64 (wd z 1 : Int), .int .u64 (wd z 2 : Int), .int .u64 (wd z 3 : Int)] 66 (0, 0)) := by rw [hW8, hnb]; exact heap_new' rfl _
            have hO8 : Off (fun k => k = sb) Wa W8 := by rw [hW8]; exact hO.alloc _
            have hOu8 : Off (fun _ => False) u7 W8 := by rw [hW8]; exact (Off.refl _ _).alloc _
            obtain ⟨v', w9, hrun, hown, hgr⟩ := app_elB (own_one hN8) (Nat.le_of_lt (heap_lt hN8)) (hl7.off hOu8 (fun _ _ _ c => c)) (by have := HB.out.2; simp; omega)
            have hO9 : Off (fun k => k = nb) W8 w9 := (Off.refl (fun k => k = nb) W8).grown hgr (fun k e => by
              have : nb = k := by simpa [Value.ownBlock] using e
              subst this
              exact ⟨fun _ => rfl, fun o ho => by rw [hN8] at ho; cases ho; rfl⟩)
            obtain ⟨a9, c9, rfl⟩ := ownsRow_succ (k := T - 1) (by rw [List.length_append, List.length_singleton, hyl, Nat.add_comm] at hown; exact hown)
            have hT9 : T - 1 + 1 = T := Nat.sub_add_cancel HB.out.2.1
            rw [hT9] at hown hrun
            obtain ⟨C, hC, hCh, hCr⟩ := HI.out
            have hsb := HSx.out sb hs7.mem
            have hpbl : pb < bx := by rw [HBx.out]; exact heap_lt hCh
            have hpsb : pb ≠ sb := fun e => HPb.out.2 (e ▸ hs7.mem)
            have hnbl : Wa.heap.size ≤ nb := by rw [hnb]; exact hO.size
            have hb1 := HBl.out
            have hbe := HBx.out
            have hC8 : W8.heap[pb]? = some (.cells C 47 (0, 0)) := hO8.heap (HOa.out.heap hCh (fun c => c)) (fun e => hpsb e)
            have hC9 : w9.heap[pb]? = some (.cells C 47 (0, 0)) := hO9.heap hC8 (by omega)
            have hOr9 : Off (fun b => b = sb ∨ b = pb) wr w9 := ((Off.mono (S' := fun b => b = sb ∨ b = pb) HOa.out (fun _ _ c => c.elim)).trans hO8 (fun _ _ e => .inl e)).trans hO9 (fun k hk e => by exfalso; omega)
            have hO49 : Off (fun _ => False) u4 w9 := (HO4a.out.trans hO8 (fun k hk e => by have := HS5.out sb hs7.mem; omega)).trans hO9 (fun k hk e => by have := HO4a.out.size; omega)
            have hs9 : SrcP w9 sb ((rnd.take N).drop (64 * ((T - 1) * (k + 1)))) S5 := (hs7.keep hOu8).off hO9 (fun j _ h1 h2 => by have := HSx.out j h1; omega)
            obtain ⟨y0, hy0⟩ : ∃ y, C[k]? = some y := ⟨_, Array.getElem?_eq_getElem (by have := HLt.out; omega)⟩
            have m0 : w9.cell? ⟨pb, k, none⟩ = some y0 := (cell_of_heap hC9 k).trans hy0
            have fz := frozen_of_heap hC9 k
            have lt9 := heap_lt hC9
            have hrow : LsAt w9 (.slice (some ⟨a9, 0, none⟩) T c9) ((polN Q sec rnd k).map (fm p)) (fun b => b ≠ pb ∧ b ≠ sb ∧ w.heap.size ≤ b) := by
              have h := ls_of_own (ys := [z] ++ ys) (by rw [show ([z] ++ ys).length = T by simp; omega] at hown; exact hown) (by simp; omega) (by have := HB.out.2.2; omega)
              rw [show [z] ++ ys = (polN Q sec rnd k).map (fm p) by rw [HZ.out, hys]; unfold polN; rw [HNum.out.2.2.1]; rfl] at h
              exact h.mono (fun b _ h => ⟨by omega, by omega, by have h1 := HO4.out.size; have h2 := HO4a.out.size; omega⟩)
            have HRow := Lib.hid hrow
            have HC9 := Lib.hid hC9
            have HOr := Lib.hid hOr9
            have HO49 := Lib.hid hO49
            have HSr := Lib.hid hs9
            have HCr := Lib.hid hCr
            have HCs := Lib.hid (And.intro hC (And.intro hpsb (And.intro hpbl hsb)))
            rw [hW8, hnb] at hrun
            clear hrow hC9 hOr9 hO49 hs9 hCr hC hy0 hCh hC8 hpsb hpbl hsb hO9 hown hgr hO8 hOu8 hN8 hnbl hb1 hbe hs7 hl7 hO hX7 hys hyl hT9 hW8 hnb
            go_wp2_with (at_builtin; refine Go.Lib.wpList_append_run _ rfl _ _ _ _ rfl _ _ rfl rfl _ _ hrun ?_)
            go_roundw
            case rel =>
              have hset := setCells_off pb [.slice (some ⟨a9, 0, none⟩) T c9] k w9
              have hC10 := heap_set HC9.out k (.slice (some ⟨a9, 0, none⟩) T c9)
              refine ⟨k + 1, HLt.out, by simp, ⟨_, by rw [Array.size_setIfInBounds]; exact HCs.out.1, hC10, fun j hj => ?_⟩, HSr.out.off hset (fun b _ h e => HPb.out.2 (e ▸ h)), HO49.out.trans hset (fun b hb e => by have := HPb.out.1; omega)⟩
              by_cases hjk : j = k
              · subst hjk
                exact ⟨some ⟨a9, 0, none⟩, c9, by rw [Array.getElem?_setIfInBounds_self_of_lt (by rw [HCs.out.1]; exact HLt.out)], HRow.out.off hset (fun b _ h e => h.1 e)⟩
              · obtain ⟨a5, c5, e1, e2⟩ := HCr.out j (by omega)
                exact ⟨a5, c5, by rw [Array.getElem?_setIfInBounds_ne (fun e => hjk e.symm)]; exact e1, (e2.off HOr.out (fun b _ h e => by rcases e with e | e; exact h.2.1 e; exact h.1 e)).off hset (fun b _ h e => h.1 e)⟩
            case measure => simp [intOf]; have := HLt.out; omega
          · obtain rfl : k = cn := by omega
            have i3 : ¬ (k : Int) < (k : Int) := by omega
            have hll : LLsAt wr (.slice (some ⟨pb, 0, none⟩) k k) ((polsN Q sec rnd).map (·.map (fm p))) (fun b => w.heap.size ≤ b) := by
              obtain ⟨C, hC, hCh, hCr⟩ := hI
              have hlen : ((polsN Q sec rnd).map (·.map (fm p))).length = k := by rw [List.length_map, polsN_length]; exact HNum.out.2.1
              refine ⟨some ⟨pb, 0, none⟩, k, by rw [hlen], by rw [hlen]; have := HB.out.1; omega, fun _ => ⟨pb, 0, rfl, Nat.le_trans HO4.out.size HPb.out.1, fun j ys hj => ?_⟩⟩
              have hjk : j < k := by rw [← hlen]; exact (List.getElem?_eq_some_iff.1 hj).1
              obtain ⟨a5, c5, e1, e2⟩ := hCr j hjk
              rw [List.getElem?_map, polsN_get (by have := HNum.out.2.1; omega)] at hj
              cases hj
              exact ⟨_, by rw [cell_of_heap hCh, Nat.zero_add]; exact e1, e2.mono (fun _ _ h => h.2.2)⟩
            have HLL := Lib.hid hll
            have HO := Lib.hid hO
            clear hll hI hsr hO hk hlt
            go_wp2
            exact bodyPost_ret (v := .tuple #[.slice (some ⟨pb, 0, none⟩) k k, .int .i64 0]) (by simp [results, Tryd.results11, go_sem]) rfl ⟨_, rfl, by rw [HR.out, if_pos trivial, show modN Q.fd = p by rw [HQe.out]; exact HP.out.symm]; exact HLL.out, HO4.out.trans HO.out (fun _ _ c => c)⟩
    · rw [if_pos hln] at hc
      subst hc
      have i1 : ((m1 : Int) != ln) = true := by simp; omega
      clear hln
      go_wp2
      exact bodyPost_ret (v := .tuple #[.slice none 0 0, .int .i64 8]) (by simp [results, Tryd.results11, go_sem]) rfl ⟨_, rfl, by rw [HR.out]; exact nil_lls _ _, HO1.out⟩
  · rw [if_pos h0] at hc
    subst hc
    have i1 : ((c : Int) != 0) = true := by simp; omega
    have i2 : ¬ (c : Int) = 0 := by omega
    go_wp2
    exact bodyPost_ret (v := .tuple #[.slice none 0 0, .int .i64 (c : Int)]) (by simp [results, Tryd.results11, go_sem]) rfl ⟨_, rfl, by rw [HR.out, if_neg h0]; exact nil_lls _ _, HO1.out⟩
theorem pols_deal (q : Pms) (hq : q.ok) (a1 a2 : Option Addr) (m1 m2 c1 c2 : Nat) (sec rnd : List Nat) (S : Nat → Prop) (w : World) (hS : ∀ k, S k → k < w.heap.size) (hm1 : m1 = sec.length) (hm2 : m2 = rnd.length) (hc1 : m1 ≤ c1) (hc2 : m2 ≤ c2) (hs1 : Small sec) (hs2 : Small rnd) (hl1 : m1 ≤ 200) (hl2 : m2 ≤ 10000)
    (h1 : BsAt w a1 sec S) (h2 : BsAt w a2 rnd S) (hT : TabAt w) :
    Calls Tryd.prog 11 #[q.val, .slice a1 m1 c1, .slice a2 m2 c2] w fun e w' => ∃ v, e = .returned (.tuple #[v, .int .i64 (polE q sec rnd : Int)]) ∧ LLs w' v (if polE q sec rnd = 0 then (polsN q sec rnd).map (·.map (fm (modN q.fd))) else []) ∧ Off (fun _ => False) w w' := by
  refine (pols_new q hq a1 a2 m1 m2 c1 c2 sec rnd S w hS hm1 hm2 hc1 hc2 hs1 hs2 hl1 hl2 h1 h2 hT).mono ?_
  rintro e w' ⟨v, he, h, ho⟩
  exact ⟨v, he, LLs.of h, ho⟩
end
section
open Go.RowKit
theorem own_offN {S : Nat → Prop} {w w' : World} {B size n : Nat} {T : TypeId} {v : Value} {xs : List Value} (h : w.ownsRow B T size v n xs) (ho : Off S w w') (hS : ∀ b c, S b → w.heap[b]? = some (.cells c T (0, 0)) → False) : w'.ownsRow B T size v n xs := by
  refine ⟨h.1, ?_⟩
  rcases h.2 with hn | ⟨g, cap, cur, rfl, hb, hg, r⟩
  · exact .inl hn
  · exact .inr ⟨g, cap, cur, rfl, hb, ho.heap hg (fun c => hS g cur c hg), r⟩
/-- No block of a tape is made of this type. -/
def NT (T : TypeId) : Prop := T ≠ 100 ∧ T ≠ 134 ∧ T ≠ 136
theorem Typed.nt {w : World} {b : Nat} {c : Array Value} {T : TypeId} (ht : Typed w b) (h : w.heap[b]? = some (.cells c T (0, 0))) (hT : NT T) : False := not_typed' h hT.1 hT.2.1 hT.2.2 ht
theorem nt_el : NT 66 := by refine ⟨?_, ?_, ?_⟩ <;> decide
theorem nt_sh : NT 69 := by refine ⟨?_, ?_, ?_⟩ <;> decide
theorem nt_shs : NT 38 := by refine ⟨?_, ?_, ?_⟩ <;> decide
theorem fm_ltR {p : Nat} (h1 : 0 < p) (h2 : p < R256) (x : Nat) : fm p x < R256 := Nat.lt_trans (by unfold fm; exact Nat.mod_lt _ h1) h2
theorem shrN_ok {q : Pms} (hq : q.ok) {p : Nat} (h1 : 0 < p) (h2 : p < R256) (cs : List (List Nat)) {i : Nat} (hi : i ≤ 1000) : (shrN q p cs i).ok :=
  ⟨hq.1, hq.2.1, WalkArith.wf_i64 (by show -9223372036854775808 ≤ (i : Int) ∧ (i : Int) ≤ 9223372036854775807; omega), hq.2.2.2, fun x hx => by
    obtain ⟨c, _, rfl⟩ := List.mem_map.1 hx
    exact fm_ltR h1 h2 _⟩
theorem EvL.shs {q : Pms} (hq : q.ok) {p k B : Nat} (h1 : 0 < p) (h2 : p < R256) (hk : k ≤ 1000) {cs : List (List Nat)} (hl : cs.length ≤ 100000) {W : World} {v : Value} (h : EvL q p cs k B W v) : ShsAt W v ((List.range k).map fun j => shrN q p cs (j + 1)) (fun j => B ≤ j) := by
  obtain ⟨L, hr, hL, hp⟩ := h
  have hlen : L.length = k := by have := congrArg List.length hL; simpa using this
  rw [← hL]
  refine (hr.svs.shs (S' := fun j => B ≤ j) (by unfold maxLen; omega) (fun x hx => ?_) (fun j _ hj => hj.1))
  have hm : x.sh ∈ L.map ShV.sh := List.mem_map.2 ⟨x, hx, rfl⟩
  rw [hL] at hm
  obtain ⟨j, hj, e⟩ := List.mem_map.1 hm
  have hj' := List.mem_range.1 hj
  have hpl : x.sh.pl.length = cs.length := by rw [← e]; simp [shrN, payN]
  have hok : x.sh.ok := by rw [← e]; exact shrN_ok hq h1 h2 cs (by omega)
  have hown := hp x hx
  unfold PayRow at hown
  refine ⟨hok, ?_, ?_⟩
  · rcases hown.2 with ⟨e2, hn⟩ | ⟨g, cap, cur, e2, _, _, hnc, _⟩
    · omega
    · simp at e2; omega
  · obtain ⟨a, cap, e2, h3, h4⟩ := ls_of_own hown rfl (by omega)
    exact ⟨a, cap, e2, by unfold maxLen; omega, hok.2.2.2.2, h4⟩
/-- While the shares are made: some blocks stay as they are (fx), the list in the box lb lies in the block gb, with room for n shares; the payloads are the call's own; the tape has the events ls more. -/
structure EvI (fx : List (Nat × Obj)) (w : World) (gb lb n : Nat) (t : Option Addr) (es : List Ev) (S : Nat → Prop) (sh : List Sh) (ls : List Ev) (W : World) : Prop where
  fix : ∀ x ∈ fx, W.heap[x.1]? = some x.2
  lst : W.heap[lb]? = some (.cells #[.slice (some ⟨gb, 0, none⟩) sh.length n] 38 (0, 0))
  row : ∃ (L : List ShV) (rest : List Value), rest.length = (n - sh.length) * 5 ∧ W.heap[gb]? = some (.cells (flat5 L ++ rest).toArray 69 (0, 0)) ∧ L.map ShV.sh = sh ∧ ∀ x ∈ L, PayRow w.heap.size W x
  tp : ∃ S1, Tp W t (ext t es ls) S1 ∧ ∀ b, S1 b → S b ∨ w.heap.size ≤ b
  off : Off S w W
/-- The blocks that stay: cells of types that no tape has, apart from the list. -/
def FxOk (fx : List (Nat × Obj)) (gb lb : Nat) : Prop := ∀ x ∈ fx, x.1 ≠ gb ∧ x.1 ≠ lb ∧ ∃ c T, x.2 = .cells c T (0, 0) ∧ NT T ∧ T ≠ 69
section
variable {fx : List (Nat × Obj)} {w : World} {gb lb n : Nat} {t : Option Addr} {es : List Ev} {S : Nat → Prop} {sh : List Sh} {ls : List Ev} {W : World}
theorem EvI.kept (h : EvI fx w gb lb n t es S sh ls W) (hf : FxOk fx gb lb) {W' : World} {row : Option Nat} (hg : W.grownBy W' row) (hr : ∀ r, row = some r → w.heap.size ≤ r ∧ ∃ o : Obj, W.heap[r]? = some o ∧ o.isCells = false) : EvI fx w gb lb n t es S sh ls W' := by
  have hr' : ∀ r, row = some r → ∃ o : Obj, W.heap[r]? = some o ∧ o.isCells = false := fun r e => (hr r e).2
  refine ⟨fun x hx => ?_, (grownBy_keeps_cells hg hr' h.lst rfl).trans h.lst, ?_, ?_, h.off.later' (Quiet.of_grown (n := w.heap.size) (T := fun _ => False) hg (fun r e => (hr r e).1)) (Nat.le_refl _) (fun _ _ c => c.elim)⟩
  · obtain ⟨_, _, c, T, e, _⟩ := hf x hx
    have h1 := h.fix x hx
    exact (grownBy_keeps_cells hg hr' h1 (by rw [e]; rfl)).trans h1
  · obtain ⟨L, rest, h1, h2, h3, h4⟩ := h.row
    refine ⟨L, rest, h1, (grownBy_keeps_cells hg hr' h2 rfl).trans h2, h3, fun x hx => (h4 x hx).kept hg ?_⟩
    rcases (h4 x hx).2 with ⟨e, _⟩ | ⟨g, cap, cur, e, _, hgg, _⟩
    · left; rw [e]; rfl
    · right
      rw [e]
      intro c
      obtain ⟨o, ho, hc⟩ := hr' g c.symm
      rw [hgg] at ho
      cases ho
      cases hc
  · obtain ⟨S1, h1, h2⟩ := h.tp
    exact ⟨S1, ⟨TapeV.kept h1.1 hg hr', fun k c => Nat.lt_of_lt_of_le (h1.2 k c) hg.size⟩, h2⟩
theorem EvI.keep (h : EvI fx w gb lb n t es S sh ls W) (hf : FxOk fx gb lb) {W' : World} (ho : Off (fun _ => False) W W') : EvI fx w gb lb n t es S sh ls W' := h.kept hf ho.to_grown (fun r e => by cases e)
/-- The tape, told by types. -/
theorem EvI.tape (h : EvI fx w gb lb n t es S sh ls W) : ∃ S1, Tp W t (ext t es ls) S1 ∧ (∀ b, S1 b → S b ∨ w.heap.size ≤ b) ∧ ∀ b, S1 b → Typed W b := by
  obtain ⟨S1, h1, h2⟩ := h.tp
  exact ⟨_, h1.typed, fun b c => h2 b c.1, fun b c => c.2⟩
theorem EvI.noted (h : EvI fx w gb lb n t es S sh ls W) (hf : FxOk fx gb lb) {S1 : Nat → Prop} (hs : ∀ b, S1 b → S b ∨ w.heap.size ≤ b) (ht : ∀ b, S1 b → Typed W b) {ms : List Ev} {W' : World} (ho : Off S1 W W') (hn : Noted W.heap.size t (ext t es ls) ms S1 W') : EvI fx w gb lb n t es S sh (ls ++ ms) W' := by
  have hw := h.off.size
  refine ⟨fun x hx => ?_, ho.heap h.lst (fun c => (ht _ c).nt h.lst nt_shs), ?_, ?_, h.off.trans ho (fun k hk c => (hs k c).elim (fun c => c) (fun c => by omega))⟩
  · obtain ⟨_, _, c, T, e, hT, _⟩ := hf x hx
    have h1 := h.fix x hx
    exact ho.heap h1 (fun d => (ht _ d).nt (e ▸ h1) hT)
  · obtain ⟨L, rest, h1, h2, h3, h4⟩ := h.row
    exact ⟨L, rest, h1, ho.heap h2 (fun c => (ht _ c).nt h2 nt_sh), h3, fun x hx => own_offN (h4 x hx) ho (fun b c d e => (ht b d).nt e nt_el)⟩
  · obtain ⟨S2, h1, h2⟩ := hn
    rw [ext_ext] at h1
    exact ⟨S2, h1, fun b c => (h2 b c).elim (hs b) (fun c => .inr (by omega))⟩
/-- A store into a share's box. -/
theorem EvI.put (h : EvI fx w gb lb n t es S sh ls W) (hf : FxOk fx gb lb) {B : Nat} {c : Array Value} (hB : W.heap[B]? = some (.cells c 69 (0, 0))) (hg : B ≠ gb) (hw : w.heap.size ≤ B) {W' : World} (ho : Off (fun k => k = B) W W') : EvI fx w gb lb n t es S sh ls W' := by
  refine ⟨fun x hx => ?_, ho.heap h.lst (fun e => by subst e; have := h.lst; rw [hB] at this; simp at this), ?_, ?_, h.off.trans ho (fun k hk e => by omega)⟩
  · obtain ⟨_, _, d, T, e, _, hT⟩ := hf x hx
    have h1 := h.fix x hx
    refine ho.heap h1 (fun f => ?_)
    rw [f, hB, e] at h1
    simp at h1
    exact hT h1.2.symm
  · obtain ⟨L, rest, h1, h2, h3, h4⟩ := h.row
    exact ⟨L, rest, h1, ho.heap h2 (fun e => hg e.symm), h3, fun x hx => own_offN (h4 x hx) ho (fun b c e f => by
      subst e; rw [hB] at f
      simp at f)⟩
  · obtain ⟨S1, h1, h2, h3⟩ := h.tape
    exact ⟨S1, h1.off ho (fun k e c => by subst e; exact (h3 _ c).nt hB nt_sh), h2⟩
/-- One share put behind the list. -/
theorem EvI.app (h : EvI fx w gb lb n t es S sh ls W) (hf : FxOk fx gb lb) (hk : sh.length < n) (hgl : gb ≠ lb) (hg : w.heap.size ≤ gb) (hl : w.heap.size ≤ lb) {x : ShV} (hx : PayRow w.heap.size W x) {nb : Nat} (hb : W.heap[nb]? = some (.cells #[.int .i64 x.sh.fd, .int .i64 x.sh.th, .int .i64 x.sh.ix, .int .i64 x.sh.ln, .slice x.pa x.sh.pl.length x.pc] 69 (0, 0))) :
    ∃ w', (Builtin.append_ #[38, 38] 38 #[.slice (some ⟨gb, 0, none⟩) sh.length n, .slice (some ⟨nb, 0, none⟩) 1 1]).run Tryd.prog W = .ok (.slice (some ⟨gb, 0, none⟩) (sh.length + 1) n) w' ∧ Off (fun k => k = gb) W w' ∧ w'.heap[lb]? = some (.cells #[.slice (some ⟨gb, 0, none⟩) sh.length n] 38 (0, 0)) ∧
      EvI fx w gb lb n t es S (sh ++ [x.sh]) ls (w'.setCell ⟨lb, 0, none⟩ (.slice (some ⟨gb, 0, none⟩) (sh.length + 1) n)) := by
  obtain ⟨i0, hi, hz0, hz1, hz2⟩ := info_parts share_info
  obtain ⟨L, rest, h1, h2, h3, h4⟩ := h.row
  have hL : L.length = sh.length := by rw [← h3, List.length_map]
  have hsz : (flat5 L ++ rest).toArray.size = n * 5 := by
    rw [List.size_toArray, List.length_append, flat5_length, hL, h1, ← Nat.add_mul, show sh.length + (n - sh.length) = n by omega]
  have hfl : (flat5 [x]).length = 5 := by rw [flat5_length]; rfl
  have hrun := run_append_room_cells (P := Tryd.prog) (w := W) 38 38 69 i0 Tryd.underlying38 hi gb 0 sh.length n ⟨nb, 0, none⟩ 1 1 (flat5 [x]) (by rw [hz1, hfl]) (fun j u hj => by
    rw [Addr.add_lit, Nat.zero_add, cell_of_heap hb]
    match j, hj with
    | 0, hj => simpa [flat5, ShV.cells] using hj
    | 1, hj => simpa [flat5, ShV.cells] using hj
    | 2, hj => simpa [flat5, ShV.cells] using hj
    | 3, hj => simpa [flat5, ShV.cells] using hj
    | 4, hj => simpa [flat5, ShV.cells] using hj
    | n + 5, hj => simp [flat5, ShV.cells] at hj) (flat5_one [x]) hk
    (fun j hj => by
      rw [cell_of_heap h2, hz1]
      rw [hfl] at hj
      rw [Array.getElem?_eq_getElem (by rw [hsz]; have := Nat.mul_le_mul_right 5 hk; rw [Nat.succ_mul] at this; omega)]
      rfl) (fun j _ => frozen_of_heap h2 _)
  rw [hz1, Nat.zero_add] at hrun
  have ho := setCells_off gb (flat5 [x]) (sh.length * 5) W
  have hlb : (W.setCells gb (sh.length * 5) (flat5 [x])).heap[lb]? = some (.cells #[.slice (some ⟨gb, 0, none⟩) sh.length n] 38 (0, 0)) := ho.heap h.lst (fun e => hgl e.symm)
  have hset := heap_set hlb 0 (.slice (some ⟨gb, 0, none⟩) (sh.length + 1) n)
  have ho2 := setCells_off lb [.slice (some ⟨gb, 0, none⟩) (sh.length + 1) n] 0 (W.setCells gb (sh.length * 5) (flat5 [x]))
  refine ⟨_, hrun, ho, hlb, ?_⟩
  have hx2 : ∀ y, PayRow w.heap.size W y → PayRow w.heap.size ((W.setCells gb (sh.length * 5) (flat5 [x])).setCell ⟨lb, 0, none⟩ (.slice (some ⟨gb, 0, none⟩) (sh.length + 1) n)) y := fun y hy =>
    own_offN (own_offN hy ho (fun b c e f => by subst e; rw [h2] at f; simp at f)) ho2 (fun b c e f => by subst e; rw [hlb] at f; simp at f)
  refine ⟨fun y hy => ?_, ?_, ?_, ?_, (h.off.trans ho (fun k hk e => by omega)).trans ho2 (fun k hk e => by omega)⟩
  · obtain ⟨e1, e2, _⟩ := hf y hy
    exact ho2.heap (ho.heap (h.fix y hy) e1) e2
  · rw [List.length_append, List.length_singleton]
    exact hset
  · obtain ⟨mid, post, hr, hm⟩ : ∃ mid post : List Value, rest = mid ++ post ∧ mid.length = 5 := ⟨rest.take 5, rest.drop 5, (List.take_append_drop 5 rest).symm, by rw [List.length_take, h1]; have := Nat.mul_le_mul_right 5 (show 1 ≤ n - sh.length by omega); omega⟩
    refine ⟨L ++ [x], post, ?_, ?_, by rw [List.map_append, h3]; rfl, fun y hy => ?_⟩
    · have e1 := congrArg List.length hr
      rw [List.length_append, h1, hm] at e1
      rw [List.length_append, List.length_singleton, show n - (sh.length + 1) = n - sh.length - 1 by omega, Nat.sub_mul]
      omega
    · refine ho2.heap ?_ hgl
      rw [flat5_append]
      rw [hr, ← List.append_assoc] at h2
      exact setCells_mid (flat5 [x]) (flat5 L) mid post W (sh.length * 5) (by rw [flat5_length, hL]) (by rw [hm, hfl]) h2
    · rcases List.mem_append.1 hy with hy | hy
      · exact hx2 y (h4 y hy)
      · rw [List.mem_singleton] at hy
        subst hy
        exact hx2 y hx
  · obtain ⟨S1, e1, e2, e3⟩ := h.tape
    have e4 := e1.off ho (fun k e c => by subst e; exact (e3 _ c).nt h2 nt_sh)
    exact ⟨S1, e4.off ho2 (fun k e c => by subst e; exact (e3 _ c).nt h.lst nt_shs), e2⟩
/-- All shares made, as a list. -/
theorem EvI.made (h : EvI fx w gb lb n t es S sh ls W) {q : Pms} (hq : q.ok) {p : Nat} (h1 : 0 < p) (h2 : p < R256) (hn : n ≤ 1000) {cs : List (List Nat)} (hl : cs.length ≤ 100000) (hs : sh = (List.range n).map fun j => shrN q p cs (j + 1)) (hg : w.heap.size ≤ gb) : ShsAt W (.slice (some ⟨gb, 0, none⟩) n n) ((List.range n).map fun j => shrN q p cs (j + 1)) (fun j => w.heap.size ≤ j) := by
  obtain ⟨L, rest, e1, e2, e3, e4⟩ := h.row
  have hsl : sh.length = n := by rw [hs]; simp
  have hL : L.length = n := by rw [← hsl, ← e3, List.length_map]
  rw [hsl, Nat.sub_self, Nat.zero_mul] at e1
  obtain rfl : rest = [] := List.eq_nil_of_length_eq_zero e1
  rw [List.append_nil] at e2
  refine EvL.shs (v := .slice (some ⟨gb, 0, none⟩) n n) hq h1 h2 hn hl ⟨L, ⟨flat5_length _, .inr ⟨gb, n, _, by rw [hL], hg, e2, by rw [hL]; exact Nat.le_refl _, by unfold maxLen; omega, by rw [List.size_toArray, flat5_length, hL], by rw [List.take_of_length_le (by rw [flat5_length]; exact Nat.le_refl _)]⟩⟩, by rw [e3, hs], e4⟩
end
end
section
open Go.RowKit
attribute [local go_sem] Oper.semAt_some wide_fnD
set_option maxRecDepth 100000
set_option maxHeartbeats 4000000
/-- An append in a round, its run told. -/
theorem wpListIn_append_run {F : Fence} {n : Nat} {P : Program} (w : World) {ops : Array Oper} {rest : List Oper} {o : Oper} {a : Act} {Q : Exit → Act → World → Prop} (hg : o.guard = none) (s x : Operand) (t : TypeId) (hop : o.op = .call { callee := .builtin .append, args := #[s, x], argTypes := #[t, t] })
    (v xv : Value) (hs : a.eval s = v) (hx : a.eval x = xv) {v' : Value} {w' : World} (hrun : (Builtin.append_ #[t, t] o.type #[v, xv]).run P w = .ok v' w') (hK : wpListIn F n P ops Q rest (a.put o.dst v') w') : wpListIn F n P ops Q (o :: rest) a w := by
  refine wpListIn_plain hg fun K hK' => ?_
  unfold Oper.wpIn
  refine ⟨?_, ?_⟩
  · simp [Oper.about, hop, resolve, Target.leads, Sem.run_pure]
  · rw [Oper.semAt_plain F _ _ (by rw [hop]; intro c hc'; cases hc')]
    simp [execOp, hop, resolve, invoke, builtin, hs, hx, hrun, Result.andThen]
    exact hK' _ _ hK
theorem run_store_fun {P : Program} (w : World) (a : Addr) (m : Mode) (f : Fn) (x y : Array Value) : (store a (.func f x y) m).run P w = stored P w a (.func f x y) m := run_store P w a _ m rfl
attribute [local go_sem] run_store_fun
/-- What a list of shares that was made is: in new memory. -/
def Made (B : Nat) (W : World) (v : Value) (l : List Sh) : Prop := ShsAt W v l (fun k => B ≤ k)
/-- A new list of no shares, with room for n. -/
theorem run_make_shs (n : Nat) (hn : n ≤ 100000) (w : World) : (Instr.makeSlice 38 (.int .i64 0) (.int .i64 (n : Int))).run Tryd.prog w = .ok (.slice (some ⟨w.heap.size, 0, none⟩) 0 n) (w.alloc (.cells (madeCells #[.int .i64 0, .int .i64 0, .int .i64 0, .int .i64 0, .slice none 0 0] (n * 5)) 69)) := by
  obtain ⟨i0, hi, hz0, hz1, hz2⟩ := info_parts share_info
  have := run_make (P := Tryd.prog) w 38 69 i0 _ Tryd.underlying38 hi hz0 .i64 .i64 (0 : Int) (n : Int) (Int.le_refl _) (by omega) (by rw [hz2]; omega) (by omega)
  rw [hz1, Int.toNat_natCast] at this
  exact this
theorem evaluator_any (q : Option Addr) (id : Int) (p i0 r s : Nat) (a : Option Addr) (m cap : Nat) (w : World) :
    Calls Tryd.prog 44 #[.pointer q, FV id p i0 r s, .slice a m cap] w fun e w' => e = .returned (.func (.func 71) #[] #[.pointer (some ⟨w.heap.size + 1, 0, none⟩), .pointer (some ⟨w.heap.size + 2, 0, none⟩), .pointer (some ⟨w.heap.size, 0, none⟩)]) ∧
      w' = ((w.alloc (.cells #[.pointer q] 56)).alloc (.cells #[.int .i64 id, .int .u64 (wd p 0 : Int), .int .u64 (wd p 1 : Int), .int .u64 (wd p 2 : Int), .int .u64 (wd p 3 : Int), .int .u64 (i0 : Int), .int .u64 (wd r 0 : Int), .int .u64 (wd r 1 : Int), .int .u64 (wd r 2 : Int), .int .u64 (wd r 3 : Int), .int .u64 (wd s 0 : Int), .int .u64 (wd s 1 : Int), .int .u64 (wd s 2 : Int), .int .u64 (wd s 3 : Int)] 73)).alloc (.cells #[.slice a m cap] 29) := by
  go_enter Tryd.func44, Tryd.ntmps44
  go_wp2
  go_ret
  exact ⟨rfl, rfl⟩
/-- The events of the shares with these indices. -/
def evL {n : Nat} (cn T : Nat) (pre : List (Fin n)) : List Ev := pre.flatMap fun x => ((5 : Int), ((x.val : Int) + 1), (0 : Int)) :: chEv T cn
theorem evL_snoc {n : Nat} (cn T : Nat) (pre : List (Fin n)) (x : Fin n) : evL cn T (pre ++ [x]) = evL cn T pre ++ ([((5 : Int), ((x.val : Int) + 1), (0 : Int))] ++ chEv T cn) := by simp [evL]
theorem evL_len {n : Nat} (cn T : Nat) : ∀ pre : List (Fin n), (evL cn T pre).length = pre.length * (1 + cn * (1 + T))
  | [] => by simp [evL]
  | x :: r => by
    have := evL_len cn T r
    unfold evL at this ⊢
    rw [List.flatMap_cons, List.length_append, this, List.length_cons, chEv_len, List.length_cons, Nat.succ_mul]
    omega
theorem evL_all (n cn T : Nat) : evL cn T (List.finRange n) = dealEv cn T n := by
  unfold evL dealEv
  rw [← finR_valD n, List.flatMap_map]
  rfl
/-- The shares with these indices. -/
def shL {n : Nat} (q : Pms) (p : Nat) (cs : List (List Nat)) (pre : List (Fin n)) : List Sh := pre.map fun x => shrN q p cs (x.val + 1)
theorem shL_len {n : Nat} (q : Pms) (p : Nat) (cs : List (List Nat)) (pre : List (Fin n)) : (shL q p cs pre).length = pre.length := by simp [shL]
theorem shL_snoc {n : Nat} (q : Pms) (p : Nat) (cs : List (List Nat)) (pre : List (Fin n)) (x : Fin n) : shL q p cs (pre ++ [x]) = shL q p cs pre ++ [shrN q p cs (x.val + 1)] := by simp [shL]
theorem shL_all (q : Pms) (p : Nat) (cs : List (List Nat)) (n : Nat) (hn : q.sh.toNat = n) : shL q p cs (List.finRange n) = shrsN q p cs := by
  unfold shL shrsN
  rw [hn, ← finR_valD n, List.map_map]
  rfl
theorem eval_deal (q : Pms) (hq : q.ok) (xs cs : List (List Nat)) (hx : evaE q xs = 0 → xs = cs.map (·.map (fm (modN q.fd)))) (v : Value) (w : World) (Sl : Nat → Prop) (hL : LLsAt w v xs Sl) (t : Option Addr) (es : List Ev) (S : Nat → Prop) (hS : Tp w t es S) (hSl : ∀ b, Sl b → b < w.heap.size ∧ ¬ S b) (hl : evaE q xs = 0 → es.length + (dealEv q.cn q.T q.sh.toNat).length ≤ 70000) (hT : TabAt w) :
    Calls Tryd.prog 21 #[.pointer t, q.val, v] w fun e w' => ∃ v', e = .returned (.tuple #[v', .int .i64 (evaE q xs : Int)]) ∧ (evaE q xs ≠ 0 → v' = .slice none 0 0 ∧ Noted w.heap.size t es [] S w') ∧ (evaE q xs = 0 → Made w.heap.size w' v' (shrsN q (modN q.fd) cs) ∧ Noted w.heap.size t es (dealEv q.cn q.T q.sh.toNat) S w') ∧ Off S w w' := by
  obtain ⟨c, hc⟩ : ∃ c, c = evaE q xs := ⟨_, rfl⟩
  have FK := Lib.hid (fun W (h : Off (fun _ => False) w W) => callsIn_wide (n := 3 - 1).2 (checkpol_any q hq xs v W (LLs.of (hL.off h (fun _ _ _ c => c))) (hT.off h)))
  rw [← hc] at hx hl FK ⊢
  have HC := Lib.hid hc
  have HT := Lib.hid hT
  have HX := Lib.hid hx
  have HEs := Lib.hid hl
  have HL := Lib.hid hL
  have HS := Lib.hid hS
  have HSl := Lib.hid hSl
  have HQ := Lib.hid hq
  have hz := hL
  obtain ⟨a, cap, rfl, _, _⟩ := hz
  obtain ⟨m, hm⟩ : ∃ m, m = xs.length := ⟨_, rfl⟩
  rw [← hm] at HL FK ⊢
  have HM := Lib.hid hm
  clear hx hl hL hS hSl hq hT hc hm
  obtain ⟨Q, hQ⟩ : ∃ Q : Pms, Q = q := ⟨_, rfl⟩
  rw [← hQ] at HC HX HEs HQ ⊢
  have HQe := Lib.hid hQ
  rw [hQ]
  clear hQ
  obtain ⟨fd, th, sh, ln⟩ := q
  rw [← HQe.out]
  have hv : Q.val = .agg #[.int .i64 fd, .int .i64 th, .int .i64 sh, .int .i64 ln] := by rw [HQe.out]; rfl
  rw [show (⟨fd, th, sh, ln⟩ : Pms).val = .agg #[.int .i64 fd, .int .i64 th, .int .i64 sh, .int .i64 ln] from rfl] at FK
  rw [hv]
  clear hv
  obtain ⟨W0, hW0⟩ : ∃ W0, W0 = (w.alloc (.cells #[.pointer t] 56)).alloc (.cells #[.int .i64 fd, .int .i64 th, .int .i64 sh, .int .i64 ln] 23) := ⟨_, rfl⟩
  obtain ⟨b0, hb0⟩ : ∃ b0, b0 = w.heap.size := ⟨_, rfl⟩
  have HG0 := Lib.hid (show W0.heap[b0 + 1]? = some (.cells #[.int .i64 fd, .int .i64 th, .int .i64 sh, .int .i64 ln] 23 (0, 0)) by rw [hW0, hb0]; exact heap_new' (by simp) _)
  have HP0 := Lib.hid (show W0.heap[b0]? = some (.cells #[.pointer t] 56 (0, 0)) by rw [hW0, hb0]; exact heap_old' (heap_new' rfl _) _)
  have HO0 := Lib.hid (show Off (fun _ => False) w W0 by rw [hW0]; exact ((Off.refl _ w).alloc _).alloc _)
  have HZ0 := Lib.hid (show W0.heap.size = b0 + 2 by rw [hW0, hb0]; simp)
  have HW0 := Lib.hid hW0
  have HB0 := Lib.hid hb0
  clear hW0 hb0
  refine (callsIn_wide (n := 3)).1 ?_
  refine callsIn_of_wp_marks Tryd.func21 rfl trivial ?_ rfl
  simp only [Tryd.ntmps21, List.size_toArray, List.length_cons, List.length_nil, Nat.reduceAdd, Nat.reduceSub, Array.replicate_succ, Array.replicate_zero, List.push_toArray, List.append_toArray, List.nil_append, List.cons_append]
  have hmx : Tryd.prog.follows .mixedOrders = true := by kernel_rfl
  gi_wp2
  rw [← HW0.out, ← HB0.out]
  refine (FK.out W0 HO0.out).mono ?_
  rintro e u1 ⟨rfl, hO⟩
  have HO1 := Lib.hid (HO0.out.trans hO (fun _ _ c => c))
  have HG1 := Lib.hid (hO.heap HG0.out (fun c => c))
  have HP1 := Lib.hid (hO.heap HP0.out (fun c => c))
  have HZ1 := Lib.hid (show b0 + 2 ≤ u1.heap.size by have := HZ0.out; have := hO.size; omega)
  clear hO FK
  by_cases h0 : c = 0
  · subst h0
    obtain ⟨hpr, hln, hlT⟩ := evaE_ok HC.out.symm
    have hok := prN_ok hpr
    have hxx := HX.out rfl
    have hevl := HEs.out rfl
    have hfd : Q.fd = fd := by rw [HQe.out]
    have hshq : Q.sh = sh := by rw [HQe.out]
    rw [hfd, hshq] at hok
    obtain ⟨hkn, hs1, hs2, _⟩ := hok
    obtain ⟨i0, r, s, hF, hgf⟩ := fget_kn hkn
    obtain ⟨p, hp⟩ : ∃ p, p = modN fd := ⟨_, rfl⟩
    rw [← hp] at hF hgf
    obtain ⟨n, hn⟩ : ∃ n : Nat, n = sh.toNat := ⟨_, rfl⟩
    have hnn : sh = (n : Int) := by omega
    have FG := Lib.hid (callsIn_wide (n := 3 - 1).2 (hgf u1 (HT.out.off HO1.out)))
    have HF := Lib.hid hF
    have HNums := Lib.hid (show Q.sh.toNat = n ∧ modN Q.fd = p ∧ 1 ≤ n ∧ n ≤ 255 ∧ m = Q.cn ∧ (∀ c ∈ cs, c.length = Q.T) ∧ cs.length = m ∧ es.length + (dealEv Q.cn Q.T n).length ≤ 70000 ∧ xs = cs.map (·.map (fm p)) ∧ Q.T ≤ 255 ∧ 256 < p from ⟨by rw [hshq, hn], by rw [hfd, hp], by omega, by omega, by rw [HM.out]; exact hln, fun c hc => by
        have h1 := hlT (c.map (fm p)) (by rw [hxx, hfd, ← hp]; exact List.mem_map.2 ⟨c, hc, rfl⟩)
        rwa [List.length_map] at h1, by rw [HM.out, hxx, List.length_map], by rw [hn, ← hshq]; exact hevl, by rw [hxx, hfd, ← hp], by unfold Pms.T; have := prN_ok hpr; omega, by rw [hp]; rcases hkn with h | h <;> rw [h] <;> decide⟩)
    have HSh := Lib.hid hnn
    have p0 : u1.cell? ⟨b0 + 1, 0, none⟩ = some (.int .i64 fd) := cell_of_heap HG1.out 0
    have lp := heap_lt HG1.out
    clear hpr hln hlT hxx hevl hfd hshq hkn hs1 hs2 hF hgf hp hn
    gi_wp2
    refine FG.out.mono ?_
    rintro e u2 ⟨rfl, hO⟩
    clear p0 lp FG
    have hg2 := hO.heap HG1.out (fun c => c)
    have hp2 := hO.heap HP1.out (fun c => c)
    have HO2 := Lib.hid (HO1.out.trans hO (fun _ _ c => c))
    have HZ2 := Lib.hid (show b0 + 2 ≤ u2.heap.size by have := HZ1.out; have := hO.size; omega)
    obtain ⟨p0, p1, p2, p3⟩ := cells4 hg2
    have q0 : u2.cell? ⟨b0, 0, none⟩ = some (.pointer t) := cell_of_heap hp2 0
    have lp := heap_lt hg2
    have lq := heap_lt hp2
    have lp1 : b0 + 1 < u2.heap.size + 1 := by omega
    have lp2 : b0 + 1 < u2.heap.size + 1 + 1 := by omega
    have lp3 : b0 + 1 < u2.heap.size + 1 + 1 + 1 := by omega
    have lp4 : b0 + 1 < u2.heap.size + 1 + 1 + 1 + 1 := by omega
    have lp5 : b0 + 1 < u2.heap.size + 1 + 1 + 1 + 1 + 1 := by omega
    have lp6 : b0 + 1 < u2.heap.size + 1 + 1 + 1 + 1 + 1 + 1 := by omega
    have lp7 : b0 + 1 < u2.heap.size + 1 + 1 + 1 + 1 + 1 + 1 + 1 := by omega
    have lp2' : b0 + 1 < u2.heap.size + 2 := by omega
    have lp3' : b0 + 1 < u2.heap.size + 3 := by omega
    have lp4' : b0 + 1 < u2.heap.size + 4 := by omega
    have lp5' : b0 + 1 < u2.heap.size + 5 := by omega
    have lp6' : b0 + 1 < u2.heap.size + 6 := by omega
    have lp7' : b0 + 1 < u2.heap.size + 7 := by omega
    have HG2 := Lib.hid hg2
    have HP2 := Lib.hid hp2
    have hmk := run_make_shs n (by have := HNums.out.2.2.2.1; omega)
    have hEv := fun w' => callsIn_wide (n := 3 - 1).2 (evaluator_any t fd p i0 r s a m cap w')
    have hEm := fun w' => callsIn_wide (n := 3 - 1).2 (empty_any ⟨fd, th, (n : Int), ln⟩ w')
    unfold Pms.val at hEm
    dsimp only at hEm
    clear hO hg2 hp2
    gi_wp2_with (first | (gi_at_call 44; refine (hEv _).mono ?_; rintro e w' ⟨rfl, rfl⟩) | (gi_at_call 45; refine (hEm _).mono ?_; rintro e w' ⟨rfl, rfl⟩))
    obtain ⟨W8, hW8⟩ : ∃ W8, W8 = (((((((u2.alloc (.cells #[.int .i64 fd, .int .u64 (wd p 0 : Int), .int .u64 (wd p 1 : Int), .int .u64 (wd p 2 : Int), .int .u64 (wd p 3 : Int), .int .u64 (i0 : Int), .int .u64 (wd r 0 : Int), .int .u64 (wd r 1 : Int), .int .u64 (wd r 2 : Int), .int .u64 (wd r 3 : Int), .int .u64 (wd s 0 : Int), .int .u64 (wd s 1 : Int), .int .u64 (wd s 2 : Int), .int .u64 (wd s 3 : Int)] 73)).alloc (.cells #[.pointer t] 56)).alloc (.cells #[.int .i64 fd, .int .u64 (wd p 0 : Int), .int .u64 (wd p 1 : Int), .int .u64 (wd p 2 : Int), .int .u64 (wd p 3 : Int), .int .u64 (i0 : Int), .int .u64 (wd r 0 : Int), .int .u64 (wd r 1 : Int), .int .u64 (wd r 2 : Int), .int .u64 (wd r 3 : Int), .int .u64 (wd s 0 : Int), .int .u64 (wd s 1 : Int), .int .u64 (wd s 2 : Int), .int .u64 (wd s 3 : Int)] 73)).alloc (.cells #[.slice a m cap] 29)).alloc (.cells #[.func (.func 71) #[] #[.pointer (some ⟨u2.heap.size + 1 + 1, 0, none⟩), .pointer (some ⟨u2.heap.size + 1 + 2, 0, none⟩), .pointer (some ⟨u2.heap.size + 1, 0, none⟩)]] 91)).alloc (.cells (madeCells #[.int .i64 0, .int .i64 0, .int .i64 0, .int .i64 0, .slice none 0 0] (n * 5)) 69)).alloc (.cells #[.slice (some ⟨u2.heap.size + 1 + 1 + 1 + 1 + 1, 0, none⟩) 0 n] 38)).alloc (.cells #[.int .i64 fd, .int .i64 th, .int .i64 (n : Int), .int .i64 ln] 23) := ⟨_, rfl⟩
    have hsW8 : W8.heap.size = u2.heap.size + 8 := by rw [hW8]; simp
    have g1 : W8.heap[u2.heap.size + 1]? = some (.cells #[.pointer t] 56 (0, 0)) := by rw [hW8]; exact heap_old' (heap_old' (heap_old' (heap_old' (heap_old' (heap_old' (heap_new' (by simp) _) _) _) _) _) _) _
    have g2 : W8.heap[u2.heap.size + 2]? = some (.cells #[.int .i64 fd, .int .u64 (wd p 0 : Int), .int .u64 (wd p 1 : Int), .int .u64 (wd p 2 : Int), .int .u64 (wd p 3 : Int), .int .u64 (i0 : Int), .int .u64 (wd r 0 : Int), .int .u64 (wd r 1 : Int), .int .u64 (wd r 2 : Int), .int .u64 (wd r 3 : Int), .int .u64 (wd s 0 : Int), .int .u64 (wd s 1 : Int), .int .u64 (wd s 2 : Int), .int .u64 (wd s 3 : Int)] 73 (0, 0)) := by rw [hW8]; exact heap_old' (heap_old' (heap_old' (heap_old' (heap_old' (heap_new' (by simp) _) _) _) _) _) _
    have g3 : W8.heap[u2.heap.size + 3]? = some (.cells #[.slice a m cap] 29 (0, 0)) := by rw [hW8]; exact heap_old' (heap_old' (heap_old' (heap_old' (heap_new' (by simp) _) _) _) _) _
    have g4 : W8.heap[u2.heap.size + 4]? = some (.cells #[.func (.func 71) #[] #[.pointer (some ⟨u2.heap.size + 1 + 1, 0, none⟩), .pointer (some ⟨u2.heap.size + 1 + 2, 0, none⟩), .pointer (some ⟨u2.heap.size + 1, 0, none⟩)]] 91 (0, 0)) := by rw [hW8]; exact heap_old' (heap_old' (heap_old' (heap_new' (by simp) _) _) _) _
    have g5 : W8.heap[u2.heap.size + 5]? = some (.cells (madeCells #[.int .i64 0, .int .i64 0, .int .i64 0, .int .i64 0, .slice none 0 0] (n * 5)) 69 (0, 0)) := by rw [hW8]; exact heap_old' (heap_old' (heap_new' (by simp) _) _) _
    have g6 : W8.heap[u2.heap.size + 6]? = some (.cells #[.slice (some ⟨u2.heap.size + 5, 0, none⟩) 0 n] 38 (0, 0)) := by rw [hW8]; exact heap_old' (heap_new' (by simp) _) _
    have g7 : W8.heap[u2.heap.size + 7]? = some (.cells #[.int .i64 fd, .int .i64 th, .int .i64 (n : Int), .int .i64 ln] 23 (0, 0)) := by rw [hW8]; exact heap_new' (by simp) _
    have hOu8 : Off (fun _ => False) u2 W8 := by rw [hW8]; exact ((((((((Off.refl _ u2).alloc _).alloc _).alloc _).alloc _).alloc _).alloc _).alloc _).alloc _
    rw [← hW8]
    clear hW8 hEv hEm hmk p0 p1 p2 p3 q0 lp lq lp1 lp2 lp3 lp4 lp5 lp6 lp7 lp2' lp3' lp4' lp5' lp6' lp7'
    obtain ⟨Z, hZ⟩ : ∃ Z, Z = u2.heap.size := ⟨_, rfl⟩
    rw [← hZ] at g1 g2 g3 g4 g5 g6 g7 hsW8 HZ2 ⊢
    simp only [Nat.add_assoc, Nat.reduceAdd] at g4 ⊢
    have hO8 : Off (fun _ => False) w W8 := HO2.out.trans hOu8 (fun _ _ c => c)
    obtain ⟨fx, hfx⟩ : ∃ fx : List (Nat × Obj), fx = [(b0, .cells #[.pointer t] 56 (0, 0)), (Z + 1, .cells #[.pointer t] 56 (0, 0)), (Z + 2, (.cells #[.int .i64 fd, .int .u64 (wd p 0 : Int), .int .u64 (wd p 1 : Int), .int .u64 (wd p 2 : Int), .int .u64 (wd p 3 : Int), .int .u64 (i0 : Int), .int .u64 (wd r 0 : Int), .int .u64 (wd r 1 : Int), .int .u64 (wd r 2 : Int), .int .u64 (wd r 3 : Int), .int .u64 (wd s 0 : Int), .int .u64 (wd s 1 : Int), .int .u64 (wd s 2 : Int), .int .u64 (wd s 3 : Int)] 73 (0, 0))), (Z + 3, .cells #[.slice a m cap] 29 (0, 0)), (Z + 4, .cells #[.func (.func 71) #[] #[.pointer (some ⟨Z + 2, 0, none⟩), .pointer (some ⟨Z + 3, 0, none⟩), .pointer (some ⟨Z + 1, 0, none⟩)]] 91 (0, 0)), (Z + 7, .cells #[.int .i64 fd, .int .i64 th, .int .i64 (n : Int), .int .i64 ln] 23 (0, 0))] := ⟨_, rfl⟩
    have hfo : FxOk fx (Z + 5) (Z + 6) := by
      rw [hfx]
      intro x hx
      have hz2 := HZ2.out
      simp only [List.mem_cons, List.not_mem_nil, or_false] at hx
      rcases hx with rfl | rfl | rfl | rfl | rfl | rfl
      all_goals exact ⟨by dsimp only; omega, by dsimp only; omega, _, _, rfl, ⟨by decide, by decide, by decide⟩, by decide⟩
    have hI0 : EvI fx w (Z + 5) (Z + 6) n t es S (shL Q p cs ([] : List (Fin n))) (evL Q.cn Q.T ([] : List (Fin n))) W8 := by
      refine ⟨fun x hx => ?_, g6, ⟨[], (madeCells #[.int .i64 0, .int .i64 0, .int .i64 0, .int .i64 0, .slice none 0 0] (n * 5)).toList, ?_, g5, rfl, fun x hx => by cases hx⟩, ⟨S, ?_, fun b c => .inl c⟩, hO8.mono (fun _ _ c => c.elim)⟩
      · rw [hfx] at hx
        simp only [List.mem_cons, List.not_mem_nil, or_false] at hx
        rcases hx with rfl | rfl | rfl | rfl | rfl | rfl
        · exact hOu8.heap HP2.out (fun c => c)
        · exact g1
        · exact g2
        · exact g3
        · exact g4
        · exact g7
      · rw [Array.length_toList, size_madeCells]; rfl
      · rw [show evL Q.cn Q.T ([] : List (Fin n)) = [] from rfl, ext_nil]; exact HS.out.off0 hO8
    have hsq := empty_stops (3 - 1) (by omega) (Z + 7) ⟨fd, th, (n : Int), ln⟩ n rfl HNums.out.2.2.2.1 W8 g7
    have HI0 := Lib.hid hI0
    have HFo := Lib.hid hfo
    have HFx := Lib.hid hfx
    have HZs := Lib.hid (And.intro hsW8 (And.intro HZ2.out (show w.heap.size ≤ Z by rw [hZ]; exact HO2.out.size)))
    clear hI0 hfo hfx hsW8 g1 g2 g3 g4 g5 g6 g7 hOu8 hO8 hZ
    refine wpIn_rangeFunc_ownH (F := Fence.wide) (n := 3) rfl (by omega) (gf := 74) (lb := #[.pointer (some ⟨Z + 7, 0, none⟩)]) rfl trivial (enters_of Tryd.func74 (by kernel_rfl) rfl)
      hsq (fun h k x => k (h x)) (fun W l o o' hl h hc hw => parK_b W l o o' hl h hc hw) (Below.refl _ _) (fun _ => by rfl)
      (fun pre W => EvI fx w (Z + 5) (Z + 6) n t es S (shL Q p cs pre) (evL Q.cn Q.T pre) W)
      (fun _ _ _ => False)
      (fun pre A B row hs hg hr => hs.kept HFo.out hg (fun r e => ⟨by have := (hr r e).1; have := HZs.out; omega, (hr r e).2⟩))
      (fun _ _ _ _ _ hs _ _ => hs)
      HI0.out
      (fun x a' W => ∃ B, W.heap[B]? = some (.cells #[.int .i64 fd, .int .i64 th, .int .i64 ((x.val : Int) + 1), .int .i64 ln, .slice none 0 0] 69 (0, 0)) ∧ Z + 8 ≤ B ∧ a' = { tmps := #[.pointer t, .agg #[.int .i64 fd, .int .i64 th, .int .i64 (n : Int), .int .i64 ln], .slice a m cap, .pointer (some ⟨b0, 0, none⟩), .pointer (some ⟨b0 + 1, 0, none⟩), undef, .slice none 0 0, .int .i64 0, .int .i64 0, .pointer (some ⟨Z, 0, none⟩), .int .i64 0, .pointer (some ⟨Z + 4, 0, none⟩), .pointer (some ⟨Z + 6, 0, none⟩), .pointer (some ⟨B, 0, none⟩), .agg #[.int .i64 fd, .int .i64 th, .int .i64 (n : Int), .int .i64 ln], .slice a m cap, .int .i64 0, .int .i64 0, .bool false, undef, .tuple #[FV fd p i0 r s, .int .i64 0], .pointer (some ⟨b0 + 1, 0, none⟩), .int .i64 fd, .tuple #[FV fd p i0 r s, .int .i64 0], FV fd p i0 r s, .int .i64 0, .pointer t, .agg #[.int .i64 fd, .int .u64 (wd p 0 : Int), .int .u64 (wd p 1 : Int), .int .u64 (wd p 2 : Int), .int .u64 (wd p 3 : Int), .int .u64 (i0 : Int), .int .u64 (wd r 0 : Int), .int .u64 (wd r 1 : Int), .int .u64 (wd r 2 : Int), .int .u64 (wd r 3 : Int), .int .u64 (wd s 0 : Int), .int .u64 (wd s 1 : Int), .int .u64 (wd s 2 : Int), .int .u64 (wd s 3 : Int)], .slice a m cap, .func (.func 71) #[] #[.pointer (some ⟨Z + 2, 0, none⟩), .pointer (some ⟨Z + 3, 0, none⟩), .pointer (some ⟨Z + 1, 0, none⟩)], .pointer (some ⟨b0 + 1, 2, none⟩), .int .i64 (n : Int), .slice (some ⟨Z + 5, 0, none⟩) 0 n, .agg #[.int .i64 fd, .int .i64 th, .int .i64 (n : Int), .int .i64 ln], .func (.func 74) #[] #[.pointer (some ⟨Z + 7, 0, none⟩)], .agg #[.int .i64 fd, .int .i64 th, .int .i64 ((x.val : Int) + 1), .int .i64 ln, .slice none 0 0], undef, undef, undef, undef, undef, undef, undef, undef, undef, undef, undef, undef, undef, undef], defers := [] })
      (fun x a' _ A C row hs hg hr => by
        obtain ⟨B, h1, h2, h3⟩ := hs
        exact ⟨B, (grownBy_keeps_cells hg (fun r e => (hr r e).2) h1 rfl).trans h1, h2, h3⟩)
      ?assign ?body ?done ?stop
    case assign =>
      rintro l pre x W K hI hK
      have hlt : Z + 8 ≤ W.heap.size := by
        have h1 := heap_lt (hI.fix (Z + 7, .cells #[.int .i64 fd, .int .i64 th, .int .i64 (n : Int), .int .i64 ln] 23 (0, 0)) (by rw [HFx.out]; simp))
        dsimp only at h1
        omega
      have HI := Lib.hid hI
      have HKf := Lib.hid hK
      clear hI hK hsq
      gi_wp2
      have ho := (Off.refl (fun _ => False) W).alloc (.cells #[.int .i64 fd, .int .i64 th, .int .i64 ((x.val : Int) + 1), .int .i64 ln, .slice none 0 0] 69)
      exact HKf.out _ _ (ho.keeps.from _) (fun h => h.kept ho.to_grown (fun r e => by cases e)) (HI.out.keep HFo.out ho) ⟨W.heap.size, World.alloc_heap_new W _, hlt, rfl⟩
    case body =>
      rintro l pre x a' W _ _ hI ⟨B, hcB, hBt, rfl⟩ hlen
      obtain ⟨k, hk⟩ : ∃ k : Nat, k = x.val + 1 := ⟨_, rfl⟩
      have hkI : (x.val : Int) + 1 = (k : Int) := by omega
      have hkn : k ≤ n := by have := x.isLt; omega
      have HSn := Lib.hid (show shL Q p cs (pre ++ [x]) = shL Q p cs pre ++ [shrN Q p cs k] by rw [shL_snoc, hk])
      have HEn := Lib.hid (show evL Q.cn Q.T (pre ++ [x]) = (evL Q.cn Q.T pre ++ [((5 : Int), (k : Int), (0 : Int))]) ++ chEv Q.T Q.cn by rw [evL_snoc, hkI, List.append_assoc])
      rw [hkI] at hcB ⊢
      have hsl : (shL Q p cs pre).length = pre.length := shL_len _ _ _ _
      have hel := evL_len Q.cn Q.T pre
      obtain ⟨shs, hshs⟩ : ∃ shs, shs = shL Q p cs pre := ⟨_, rfl⟩
      obtain ⟨evs, hevs⟩ : ∃ evs, evs = evL Q.cn Q.T pre := ⟨_, rfl⟩
      rw [← hshs] at HSn hI hsl
      rw [← hevs] at HEn hI hel
      have hbnd : es.length + evs.length + (1 + Q.cn * (1 + Q.T)) ≤ 70000 := by
        have h1 := HNums.out.2.2.2.2.2.2.2.1
        rw [dealEv_len] at h1
        have h2 := Nat.mul_le_mul_right (1 + Q.cn * (1 + Q.T)) hlen
        rw [Nat.succ_mul] at h2
        omega
      obtain ⟨S1, ht1, ht2, ht3⟩ := hI.tape
      have hnote := CallsIn.inRound l (callsIn_wide (n := 3 - 1 - 1 - 1).2 (note_ext t (ext t es evs) S1 W ht1 (by have := ext_le t es evs; omega) ((5 : Int), (k : Int), (0 : Int))))
      have q0 : W.cell? ⟨b0, 0, none⟩ = some (.pointer t) := cell_of_heap (hI.fix (b0, .cells #[.pointer t] 56 (0, 0)) (by rw [HFx.out]; simp)) 0
      have q1 : W.cell? ⟨B, 2, none⟩ = some (.int .i64 (k : Int)) := cell_of_heap hcB 2
      have lq := World.block_lt_of_cell? W _ q0
      have lB := heap_lt hcB
      have HI := Lib.hid hI
      have HcB := Lib.hid hcB
      have HT1 := Lib.hid (And.intro ht2 ht3)
      have HBd := Lib.hid hbnd
      have HKn := Lib.hid (And.intro hkn (And.intro hsl (And.intro hlen hBt)))
      clear hI hcB ht1 ht2 ht3 hbnd hkn hsl hlen hel hshs hevs hkI hk hBt hsq
      gi_wp2
      refine hnote.mono ?_
      rintro e u3 ⟨rfl, hN, hO⟩
      obtain ⟨H1a, H1b⟩ := HT1.out
      have hI1 := HI.out.noted HFo.out H1a H1b hO hN
      have hB1 := hO.heap HcB.out (fun c => (H1b _ c).nt HcB.out nt_sh)
      obtain ⟨S2, ht1, ht2, ht3⟩ := hI1.tape
      have fxm : ∀ y ∈ fx, u3.heap[y.1]? = some y.2 := hI1.fix
      rw [HFx.out] at fxm
      have e1 := fxm (Z + 1, .cells #[.pointer t] 56 (0, 0)) (by simp)
      have e2 := fxm (Z + 2, (.cells #[.int .i64 fd, .int .u64 (wd p 0 : Int), .int .u64 (wd p 1 : Int), .int .u64 (wd p 2 : Int), .int .u64 (wd p 3 : Int), .int .u64 (i0 : Int), .int .u64 (wd r 0 : Int), .int .u64 (wd r 1 : Int), .int .u64 (wd r 2 : Int), .int .u64 (wd r 3 : Int), .int .u64 (wd s 0 : Int), .int .u64 (wd s 1 : Int), .int .u64 (wd s 2 : Int), .int .u64 (wd s 3 : Int)] 73 (0, 0))) (by simp)
      have e3 := fxm (Z + 3, .cells #[.slice a m cap] 29 (0, 0)) (by simp)
      have e4 := fxm (Z + 4, .cells #[.func (.func 71) #[] #[.pointer (some ⟨Z + 2, 0, none⟩), .pointer (some ⟨Z + 3, 0, none⟩), .pointer (some ⟨Z + 1, 0, none⟩)]] 91 (0, 0)) (by simp)
      dsimp only at e1 e2 e3 e4
      obtain ⟨n1, n2, n3, n4, n5, n6, n7, n8, n9, n10, n11⟩ := HNums.out
      have hLx : LLsAt u3 (.slice a m cap) (cs.map (·.map (fm p))) Sl := by rw [← n9]; exact HL.out.off hI1.off (fun b _ c => (HSl.out b c).2)
      have hcl := CallsIn.inRound l (callsIn_wide (n := 3 - 1 - 1 - 1).2 (evalat_any HF.out cs Q.T m n7.symm (LLsAt.len HL.out).2 n6 n10 k (by have := HKn.out; omega) (by have := HKn.out; omega) (Z + 2) (Z + 3) (Z + 1) a cap t (ext t es (evs ++ [((5 : Int), (k : Int), (0 : Int))])) S2 Sl u3 e2 e3 e1 (fun c => (ht3 _ c).nt e2 ⟨by decide, by decide, by decide⟩) (fun c => (ht3 _ c).nt e3 ⟨by decide, by decide, by decide⟩) (fun c => (ht3 _ c).nt e1 ⟨by decide, by decide, by decide⟩) hLx (fun b c => ⟨Nat.lt_of_lt_of_le (HSl.out b c).1 hI1.off.size, fun d => (ht2 b d).elim (HSl.out b c).2 (fun d => by have := (HSl.out b c).1; omega)⟩) ht1 (by
        have h1 := ext_le t es (evs ++ [((5 : Int), (k : Int), (0 : Int))])
        rw [List.length_append, List.length_singleton] at h1
        have h2 := HBd.out
        rw [← n5] at h2
        omega)))
      have c4 : u3.cell? ⟨Z + 4, 0, none⟩ = some (.func (.func 71) #[] #[.pointer (some ⟨Z + 2, 0, none⟩), .pointer (some ⟨Z + 3, 0, none⟩), .pointer (some ⟨Z + 1, 0, none⟩)]) := cell_of_heap e4 0
      have c2 : u3.cell? ⟨B, 2, none⟩ = some (.int .i64 (k : Int)) := cell_of_heap hB1 2
      have l4 := heap_lt e4
      have l2 := heap_lt hB1
      have HI1 := Lib.hid hI1
      have HB1 := Lib.hid hB1
      have HT2 := Lib.hid (And.intro ht2 ht3)
      have HO1 := Lib.hid hO
      clear q0 q1 lq lB hnote hN hO hI1 hB1 ht1 ht2 ht3 fxm e1 e2 e3 e4 hLx n1 n2 n3 n4 n5 n6 n7 n8 n9 n10 n11 H1a H1b
      gi_wp2
      refine hcl.mono ?_
      rintro e u4 ⟨b2, rfl, hb2, hN2, hN, hO⟩
      obtain ⟨H2a, H2b⟩ := HT2.out
      obtain ⟨hkn, hsl, hlen, hBt⟩ := HKn.out
      have hz := HZs.out
      have hI2 := HI1.out.noted HFo.out H2a H2b hO hN
      have hB2 := hO.heap HB1.out (fun c => (H2b _ c).nt HB1.out nt_sh)
      have hne : b2 ≠ B := fun e => by subst e; have h := hN2; unfold NumsAt at h; rw [hB2] at h; simp at h
      have hset := setCells_off B [(.slice (some ⟨b2, 0, none⟩) m m)] 4 u4
      have hB3 := heap_set hB2 4 (.slice (some ⟨b2, 0, none⟩) m m)
      have hI3 := hI2.put HFo.out hB2 (by omega) (by omega) hset
      have hI4 := hI3.keep HFo.out ((Off.refl (fun _ => False) (u4.setCell ⟨B, 4, none⟩ (.slice (some ⟨b2, 0, none⟩) m m))).alloc (.cells #[.int .i64 fd, .int .i64 th, .int .i64 (k : Int), .int .i64 ln, (.slice (some ⟨b2, 0, none⟩) m m)] 69))
      have hpl : (payN p cs k).length = m := by unfold payN; rw [List.length_map]; exact HNums.out.2.2.2.2.2.2.1
      have hQf : Q.fd = fd ∧ Q.th = th ∧ Q.ln = ln := by rw [HQe.out]; exact ⟨rfl, rfl, rfl⟩
      have hN3 : NumsAt ((u4.setCell ⟨B, 4, none⟩ (.slice (some ⟨b2, 0, none⟩) m m)).alloc (.cells #[.int .i64 fd, .int .i64 th, .int .i64 (k : Int), .int .i64 ln, (.slice (some ⟨b2, 0, none⟩) m m)] 69)) b2 66 (payN p cs k) := heap_old' (hN2.off hset (fun e => hne e)) _
      have hPay : PayRow w.heap.size ((u4.setCell ⟨B, 4, none⟩ (.slice (some ⟨b2, 0, none⟩) m m)).alloc (.cells #[.int .i64 fd, .int .i64 th, .int .i64 (k : Int), .int .i64 ln, (.slice (some ⟨b2, 0, none⟩) m m)] 69)) ⟨shrN Q p cs k, some ⟨b2, 0, none⟩, m⟩ := by
        unfold PayRow
        refine ⟨flat4_length _, .inr ⟨b2, m, _, by rw [show (shrN Q p cs k).pl.length = m from hpl], by have := HI1.out.off.size; omega, hN3, by rw [show (shrN Q p cs k).pl.length = m from hpl]; exact Nat.le_refl _, by unfold maxLen; have := (LLsAt.len HL.out).2; omega, by rw [List.size_toArray, flat4_length]; exact congrArg (· * 4) hpl, by rw [List.take_of_length_le (by rw [flat4_length]; exact Nat.le_refl _)]; rfl⟩⟩
      obtain ⟨w5, hrun, hO5, hlb5, hI5⟩ := hI4.app HFo.out (by rw [hsl]; exact hlen) (by omega) (by omega) (by omega) hPay (nb := u4.heap.size) (by
        rw [show (shrN Q p cs k).pl.length = m from hpl, show (shrN Q p cs k).fd = fd from hQf.1, show (shrN Q p cs k).th = th from hQf.2.1, show (shrN Q p cs k).ln = ln from hQf.2.2]
        exact heap_new' (by simp) _)
      have m4 : u4.cell? ⟨B, 4, none⟩ = some (.slice none 0 0) := cell_of_heap hB2 4
      have fz := frozen_of_heap hB2 4
      have lB := heap_lt hB2
      have y0 : (u4.setCell ⟨B, 4, none⟩ (.slice (some ⟨b2, 0, none⟩) m m)).cell? ⟨Z + 6, 0, none⟩ = some (.slice (some ⟨Z + 5, 0, none⟩) shs.length n) := cell_of_heap hI3.lst 0
      have s0 : (u4.setCell ⟨B, 4, none⟩ (.slice (some ⟨b2, 0, none⟩) m m)).cell? ⟨B, 0, none⟩ = some (.int .i64 fd) := cell_of_heap hB3 0
      have s1 : (u4.setCell ⟨B, 4, none⟩ (.slice (some ⟨b2, 0, none⟩) m m)).cell? ⟨B, 1, none⟩ = some (.int .i64 th) := cell_of_heap hB3 1
      have s2 : (u4.setCell ⟨B, 4, none⟩ (.slice (some ⟨b2, 0, none⟩) m m)).cell? ⟨B, 2, none⟩ = some (.int .i64 (k : Int)) := cell_of_heap hB3 2
      have s3 : (u4.setCell ⟨B, 4, none⟩ (.slice (some ⟨b2, 0, none⟩) m m)).cell? ⟨B, 3, none⟩ = some (.int .i64 ln) := cell_of_heap hB3 3
      have s4 : (u4.setCell ⟨B, 4, none⟩ (.slice (some ⟨b2, 0, none⟩) m m)).cell? ⟨B, 4, none⟩ = some (.slice (some ⟨b2, 0, none⟩) m m) := cell_of_heap hB3 4
      have l6 : Z + 6 < u4.heap.size := by have := heap_lt hI2.lst; omega
      have hBZ : B ≠ Z + 6 := by omega
      have hBZ2 : Z + 6 ≠ B := by omega
      have n0 : w5.cell? ⟨Z + 6, 0, none⟩ = some (.slice (some ⟨Z + 5, 0, none⟩) shs.length n) := cell_of_heap hlb5 0
      have fz2 := frozen_of_heap hlb5 0
      have l7 := heap_lt hlb5
      have HI5 := Lib.hid hI5
      have HO4 := Lib.hid hO
      have HSet := Lib.hid hset
      have HO5 := Lib.hid hO5
      clear hI5 hO hset hO5 hI2 hI3 hI4 hB2 hB3 hne hpl hQf hN3 hPay hN hN2 hb2 hlb5 H2a H2b hcl c2 c4 l2 l4 hz hkn hlen hsl hBt
      gi_wp2_with (gi_at_builtin; refine wpListIn_append_run _ rfl _ _ _ rfl _ _ rfl rfl hrun ?_)
      have ho6 := setCells_off (Z + 6) [.slice (some ⟨Z + 5, 0, none⟩) (shs.length + 1) n] 0 w5
      have hall : Off (fun _ => True) W (w5.setCell ⟨Z + 6, 0, none⟩ (.slice (some ⟨Z + 5, 0, none⟩) (shs.length + 1) n)) := ((((((HO1.out.mono (S' := fun _ => True) (fun _ _ _ => trivial)).trans HO4.out (fun _ _ _ => trivial)).trans HSet.out (fun _ _ _ => trivial)).alloc _).trans HO5.out (fun _ _ _ => trivial)).trans ho6 (fun _ _ _ => trivial))
      refine ⟨hall.keeps.from _, fun _ => ?_, ?_⟩
      · exact HI5.out.fix (Z + 7, .cells #[.int .i64 fd, .int .i64 th, .int .i64 (n : Int), .int .i64 ln] 23 (0, 0)) (by rw [HFx.out]; simp)
      · show EvI fx w (Z + 5) (Z + 6) n t es S (shL Q p cs (pre ++ [x])) (evL Q.cn Q.T (pre ++ [x])) _
        rw [HSn.out, HEn.out, ← HNums.out.2.2.2.2.1]
        exact HI5.out
    case done =>
      rintro D ys A hD rfl hI hK
      rw [evL_all, shL_all Q p cs n HNums.out.1] at hI
      have hlen : (shrsN Q p cs).length = n := by unfold shrsN; rw [List.length_map, List.length_range]; exact HNums.out.1
      have m0 : A.cell? ⟨Z + 6, 0, none⟩ = some (.slice (some ⟨Z + 5, 0, none⟩) (shrsN Q p cs).length n) := cell_of_heap hI.lst 0
      rw [hlen] at m0
      have lz := heap_lt hI.lst
      have HKK := Lib.hid hK
      have HI := Lib.hid hI
      have HD := Lib.hid hD
      clear hI hK hlen hD hsq
      gi_wp2
      refine ⟨by simp, .inl ⟨_, _, rfl, run_takeDeferred HKK.out, ?_⟩⟩
      have hz := HZs.out
      obtain ⟨n1, n2, n3, n4, n5, n6, n7, n8, n9, n10, n11⟩ := HNums.out
      have hI2 := HI.out.kept HFo.out (grownBy_putObj' A D (.deferred none)) (fun r e => by cases e; exact ⟨by have := HD.out; omega, _, HKK.out, rfl⟩)
      have hmade := hI2.made HQ.out (p := p) (by omega) HF.out.mp.lt (by omega) (cs := cs) (by rw [n7]; have := (LLsAt.len HL.out).2; omega) (by unfold shrsN; rw [n1]) (by omega)
      refine ⟨.tuple #[.slice (some ⟨Z + 5, 0, none⟩) n n, .int .i64 0], by simp [results, Tryd.results21, go_sem], _, rfl, ⟨?_, ?_⟩, hI2.off⟩
      · unfold Made shrsN
        rw [n1, n2]
        exact hmade
      · rw [n1]
        obtain ⟨S1, e1, e2⟩ := hI2.tp
        exact ⟨S1, e1, e2⟩
    case stop =>
      rintro D c pre W _ _ h _
      exact h.elim
  · have i1 : ((c : Int) != 0) = true := by simp; omega
    have i2 : ¬ (c : Int) = 0 := by omega
    have HN := Lib.hid ((HS.out.off0 HO1.out).noted w.heap.size)
    gi_wp2
    exact ⟨.tuple #[.slice none 0 0, .int .i64 (c : Int)], by simp [results, Tryd.results21, go_sem], _, rfl, fun _ => ⟨rfl, HN.out⟩, fun h => absurd h h0, HO1.out.mono (fun _ _ c => c.elim)⟩
end
section
open Go.RowKit
set_option maxRecDepth 100000
set_option maxHeartbeats 4000000
attribute [local go_sem ↓] Go.wp_at_zero Go.wp_at_succ
theorem made_base {B B' : Nat} {W : World} {v : Value} {l : List Sh} (h : Made B W v l) (hb : B' ≤ B) : Made B' W v l := by
  obtain ⟨a, cap, hv, h1, h2, h3, h4⟩ := h
  refine ⟨a, cap, hv, h1, h2, h3, fun hp => ?_⟩
  obtain ⟨b, off, ha, hs, h5⟩ := h4 hp
  refine ⟨b, off, ha, Nat.le_trans hb hs, fun j s hj => ?_⟩
  have h6 := h5 j s hj
  unfold ShAt at h6 ⊢
  obtain ⟨e0, e1, e2, e3, pa, pc, e4, e5, e6⟩ := h6
  exact ⟨e0, e1, e2, e3, pa, pc, e4, e5, e6.wide (fun k _ hk => Nat.le_trans hb hk)⟩
/-- Without a tape. -/
theorem eval_nil (q : Pms) (hq : q.ok) (xs cs : List (List Nat)) (hx : evaE q xs = 0 → xs = cs.map (·.map (fm (modN q.fd)))) (v : Value) (w : World) (hL : LLs w v xs) (hl : evaE q xs = 0 → (dealEv q.cn q.T q.sh.toNat).length ≤ 70000) (hT : TabAt w) :
    Calls Tryd.prog 21 #[.pointer none, q.val, v] w fun e w' => ∃ v', e = .returned (.tuple #[v', .int .i64 (evaE q xs : Int)]) ∧ (evaE q xs ≠ 0 → v' = .slice none 0 0) ∧ (evaE q xs = 0 → Made w.heap.size w' v' (shrsN q (modN q.fd) cs)) ∧ Off (fun _ => False) w w' := by
  refine (eval_deal q hq xs cs hx v w _ hL.lt none [] (fun _ => False) (Tp.none w) (fun b h => ⟨h, fun c => c⟩) (fun h => by simpa using hl h) hT).mono ?_
  rintro e w' ⟨v', he, h1, h2, h3⟩
  exact ⟨v', he, fun h => (h1 h).1, fun h => (h2 h).1, h3⟩
theorem deal_deal (q : Pms) (hq : q.ok) (a1 a2 : Option Addr) (m1 m2 c1 c2 : Nat) (sec rnd : List Nat) (Sb : Nat → Prop) (w : World) (hSb : ∀ k, Sb k → k < w.heap.size) (hm1 : m1 = sec.length) (hm2 : m2 = rnd.length) (hc1 : m1 ≤ c1) (hc2 : m2 ≤ c2) (hs1 : Small sec) (hs2 : Small rnd) (hl1 : m1 ≤ 200) (hl2 : m2 ≤ 10000)
    (h1 : BsAt w a1 sec Sb) (h2 : BsAt w a2 rnd Sb) (t : Option Addr) (es : List Ev) (S : Nat → Prop) (hS : Tp w t es S) (hl : polE q sec rnd = 0 → es.length + (dealEv q.cn q.T q.sh.toNat).length ≤ 70000) (hT : TabAt w) :
    Calls Tryd.prog 14 #[.pointer t, q.val, .slice a1 m1 c1, .slice a2 m2 c2] w fun e w' => ∃ v', e = .returned (.tuple #[v', .int .i64 (polE q sec rnd : Int)]) ∧ (polE q sec rnd ≠ 0 → v' = .slice none 0 0 ∧ Noted w.heap.size t es [] S w') ∧ (polE q sec rnd = 0 → Made w.heap.size w' v' (shrsN q (modN q.fd) (polsN q sec rnd)) ∧ Noted w.heap.size t es (dealEv q.cn q.T q.sh.toNat) S w') ∧ Off S w w' := by
  obtain ⟨W0, hW0⟩ : ∃ W0, W0 = w.alloc (.cells #[.int .i64 q.fd, .int .i64 q.th, .int .i64 q.sh, .int .i64 q.ln] 23) := ⟨_, rfl⟩
  have HG0 := Lib.hid (show W0.heap[w.heap.size]? = some (.cells #[.int .i64 q.fd, .int .i64 q.th, .int .i64 q.sh, .int .i64 q.ln] 23 (0, 0)) by rw [hW0]; exact heap_new' rfl _)
  have HO0 := Lib.hid (show Off (fun _ => False) w W0 by rw [hW0]; exact (Off.refl _ w).alloc _)
  have HW0 := Lib.hid hW0
  clear hW0
  have FP := Lib.hid (pols_new q hq a1 a2 m1 m2 c1 c2 sec rnd Sb W0 (fun k h => Nat.lt_of_lt_of_le (hSb k h) HO0.out.size) hm1 hm2 hc1 hc2 hs1 hs2 hl1 hl2 (h1.off HO0.out (fun _ _ _ c => c)) (h2.off HO0.out (fun _ _ _ c => c)) (hT.off HO0.out))
  obtain ⟨c, hc⟩ : ∃ c, c = polE q sec rnd := ⟨_, rfl⟩
  have HE := Lib.hid (show c = 0 → evaE q ((polsN q sec rnd).map (·.map (fm (modN q.fd)))) = 0 from fun h => by
    rw [hc] at h
    have h3 := polE_ok h
    have h4 := prN_ok h3.1
    unfold evaE
    rw [if_neg (fun h => h h3.1), if_neg]
    rintro (h5 | ⟨y, hy, h5⟩)
    · rw [List.length_map, polsN_length] at h5; exact h5 rfl
    · obtain ⟨z, hz, rfl⟩ := List.mem_map.1 hy
      unfold polsN at hz
      obtain ⟨i, _, rfl⟩ := List.mem_map.1 hz
      rw [List.length_map, polN_length _ _ _ _ (by unfold Pms.T; omega)] at h5
      exact h5 rfl)
  rw [← hc] at FP hl ⊢
  have HL := Lib.hid hl
  have HS := Lib.hid hS
  have HT := Lib.hid hT
  have HQ := Lib.hid hq
  clear hl hS hT hq hc h1 h2 hs1 hs2 hSb hm1 hm2 hc1 hc2 hl1 hl2
  obtain ⟨qv, hqv⟩ : ∃ qv, qv = q.val := ⟨_, rfl⟩
  have HV := Lib.hid hqv
  have hqe : q.val = .agg #[.int .i64 q.fd, .int .i64 q.th, .int .i64 q.sh, .int .i64 q.ln] := rfl
  rw [hqe] at FP ⊢
  clear hqv hqe HV
  go_enter Tryd.func14, Tryd.ntmps14
  go_wp2_with fail
  rw [← HW0.out]
  obtain ⟨p0, p1, p2, p3⟩ := cells4 HG0.out
  have lp := heap_lt HG0.out
  go_wp2_with fail
  refine FP.out.mono ?_
  rintro e u ⟨v, rfl, hv, hO⟩
  clear p0 p1 p2 p3 lp
  have HO1 := Lib.hid (HO0.out.trans hO (fun _ _ c => c))
  have HG1 := Lib.hid (hO.heap HG0.out (fun c => c))
  have hlv := hv
  clear hO FP
  by_cases h0 : c = 0
  · subst h0
    rw [if_pos rfl] at hv hlv
    have HEv := Lib.hid (HE.out rfl)
    have FE := Lib.hid (eval_deal q HQ.out _ (polsN q sec rnd) (fun _ => rfl) v u (fun b => W0.heap.size ≤ b ∧ b < u.heap.size) (hv.mono (fun b h1 h2 => ⟨h2, h1⟩)) t es S (HS.out.off0 HO1.out) (fun b h1 => ⟨h1.2, fun d => by have := HS.out.2 b d; have := HO0.out.size; omega⟩) (fun _ => HL.out rfl) (HT.out.off HO1.out))
    rw [HEv.out] at FE
    rw [show q.val = .agg #[.int .i64 q.fd, .int .i64 q.th, .int .i64 q.sh, .int .i64 q.ln] from rfl] at FE
    obtain ⟨a, cap, rfl, _, _⟩ := hlv
    obtain ⟨n, hn⟩ : ∃ n, n = ((polsN q sec rnd).map (·.map (fm (modN q.fd)))).length := ⟨_, rfl⟩
    rw [← hn] at FE ⊢
    clear hn
    obtain ⟨p0, p1, p2, p3⟩ := cells4 HG1.out
    have lp := heap_lt HG1.out
    clear hv
    go_wp2_with fail
    refine FE.out.mono ?_
    rintro e u2 ⟨v', rfl, _, h2, h3⟩
    have H2 := Lib.hid (h2 trivial)
    have H3 := Lib.hid h3
    clear h2 h3 p0 p1 p2 p3 lp
    go_wp2
    have hw := HO1.out.size
    refine bodyPost_ret (v := .tuple #[v', .int .i64 0]) (by simp [results, Tryd.results14, go_sem]) rfl ⟨v', rfl, ⟨?_, ?_⟩, (HO1.out.mono (fun _ _ c => c.elim)).trans H3.out (fun _ _ c => c)⟩
    · exact made_base H2.out.1 hw
    · obtain ⟨S1, e1, e2⟩ := H2.out.2
      exact ⟨S1, e1, fun k c => (e2 k c).imp (fun c => c) (fun c => by omega)⟩
  · rw [if_neg h0] at hlv
    obtain ⟨a, cap, rfl, _, _⟩ := hlv
    have i1 : ((c : Int) != 0) = true := by simp; omega
    have i2 : ¬ (c : Int) = 0 := by omega
    have HN := Lib.hid ((HS.out.off0 HO1.out).noted w.heap.size)
    clear hv
    go_wp2
    exact bodyPost_ret (v := .tuple #[.slice none 0 0, .int .i64 (c : Int)]) (by simp [results, Tryd.results14, go_sem]) rfl ⟨_, rfl, fun _ => ⟨rfl, HN.out⟩, fun h => absurd h h0, HO1.out.mono (fun _ _ c => c.elim)⟩
end
end Go.Proofs.YtclehgconbdkpaaDoor
