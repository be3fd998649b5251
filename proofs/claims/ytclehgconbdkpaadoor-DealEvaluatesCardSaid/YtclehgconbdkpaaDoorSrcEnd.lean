/-
  What a source is in memory. Plain facts; no condition.
  The contracts of package source over this seat's translation: New, Left, Take, Element, Elements, also of a nil source. Conditions: the source lies in memory as SrcP says; the field's constants are those of its modulus.
-/
import Derived.Test.YtclehgconbdkpaaDoorSrcGrp
import Derived.Test.YtclehgconbdkpaaDoorBytAll
import Derived.Test.YtclehgconbdkpaaDoorBytRow
import Derived.Test.YtclehgconbdkpaaDoorMontAll
namespace Go.Proofs.YtclehgconbdkpaaDoor
section
open Go.RowKit
/-- The source at block b has the bytes bs left; all that it lies in is within S (to be told by the code's own layout). -/
def SrcP (W : World) (b : Nat) (bs : List Nat) (S : Nat → Prop) : Prop := S b ∧ (∀ k, S k → k < W.heap.size) ∧ Small bs ∧ ∃ a cap, W.heap[b]? = some (.cells #[.slice a bs.length cap] 121 (0, 0)) ∧ bs.length ≤ cap ∧ BsAt W a bs (fun j => S j ∧ j ≠ b)
theorem SrcP.off {W W' : World} {b : Nat} {bs : List Nat} {S S' : Nat → Prop} (h : SrcP W b bs S) (ho : Off S' W W') (hd : ∀ k, k < W.heap.size → S k → ¬ S' k) : SrcP W' b bs S := by
  obtain ⟨h0, hk, hs, a, cap, h1, h2, h3⟩ := h
  exact ⟨h0, fun k h => Nat.lt_of_lt_of_le (hk k h) ho.size, hs, a, cap, ho.heap h1 (hd b (heap_lt h1) h0), h2, h3.off ho (fun k hk hs => hd k hk hs.1)⟩
theorem SrcP.keep {W W' : World} {b : Nat} {bs : List Nat} {S : Nat → Prop} (h : SrcP W b bs S) (ho : Off (fun _ => False) W W') : SrcP W' b bs S := h.off ho (fun _ _ _ c => c)
theorem SrcP.mem {W : World} {b : Nat} {bs : List Nat} {S : Nat → Prop} (h : SrcP W b bs S) : S b := h.1
theorem SrcP.lt {W : World} {b : Nat} {bs : List Nat} {S : Nat → Prop} (h : SrcP W b bs S) : ∀ k, S k → k < W.heap.size := h.2.1
theorem SrcP.small {W : World} {b : Nat} {bs : List Nat} {S : Nat → Prop} (h : SrcP W b bs S) : Small bs := h.2.2.1
end
section
open Go.RowKit
attribute [local go_sem ↓] Go.wp_at_zero Go.wp_at_succ
set_option maxRecDepth 100000
set_option maxHeartbeats 4000000
theorem new_src (a : Option Addr) (n cap : Nat) (bs : List Nat) (S : Nat → Prop) (w : World) (hb : BsAt w a bs S) (hn : n = bs.length) (_hc : n ≤ cap) (hs : Small bs) (hl : n ≤ 12000) :
    Calls Tryd.prog 34 #[.slice a n cap] w fun e w' => ∃ b S', e = .returned (.pointer (some ⟨b, 0, none⟩)) ∧ SrcP w' b bs S' ∧ (∀ k, S' k → w.heap.size ≤ k) ∧ Off (fun _ => False) w w' := by
  have FC := Lib.hid (clone_by a n cap bs S w hb hn hl)
  have HS := Lib.hid hs
  clear hb hn hl hs
  go_enter Tryd.func34, Tryd.ntmps34
  go_wp2_with fail
  refine FC.out.mono ?_
  rintro e u ⟨v, rfl, hr, hO⟩
  obtain ⟨a', cap', rfl, hc', hb'⟩ := hr.at
  have hA := (Off.refl (fun _ => False) u).alloc (.cells #[.slice a' bs.length cap'] 121)
  have HB := Lib.hid (hb'.off hA (fun _ _ _ c => c))
  have HC := Lib.hid hc'
  have HO := Lib.hid hO
  have hs1 := hO.size
  clear hr hb' hc' hO hA FC
  go_wp2
  go_ret
  exact ⟨u.heap.size, fun j => w.heap.size ≤ j ∧ j < u.heap.size + 1, rfl, ⟨⟨hs1, by omega⟩, fun k h => by simp; omega, HS.out, a', cap', heap_new' rfl _, HC.out, HB.out.mono (fun k _ h => ⟨⟨h.1, by omega⟩, by omega⟩)⟩, fun k h => h.1, HO.out.alloc _⟩
/-- The error of a call that takes n parts of z bytes each, of N bytes. -/
def chkC (N : Nat) (n : Int) (z : Nat) : Nat := if n < 0 then 2 else if ((N / z : Nat) : Int) < n then 7 else 0
theorem check_src (b : Nat) (bs : List Nat) (S : Nat → Prop) (n : Int) (_hn : (Lit.int .i64 n).wf = true) (z : Nat) (hz : 0 < z) (hz2 : z ≤ 64) (w : World) (h : SrcP w b bs S) (hl : bs.length ≤ 12000) :
    Calls Tryd.prog 63 #[.pointer (some ⟨b, 0, none⟩), .int .i64 n, .int .i64 (z : Int)] w fun e w' => e = .returned (.int .i64 (chkC bs.length n z : Int)) ∧ Off (fun _ => False) w w' := by
  obtain ⟨_, _, _, a, cap, h1, _, _⟩ := h
  obtain ⟨N, hN⟩ : ∃ N, N = bs.length := ⟨_, rfl⟩
  rw [← hN] at h1 hl ⊢
  have m0 : w.cell? ⟨b, 0, none⟩ = some (.slice a N cap) := cell_of_heap h1 0
  have lt := heap_lt h1
  obtain ⟨q, hq⟩ : ∃ q, q = N / z := ⟨_, rfl⟩
  have hqN : q ≤ N := by rw [hq]; exact Nat.div_le_self _ _
  have hq0 : Int.tdiv (N : Int) (z : Int) = (q : Int) := by
    rw [Int.tdiv_eq_ediv_of_nonneg (by omega), hq]
    exact (Int.natCast_ediv _ _).symm
  have hw0 : IntKind.i64.wrap (q : Int) = (q : Int) := by rw [IntKind.wrap_i64]; omega
  have hz0 : ¬ (z : Int) = 0 := by omega
  have hz1 : ¬ (z : Nat) = 0 := by omega
  unfold chkC
  rw [← hq]
  clear h1 hN hq hz hz2
  by_cases hneg : n < 0
  · rw [if_pos hneg]
    go_enter Tryd.func63, Tryd.ntmps63
    go_wp2
    go_ret
    exact ⟨rfl, Off.refl _ _⟩
  · rw [if_neg hneg]
    by_cases hfew : (q : Int) < n
    · rw [if_pos hfew]
      go_enter Tryd.func63, Tryd.ntmps63
      go_wp2
      go_ret
      exact ⟨rfl, Off.refl _ _⟩
    · rw [if_neg hfew]
      go_enter Tryd.func63, Tryd.ntmps63
      go_wp2
      go_ret
      exact ⟨rfl, Off.refl _ _⟩
theorem check_nil (n : Int) (z : Int) (w : World) :
    Calls Tryd.prog 63 #[.pointer none, .int .i64 n, .int .i64 z] w fun e w' => e = .returned (.int .i64 1) ∧ Off (fun _ => False) w w' := by
  go_enter Tryd.func63, Tryd.ntmps63
  go_wp2
  go_ret
  exact ⟨rfl, Off.refl _ _⟩
theorem take_any (b : Nat) (bs : List Nat) (S : Nat → Prop) (n : Int) (hn : (Lit.int .i64 n).wf = true) (w : World) (h : SrcP w b bs S) (hl : bs.length ≤ 12000) :
    Calls Tryd.prog 84 #[.pointer (some ⟨b, 0, none⟩), .int .i64 n] w fun e w' => ∃ v, e = .returned (.tuple #[v, .int .i64 ((takeV bs n).2.1 : Int)]) ∧ RowY w.heap.size w' v (takeV bs n).1 ∧ SrcP w' b (takeV bs n).2.2 S ∧ Off (fun k => k = b) w w' := by
  have FK := Lib.hid (check_src b bs S n hn 1 (by decide) (by decide) w h hl)
  have HH := Lib.hid h
  obtain ⟨hSb, hSw, hsm, a, cap, h1, hc, hb⟩ := h
  obtain ⟨N, hN⟩ : ∃ N, N = bs.length := ⟨_, rfl⟩
  rw [← hN] at h1 hc FK
  unfold chkC at FK
  rw [Nat.div_one] at FK
  have lt := heap_lt h1
  by_cases hneg : n < 0
  · rw [takeV_neg hneg]
    rw [if_pos hneg] at FK
    clear h1 hc hb hN hSb hSw hsm hl hn
    go_enter Tryd.func84, Tryd.ntmps84
    go_wp2_with fail
    refine FK.out.mono ?_
    rintro e u ⟨rfl, hO⟩
    have HP := Lib.hid (HH.out.keep hO)
    have HO := Lib.hid hO
    clear hO
    go_wp2
    exact bodyPost_ret (v := .tuple #[.slice none 0 0, .int .i64 2]) (by simp [results, Tryd.results84, go_sem]) rfl ⟨_, rfl, RowT.nil _, HP.out, Off.mono (S := fun _ => False) HO.out (fun _ _ c => c.elim)⟩
  · rw [if_neg hneg] at FK
    by_cases hfew : (N : Int) < n
    · rw [takeV_few (by omega) (by rw [← hN]; exact hfew)]
      rw [if_pos hfew] at FK
      clear h1 hc hb hN hSb hSw hsm hl hn
      go_enter Tryd.func84, Tryd.ntmps84
      go_wp2_with fail
      refine FK.out.mono ?_
      rintro e u ⟨rfl, hO⟩
      have HP := Lib.hid (HH.out.keep hO)
      have HO := Lib.hid hO
      clear hO
      go_wp2
      exact bodyPost_ret (v := .tuple #[.slice none 0 0, .int .i64 7]) (by simp [results, Tryd.results84, go_sem]) rfl ⟨_, rfl, RowT.nil _, HP.out, Off.mono (S := fun _ => False) HO.out (fun _ _ c => c.elim)⟩
    · rw [if_neg hfew] at FK
      obtain ⟨k, rfl⟩ : ∃ k : Nat, n = (k : Int) := Int.eq_ofNat_of_zero_le (by omega)
      have hk : k ≤ N := by omega
      rw [takeV_ok (by omega)]
      obtain ⟨a1, hs1, hb1⟩ := part_h a N cap k bs hN hk hc
      obtain ⟨a2, hs2, hb2⟩ := part_l a N cap k bs hN hk hc
      have FC := Lib.hid (fun W (h : Off (fun _ => False) w W) => clone_by a1 k cap (bs.take k) _ W (hb1 _ _ (hb.off h (fun _ _ _ c => c))) (by rw [List.length_take]; omega) (by omega))
      have HB2 := Lib.hid (fun W (h : Off (fun j => j = b) w W) => hb2 W _ (hb.off h (fun j _ hj e => hj.2 e)))
      have HG := Lib.hid h1
      have HD := Lib.hid (show (bs.drop k).length = N - k ∧ N - k ≤ cap - k ∧ Small (bs.drop k) ∧ S b ∧ (∀ j, S j → j < w.heap.size) from ⟨by rw [List.length_drop, hN], by omega, hsm.drop _, hSb, hSw⟩)
      clear h1 hc hb hN hSb hSw hsm hl hb1 hb2 hn hneg hfew
      go_enter Tryd.func84, Tryd.ntmps84
      go_wp2_with fail
      refine FK.out.mono ?_
      rintro e u0 ⟨rfl, hO⟩
      have h2 := hO.heap HG.out (fun c => c)
      have m0 : u0.cell? ⟨b, 0, none⟩ = some (.slice a N cap) := cell_of_heap h2 0
      have FC0 := Lib.hid (FC.out u0 hO)
      have HG0 := Lib.hid h2
      have HO0 := Lib.hid hO
      clear hO h2 FC
      go_wp2_with fail
      refine FC0.out.mono ?_
      rintro e u ⟨v, rfl, hr, hO⟩
      have h2 := hO.heap HG0.out (fun c => c)
      have m1 : u.cell? ⟨b, 0, none⟩ = some (.slice a N cap) := cell_of_heap h2 0
      have fz := fun j => frozen_of_heap h2 j
      have lt2 := heap_lt h2
      have hput := ref_put_one (u' := .slice a2 (N - k) (cap - k)) h2
      have hoff := ref_put_off u b (.slice a2 (N - k) (cap - k))
      have hO2 := (((HO0.out.trans hO (fun _ _ c => c)).mono (S' := fun j => j = b) (fun _ _ c => c.elim)).trans hoff (fun _ _ e => e))
      have HR := Lib.hid ((hr.base HO0.out.size).off hoff (fun j hj e => by have := (World.ownsRow.lt (hr.base HO0.out.size) j hj).1; omega))
      have HP := Lib.hid (show SrcP (u.setCell ⟨b, 0, none⟩ (.slice a2 (N - k) (cap - k))) b (bs.drop k) S from ⟨HD.out.2.2.2.1, fun j hj => Nat.lt_of_lt_of_le (HD.out.2.2.2.2 j hj) hO2.size, HD.out.2.2.1, a2, cap - k, by rw [HD.out.1]; exact hput, by rw [HD.out.1]; exact HD.out.2.1, HB2.out _ hO2⟩)
      have HO := Lib.hid hO2
      clear hput hoff hO2 hr hO h2 FC0 HB2 m0
      go_wp2
      exact bodyPost_ret (v := .tuple #[v, .int .i64 0]) (by simp [results, Tryd.results84, go_sem]) rfl ⟨_, rfl, HR.out, HP.out, HO.out⟩
theorem take_nil (n : Int) (w : World) : Calls Tryd.prog 84 #[.pointer none, .int .i64 n] w fun e w' => e = .returned (.tuple #[.slice none 0 0, .int .i64 1]) ∧ Off (fun _ => False) w w' := by
  have FK := Lib.hid (check_nil n 1 w)
  go_enter Tryd.func84, Tryd.ntmps84
  go_wp2_with fail
  refine FK.out.mono ?_
  rintro e u ⟨rfl, hO⟩
  have HO := Lib.hid hO
  clear hO
  go_wp2
  exact bodyPost_ret (v := .tuple #[.slice none 0 0, .int .i64 1]) (by simp [results, Tryd.results84, go_sem]) rfl ⟨rfl, HO.out⟩
theorem off4S {S : Nat → Prop} {w u : World} {b : Nat} (h : Off S w u) (hb : b < w.heap.size → S b) (v0 v1 v2 v3 : Value) : Off S w ((((u.setCell ⟨b, 0, none⟩ v0).setCell ⟨b, 1, none⟩ v1).setCell ⟨b, 2, none⟩ v2).setCell ⟨b, 3, none⟩ v3) :=
  (((h.setCell (p := ⟨b, 0, none⟩) hb _).setCell (p := ⟨b, 1, none⟩) hb _).setCell (p := ⟨b, 2, none⟩) hb _).setCell (p := ⟨b, 3, none⟩) hb _
theorem elem_nil (id : Int) (p i r s : Nat) (w : World) : Calls Tryd.prog 64 #[.pointer none, FV id p i r s] w fun e w' => e = .returned (.tuple #[.agg #[.int .u64 0, .int .u64 0, .int .u64 0, .int .u64 0], .int .i64 1]) ∧ Off (fun _ => False) w w' := by
  have FT := Lib.hid (fun W => take_nil 64 W)
  go_enter Tryd.func64, Tryd.ntmps64
  go_wp2_with fail
  obtain ⟨W0, hW0⟩ : ∃ W0, W0 = ((w.alloc (.cells #[.int .i64 id, .int .u64 (wd p 0 : Int), .int .u64 (wd p 1 : Int), .int .u64 (wd p 2 : Int), .int .u64 (wd p 3 : Int), .int .u64 (i : Int), .int .u64 (wd r 0 : Int), .int .u64 (wd r 1 : Int), .int .u64 (wd r 2 : Int), .int .u64 (wd r 3 : Int), .int .u64 (wd s 0 : Int), .int .u64 (wd s 1 : Int), .int .u64 (wd s 2 : Int), .int .u64 (wd s 3 : Int)] 73)).alloc (.cells #[.int .u64 0, .int .u64 0, .int .u64 0, .int .u64 0] 66)) := ⟨_, rfl⟩
  have hO0 : Off (fun _ => False) w W0 := by rw [hW0]; exact ((Off.refl _ w).alloc _).alloc _
  have g1 : W0.heap[w.heap.size + 1]? = some (.cells #[.int .u64 0, .int .u64 0, .int .u64 0, .int .u64 0] 66) := by rw [hW0]; exact heap_new' (by simp) _
  rw [← hW0]
  clear hW0
  refine (FT.out _).mono ?_
  rintro e u ⟨rfl, hO⟩
  have h1 := hO.heap g1 (fun c => c)
  have HOu := Lib.hid (hO0.trans hO (fun _ _ c => c))
  obtain ⟨⟨r0, r1, r2, r3⟩, fz, lt⟩ := zero_cells h1
  clear h1 hO hO0 g1
  go_wp2
  refine bodyPost_ret (v := .tuple #[.agg #[.int .u64 0, .int .u64 0, .int .u64 0, .int .u64 0], .int .i64 1]) (by simp [results, Tryd.results64, go_sem, r0, r1, r2, r3]) rfl ⟨rfl, ?_⟩
  exact off4 HOu.out (by omega) _ _ _ _
theorem elem_any {id : Int} {p i r s : Nat} (hF : Fld id p i r s) (b : Nat) (bs : List Nat) (S : Nat → Prop) (w : World) (h : SrcP w b bs S) (hl : bs.length ≤ 12000) :
    Calls Tryd.prog 64 #[.pointer (some ⟨b, 0, none⟩), FV id p i r s] w fun e w' => e = .returned (.tuple #[V (fm p (elemV bs).1), .int .i64 ((elemV bs).2.1 : Int)]) ∧ SrcP w' b (elemV bs).2.2 S ∧ Off (fun k => k = b) w w' := by
  obtain ⟨W0, hW0⟩ : ∃ W0, W0 = ((w.alloc (.cells #[.int .i64 id, .int .u64 (wd p 0 : Int), .int .u64 (wd p 1 : Int), .int .u64 (wd p 2 : Int), .int .u64 (wd p 3 : Int), .int .u64 (i : Int), .int .u64 (wd r 0 : Int), .int .u64 (wd r 1 : Int), .int .u64 (wd r 2 : Int), .int .u64 (wd r 3 : Int), .int .u64 (wd s 0 : Int), .int .u64 (wd s 1 : Int), .int .u64 (wd s 2 : Int), .int .u64 (wd s 3 : Int)] 73)).alloc (.cells #[.int .u64 0, .int .u64 0, .int .u64 0, .int .u64 0] 66)) := ⟨_, rfl⟩
  have hO0 : Off (fun _ => False) w W0 := by rw [hW0]; exact ((Off.refl _ w).alloc _).alloc _
  have g0 : W0.heap[w.heap.size]? = some (.cells #[.int .i64 id, .int .u64 (wd p 0 : Int), .int .u64 (wd p 1 : Int), .int .u64 (wd p 2 : Int), .int .u64 (wd p 3 : Int), .int .u64 (i : Int), .int .u64 (wd r 0 : Int), .int .u64 (wd r 1 : Int), .int .u64 (wd r 2 : Int), .int .u64 (wd r 3 : Int), .int .u64 (wd s 0 : Int), .int .u64 (wd s 1 : Int), .int .u64 (wd s 2 : Int), .int .u64 (wd s 3 : Int)] 73) := by rw [hW0]; exact heap_old' (heap_new' rfl _) _
  have g1 : W0.heap[w.heap.size + 1]? = some (.cells #[.int .u64 0, .int .u64 0, .int .u64 0, .int .u64 0] 66) := by rw [hW0]; exact heap_new' (by simp) _
  have hbw := h.lt b h.mem
  have hsm := h.small
  have HSw := Lib.hid h.lt
  have FT := Lib.hid (take_any b bs S 64 (by decide) W0 (h.keep hO0) hl)
  have HW0 := Lib.hid hW0
  have HO0 := Lib.hid hO0
  have HG0 := Lib.hid g0
  have HG1 := Lib.hid g1
  have HBw := Lib.hid hbw
  clear hW0 hO0 g0 g1 h hbw
  by_cases h64 : 64 ≤ bs.length
  · rw [show takeV bs 64 = (bs.take 64, 0, bs.drop 64) from takeV_ok h64] at FT
    rw [show elemV bs = (elB bs 0, 0, bs.drop 64) by unfold elemV; rw [if_pos h64]]
    have h6 : (bs.take 64).length = 64 := by rw [List.length_take]; omega
    have FW := Lib.hid (fun (W : World) (a : Option Addr) (c : Nat) (St : Nat → Prop) (hc : 64 ≤ c) (hb : BsAt W a (bs.take 64) St) => wide_any hF a 64 c (bs.take 64) St W hb h6.symm (hsm.take _) hc)
    rw [show wideV p (bs.take 64) = (fm p (elB bs 0), 0) by unfold wideV elB; rw [if_pos h6, Nat.mul_zero, List.drop_zero]] at FW
    obtain ⟨y, hy⟩ : ∃ y, y = fm p (elB bs 0) := ⟨_, rfl⟩
    dsimp only at FT FW ⊢
    rw [← hy] at FW ⊢
    have H6 := Lib.hid h6
    clear hF hsm hl h64 h6 hy
    go_enter Tryd.func64, Tryd.ntmps64
    go_wp2_with fail
    rw [← HW0.out]
    refine FT.out.mono ?_
    rintro e u1 ⟨v, rfl, hr, hP, hO⟩
    obtain ⟨a, cap, rfl, hc, hb⟩ := hr.at
    rw [H6.out] at hc ⊢
    have HB := Lib.hid hb
    have HP1 := Lib.hid hP
    have HO1 := Lib.hid hO
    have HGf := Lib.hid (hO.heap HG0.out (fun e => by have := HBw.out; omega))
    have HGr := Lib.hid (hO.heap HG1.out (fun e => by have := HBw.out; omega))
    obtain ⟨f0, f1, f2, f3, f4, f5, f6, f7, f8, f9, f10, f11, f12, f13⟩ := fv_cells HGf.out
    have hltf := heap_lt HGf.out
    clear hr hP hO hb FT
    go_wp2_with fail
    refine (FW.out _ _ _ _ hc HB.out).mono ?_
    rintro e u2 ⟨rfl, hO⟩
    obtain ⟨⟨r0, r1, r2, r3⟩, fz, lt⟩ := zero_cells (hO.heap HGr.out (fun c => c))
    have HP2 := Lib.hid (HP1.out.keep hO)
    have HO2 := Lib.hid ((HO0.out.mono (S' := fun j => j = b) (fun _ _ c => c.elim)).trans (HO1.out.trans hO (fun _ _ c => c.elim)) (fun _ _ e => e))
    have hsz := HO2.out.size
    have hbw := HBw.out
    have hszr := HO0.out.size
    clear hO f0 f1 f2 f3 f4 f5 f6 f7 f8 f9 f10 f11 f12 f13 hltf
    go_wp2
    refine bodyPost_ret (v := .tuple #[V y, .int .i64 0]) (by simp [results, Tryd.results64, go_sem, r0, r1, r2, r3]) rfl ⟨rfl, ?_, ?_⟩
    · exact HP2.out.off (off4S (S := fun j => j = w.heap.size + 1) (Off.refl _ _) (fun _ => rfl) _ _ _ _) (fun j _ hj e => by have := HSw.out j hj; omega)
    · exact off4S HO2.out (fun h => by omega) _ _ _ _
  · rw [show takeV bs 64 = ([], 7, bs) from takeV_few (by decide) (by omega)] at FT
    rw [show elemV bs = (0, 7, bs) by unfold elemV; rw [if_neg h64]]
    have hz : V (fm p 0) = .agg #[.int .u64 0, .int .u64 0, .int .u64 0, .int .u64 0] := by
      rw [fm_zero]
      exact lit_small 0 (by decide)
    dsimp only at FT ⊢
    rw [hz]
    clear hF hsm hl h64 hz
    go_enter Tryd.func64, Tryd.ntmps64
    go_wp2_with fail
    rw [← HW0.out]
    refine FT.out.mono ?_
    rintro e u1 ⟨v, rfl, hr, hP, hO⟩
    obtain ⟨a, cap, rfl, hc, hb⟩ := hr.at
    obtain ⟨⟨r0, r1, r2, r3⟩, fz, lt⟩ := zero_cells (hO.heap HG1.out (fun e => by have := HBw.out; omega))
    have HP2 := Lib.hid hP
    have HO2 := Lib.hid ((HO0.out.mono (S' := fun j => j = b) (fun _ _ c => c.elim)).trans hO (fun _ _ e => e))
    clear hr hP hO hb hc FT
    go_wp2
    refine bodyPost_ret (v := .tuple #[.agg #[.int .u64 0, .int .u64 0, .int .u64 0, .int .u64 0], .int .i64 7]) (by simp [results, Tryd.results64, go_sem, r0, r1, r2, r3]) rfl ⟨rfl, ?_, ?_⟩
    · exact HP2.out.off (off4S (S := fun j => j = w.heap.size + 1) (Off.refl _ _) (fun _ => rfl) _ _ _ _) (fun j _ hj e => by have := HSw.out j hj; omega)
    · exact off4S HO2.out (fun h => by omega) _ _ _ _
theorem els_nil (id : Int) (p i r s : Nat) (n : Int) (w : World) : Calls Tryd.prog 35 #[.pointer none, FV id p i r s, .int .i64 n] w fun e w' => e = .returned (.tuple #[.slice none 0 0, .int .i64 1]) ∧ Off (fun _ => False) w w' := by
  have FK := Lib.hid (fun W => check_nil n 64 W)
  go_enter Tryd.func35, Tryd.ntmps35
  go_wp2_with fail
  obtain ⟨W0, hW0⟩ : ∃ W0, W0 = w.alloc (.cells #[.int .i64 id, .int .u64 (wd p 0 : Int), .int .u64 (wd p 1 : Int), .int .u64 (wd p 2 : Int), .int .u64 (wd p 3 : Int), .int .u64 (i : Int), .int .u64 (wd r 0 : Int), .int .u64 (wd r 1 : Int), .int .u64 (wd r 2 : Int), .int .u64 (wd r 3 : Int), .int .u64 (wd s 0 : Int), .int .u64 (wd s 1 : Int), .int .u64 (wd s 2 : Int), .int .u64 (wd s 3 : Int)] 73) := ⟨_, rfl⟩
  have hO0 : Off (fun _ => False) w W0 := by rw [hW0]; exact (Off.refl _ w).alloc _
  rw [← hW0]
  clear hW0
  refine (FK.out _).mono ?_
  rintro e u ⟨rfl, hO⟩
  have HO := Lib.hid (hO0.trans hO (fun _ _ c => c))
  clear hO hO0
  go_wp2
  exact bodyPost_ret (v := .tuple #[.slice none 0 0, .int .i64 1]) (by simp [results, Tryd.results35, go_sem]) rfl ⟨rfl, HO.out⟩
theorem els_any {id : Int} {p i r s : Nat} (hF : Fld id p i r s) (b : Nat) (bs : List Nat) (S : Nat → Prop) (n : Int) (hn : (Lit.int .i64 n).wf = true) (w : World) (h : SrcP w b bs S) (hl : bs.length ≤ 12000) :
    Calls Tryd.prog 35 #[.pointer (some ⟨b, 0, none⟩), FV id p i r s, .int .i64 n] w fun e w' => ∃ v, e = .returned (.tuple #[v, .int .i64 ((elemsV bs n).2.1 : Int)]) ∧ LsAt w' v ((elemsV bs n).1.map (fm p)) (fun j => w.heap.size ≤ j) ∧ SrcP w' b (elemsV bs n).2.2 S ∧ Off (fun k => k = b) w w' := by
  obtain ⟨W0, hW0⟩ : ∃ W0, W0 = w.alloc (.cells #[.int .i64 id, .int .u64 (wd p 0 : Int), .int .u64 (wd p 1 : Int), .int .u64 (wd p 2 : Int), .int .u64 (wd p 3 : Int), .int .u64 (i : Int), .int .u64 (wd r 0 : Int), .int .u64 (wd r 1 : Int), .int .u64 (wd r 2 : Int), .int .u64 (wd r 3 : Int), .int .u64 (wd s 0 : Int), .int .u64 (wd s 1 : Int), .int .u64 (wd s 2 : Int), .int .u64 (wd s 3 : Int)] 73) := ⟨_, rfl⟩
  have hO0 : Off (fun _ => False) w W0 := by rw [hW0]; exact (Off.refl _ w).alloc _
  have g0 : W0.heap[w.heap.size]? = some (.cells #[.int .i64 id, .int .u64 (wd p 0 : Int), .int .u64 (wd p 1 : Int), .int .u64 (wd p 2 : Int), .int .u64 (wd p 3 : Int), .int .u64 (i : Int), .int .u64 (wd r 0 : Int), .int .u64 (wd r 1 : Int), .int .u64 (wd r 2 : Int), .int .u64 (wd r 3 : Int), .int .u64 (wd s 0 : Int), .int .u64 (wd s 1 : Int), .int .u64 (wd s 2 : Int), .int .u64 (wd s 3 : Int)] 73) := by rw [hW0]; exact heap_new' rfl _
  have hbw := h.lt b h.mem
  have HP0 := Lib.hid (h.keep hO0)
  have HW0 := Lib.hid hW0
  have HO0 := Lib.hid hO0
  have HG0 := Lib.hid g0
  have HBw := Lib.hid hbw
  have HSw := Lib.hid h.lt
  clear hW0 hO0 g0 h hbw
  obtain ⟨N, hN⟩ : ∃ N, N = bs.length := ⟨_, rfl⟩
  have FL := Lib.hid (check_src b bs S n hn 64 (by decide) (by decide) W0 HP0.out hl)
  rw [← hN] at FL
  unfold chkC at FL
  obtain ⟨q, hq⟩ : ∃ q, q = N / 64 := ⟨_, rfl⟩
  rw [← hq] at FL
  by_cases hneg : n < 0
  · rw [elemsV_neg hneg]
    rw [if_pos hneg] at FL
    clear hF hl hN hq hn
    go_enter Tryd.func35, Tryd.ntmps35
    go_wp2_with fail
    rw [← HW0.out]
    refine FL.out.mono ?_
    rintro e u ⟨rfl, hO⟩
    have HPu := Lib.hid (HP0.out.keep hO)
    have HOu := Lib.hid (HO0.out.trans hO (fun _ _ c => c))
    clear hO
    go_wp2
    exact bodyPost_ret (v := .tuple #[.slice none 0 0, .int .i64 2]) (by simp [results, Tryd.results35, go_sem]) rfl ⟨_, rfl, ⟨none, 0, rfl, Nat.zero_le _, fun h => by simp at h⟩, HPu.out, Off.mono (S := fun _ => False) HOu.out (fun _ _ c => c.elim)⟩
  · rw [if_neg hneg] at FL
    by_cases hfew : (q : Int) < n
    · rw [elemsV_few (by omega) (by rw [← hN, ← hq]; exact hfew)]
      rw [if_pos hfew] at FL
      clear hF hl hN hq hn
      go_enter Tryd.func35, Tryd.ntmps35
      go_wp2_with fail
      rw [← HW0.out]
      refine FL.out.mono ?_
      rintro e u ⟨rfl, hO⟩
      have HPu := Lib.hid (HP0.out.keep hO)
      have HOu := Lib.hid (HO0.out.trans hO (fun _ _ c => c))
      clear hO
      go_wp2
      exact bodyPost_ret (v := .tuple #[.slice none 0 0, .int .i64 7]) (by simp [results, Tryd.results35, go_sem]) rfl ⟨_, rfl, ⟨none, 0, rfl, Nat.zero_le _, fun h => by simp at h⟩, HPu.out, Off.mono (S := fun _ => False) HOu.out (fun _ _ c => c.elim)⟩
    · rw [if_neg hfew] at FL
      obtain ⟨k, rfl⟩ : ∃ k : Nat, n = (k : Int) := Int.eq_ofNat_of_zero_le (by omega)
      rw [elemsV_ok (by omega)]
      have HKl := Lib.hid (show 64 * k ≤ bs.length ∧ bs.length ≤ 12000 by omega)
      have hk2 : k ≤ 200 := by omega
      have hmk := run_make_el k (by omega)
      have hmf : ∀ (fn : Fn) (first cap : Array Value) (W : World), (Instr.makeFunc fn first cap).run Tryd.prog W = .ok (.func fn first cap) W := fun _ _ _ _ => rfl
      have HF := Lib.hid hF
      clear hF hl hN hq hn hneg hfew
      go_enter Tryd.func35, Tryd.ntmps35
      go_wp2_with fail
      rw [← HW0.out]
      refine FL.out.mono ?_
      rintro e u1 ⟨rfl, hO1⟩
      have HP1 := Lib.hid (HP0.out.keep hO1)
      have HG1 := Lib.hid (hO1.heap HG0.out (fun c => c))
      have HO1 := Lib.hid (HO0.out.trans hO1 (fun _ _ c => c))
      have HB1 := Lib.hid (show w.heap.size < u1.heap.size ∧ b < u1.heap.size from ⟨heap_lt (hO1.heap HG0.out (fun c => c)), (HP0.out.keep hO1).lt b (HP0.out.keep hO1).mem⟩)
      clear hO1 FL
      go_wp2_with fail
      obtain ⟨W2, hW2⟩ : ∃ W2, W2 = u1.alloc (.cells (flat4 (List.replicate k 0)).toArray 66) := ⟨_, rfl⟩
      have hA2 : Off (fun _ => False) u1 W2 := by rw [hW2]; exact (Off.refl _ u1).alloc _
      have gA : NumsAt W2 u1.heap.size 66 (List.replicate k 0) := by rw [hW2]; exact heap_new' rfl _
      obtain ⟨arr, harr⟩ : ∃ arr, arr = u1.heap.size := ⟨_, rfl⟩
      rw [← hW2, ← harr]
      rw [← harr] at gA
      have HP2 := Lib.hid (HP1.out.keep hA2)
      have HG2 := Lib.hid (hA2.heap HG1.out (fun c => c))
      have HO2 := Lib.hid ((HO1.out.trans hA2 (fun _ _ c => c)).mono (S' := fun j => j = b) (fun _ _ c => c.elim))
      have HAr := Lib.hid (show w.heap.size < arr ∧ b < w.heap.size ∧ b ≠ arr from ⟨by have := HB1.out; omega, HBw.out, by have := HB1.out; omega⟩)
      have HA2 := Lib.hid gA
      clear hW2 hA2 gA harr hmk HP1 HG1 HO1 HP0
      go_loopw [23] (fun i2 wr => ∃ (m : Nat) (L : List Nat), m ≤ k ∧ i2 = .int .i64 (m : Int) ∧ L.length = k ∧ L.take m = (elsK bs m).map (fm p) ∧ NumsAt wr arr 66 L ∧ SrcP wr b (bs.drop (64 * m)) S ∧ wr.heap[w.heap.size]? = some (.cells #[.int .i64 id, .int .u64 (wd p 0 : Int), .int .u64 (wd p 1 : Int), .int .u64 (wd p 2 : Int), .int .u64 (wd p 3 : Int), .int .u64 (i : Int), .int .u64 (wd r 0 : Int), .int .u64 (wd r 1 : Int), .int .u64 (wd r 2 : Int), .int .u64 (wd r 3 : Int), .int .u64 (wd s 0 : Int), .int .u64 (wd s 1 : Int), .int .u64 (wd s 2 : Int), .int .u64 (wd s 3 : Int)] 73) ∧ Off (fun j => j = b) w wr) (fun i2 _ => k - (intOf i2).toNat)
      case atStart => exact ⟨0, List.replicate k 0, Nat.zero_le _, rfl, List.length_replicate, rfl, HA2.out, HP2.out, HG2.out, HO2.out⟩
      case round =>
        clear HA2 HP2 HG2 HO2
        obtain ⟨m, L, hm, rfl, hL, hT, hA, hP, hG, hO⟩ := hrel
        by_cases hlt : m < k
        · have FE := Lib.hid (elem_any HF.out b (bs.drop (64 * m)) S _ hP (by rw [List.length_drop]; have := HKl.out; omega))
          have h64 : 64 ≤ (bs.drop (64 * m)).length := by rw [List.length_drop]; have := HKl.out; omega
          rw [show elemV (bs.drop (64 * m)) = (elB bs m, 0, bs.drop (64 * (m + 1))) by unfold elemV; rw [if_pos h64, List.drop_drop, show 64 * m + 64 = 64 * (m + 1) by omega]; unfold elB; rw [List.drop_drop, show 64 * m + 64 * 0 = 64 * m by omega]] at FE
          obtain ⟨z, hz⟩ : ∃ z, z = fm p (elB bs m) := ⟨_, rfl⟩
          dsimp only at FE
          rw [← hz] at FE
          have i1 : (m : Int) < (k : Int) := by omega
          have w2 : IntKind.i64.wrap ((m : Int) + 1) = (m : Int) + 1 := by rw [IntKind.wrap_i64]; omega
          have HLn := Lib.hid (show (L.set m z).length = k ∧ (L.set m z).take (m + 1) = (elsK bs (m + 1)).map (fm p) by
            refine ⟨by rw [List.length_set, hL], ?_⟩
            rw [elsK_succ, List.map_append, ← hT, List.take_add_one, List.take_set_of_le (Nat.le_refl _)]
            simp [hL, hlt, hz])
          have HA := Lib.hid hA
          have HG := Lib.hid hG
          have HO := Lib.hid hO
          have HOj := Lib.hid (show L[m]? = some (L.getD m 0) by rw [List.getD_eq_getElem?_getD, List.getElem?_eq_getElem (by omega)]; rfl)
          have HLl := Lib.hid (show m < L.length by omega)
          obtain ⟨f0, f1, f2, f3, f4, f5, f6, f7, f8, f9, f10, f11, f12, f13⟩ := fv_cells HG.out
          have hltf := heap_lt HG.out
          clear hA hP hG hO hT hL h64 hz
          go_wp2_with fail
          refine FE.out.mono ?_
          rintro e u3 ⟨rfl, hP3, hO3⟩
          have hZ := HA.out.off hO3 (fun e => HAr.out.2.2 e.symm)
          obtain ⟨m0, m1, m2, m3⟩ := NumsAt.cell hZ HOj.out
          have fz := fun j => NumsAt.frozen hZ j
          have lt := heap_lt hZ
          have hst := NumsAt.store hZ HLl.out z
          have hoff := setCells_off arr (words4 z) (m * 4) u3
          have HN3 := Lib.hid hst
          have HG3 := Lib.hid (hoff.heap (hO3.heap HG.out (fun e => by have := HAr.out; omega)) (fun e => by have := HAr.out; omega))
          have HP3 := Lib.hid (hP3.off hoff (fun j _ hj e => by have := HSw.out j hj; have := HAr.out; omega))
          have HO3 := Lib.hid ((HO.out.trans hO3 (fun _ _ e => e)).trans hoff (fun j hj e => by have := HAr.out; omega))
          clear hZ hst hoff hO3 hP3 f0 f1 f2 f3 f4 f5 f6 f7 f8 f9 f10 f11 f12 f13 hltf FE HA HG HO
          go_wp2
          go_roundw
          case rel => exact ⟨m + 1, L.set m z, by omega, by simp, HLn.out.1, HLn.out.2, HN3.out, HP3.out, HG3.out, HO3.out⟩
          case measure => simp [intOf]; omega
        · obtain rfl : m = k := by omega
          have i1 : ¬ (m : Int) < (m : Int) := by omega
          have hfin : L = (elsK bs m).map (fm p) := by rw [← hT, List.take_of_length_le (by omega)]
          have HLs := Lib.hid (show LsAt _ (.slice (some ⟨arr, 0, none⟩) m m) ((elsK bs m).map (fm p)) (fun j => w.heap.size ≤ j) by
            have h1 := Ls.of_all (cap := m) hA (by omega)
            rw [hL] at h1
            rw [← hfin]
            obtain ⟨a', c', hv, hlen, hat⟩ := h1
            refine ⟨a', c', hv, hlen, fun hp => ?_⟩
            obtain ⟨b', o', ha, _, hc⟩ := hat hp
            refine ⟨b', o', ha, ?_, hc⟩
            rw [ha] at hv
            simp at hv
            have := HAr.out
            omega)
          have HP3 := Lib.hid hP
          have HO3 := Lib.hid hO
          clear hA hP hG hO hT hL hfin
          go_wp2
          exact bodyPost_ret (v := .tuple #[.slice (some ⟨arr, 0, none⟩) m m, .int .i64 0]) (by simp [results, Tryd.results35, go_sem]) rfl ⟨_, rfl, HLs.out, HP3.out, HO3.out⟩
end
end Go.Proofs.YtclehgconbdkpaaDoor
