/-
  The reference of layer 16 over this seat's translation: Payload, Evaluate, Polynomials, Deal. Conditions: the lists lie in memory and are short, the numbers are less than the modulus.
  The reference's Same of layer 16 over this seat's translation: two lists of the same shares. Condition: the shares lie in memory.
  The reference's Events of layer 16 over this seat's translation. Conditions: the parameters are correct, the events are at most 100000.
  The statements' own same of layer 16 over this seat's translation: lists of elements that are the forms of lists of values. Conditions: the lists are short, the values are numbers of four words.
  The reference's Polynomials of layer 16 over this seat's translation. Conditions: the parameters are ints, the secret and the random bytes lie in memory and are short.
  The reference's Deal of layer 16 over this seat's translation. Conditions: as those of Polynomials.
-/
import Derived.Test.YtclehgconbdkpaaDoorDealPlain
import Derived.Test.YtclehgconbdkpaaDoorParGrp
import Derived.Test.YtclehgconbdkpaaDoorShrRow
import Derived.Test.YtclehgconbdkpaaDoorSrcGrp
import Derived.Test.YtclehgconbdkpaaDoorChkGrp
import Derived.Test.YtclehgconbdkpaaDoorDealB
import Derived.Test.YtclehgconbdkpaaDoorQOff
import Derived.Test.YtclehgconbdkpaaDoorInvClo
import Derived.Test.YtclehgconbdkpaaDoorPolRefer
import Derived.Test.YtclehgconbdkpaaDoorFieldGrp
import Derived.Deep.QuietTactic
import Derived.BigQuiet
import Derived.Test.YtclehgconbdkpaaDoorPolVals
import Derived.Lib.AppendZeros
import Derived.Test.YtclehgconbdkpaaDoorMontAll
namespace Go.Proofs.YtclehgconbdkpaaDoor
section
open Go.RowKit
attribute [local go_sem ↓] Go.wp_at_zero Go.wp_at_succ
set_option maxRecDepth 100000
set_option maxHeartbeats 4000000
theorem own_base5 {w : World} {B B' size n : Nat} {T : TypeId} {v : Value} {xs : List Value} (h : w.ownsRow B T size v n xs) (hb : B' ≤ B) : w.ownsRow B' T size v n xs :=
  ⟨h.1, h.2.imp id (fun ⟨g, cap, cur, e, hB, r⟩ => ⟨g, cap, cur, e, Nat.le_trans hb hB, r⟩)⟩
theorem point_any (m : Nat) (hm : m < 256) (w : World) :
    Calls Tryd.prog 76 #[.int .i64 (m : Int)] w fun e w' => e = .returned (V m) ∧ Off (fun _ => False) w w' := by
  have hwm : IntKind.u64.wrap (m : Int) = (m : Int) := by rw [IntKind.wrap_u64]; omega
  have hs := lit_small m (by omega)
  go_enter Tryd.func76, Tryd.ntmps76
  go_wp2
  rw [hs]
  refine bodyPost_ret (v := .agg #[.int .u64 (m : Int), .int .u64 0, .int .u64 0, .int .u64 0]) (by simp [results, Tryd.results76, go_sem]) rfl ⟨rfl, ?_⟩
  exact (Off.refl _ w).alloc _
theorem refpay_any (p : Nat) (hp : p < R256) (h1p : 1 < p) (cs : List (List Nat)) (hcs : ∀ c ∈ cs, ∀ x ∈ c, x < p) (i : Nat) (hi : i < 256) (hip : i < p) (v : Value) (w : World) (hL : LLs w v cs) :
    Calls Tryd.prog 47 #[V p, v, .int .i64 (i : Int)] w fun e w' => ∃ a2 c2, e = .returned (.slice a2 cs.length c2) ∧ w'.ownsRow w.heap.size 66 4 (.slice a2 cs.length c2) cs.length (flat4 (payN p cs i)) ∧ Off (fun _ => False) w w' := by
  obtain ⟨j0, hj, hj0, hj1, hj2⟩ := info_parts elem_info
  have hz := hL
  obtain ⟨a, cap, rfl, hm1, _⟩ := hz
  obtain ⟨m, hm⟩ : ∃ m, m = cs.length := ⟨_, rfl⟩
  rw [← hm] at hL hm1 ⊢
  obtain ⟨w0, hw0⟩ : ∃ w0, w0 = w.alloc (.cells #[.int .u64 (wd p 0 : Int), .int .u64 (wd p 1 : Int), .int .u64 (wd p 2 : Int), .int .u64 (wd p 3 : Int)] 51) := ⟨_, rfl⟩
  have hO0 : Off (fun _ => False) w w0 := by rw [hw0]; exact (Off.refl _ w).alloc _
  have g0 : w0.heap[w.heap.size]? = some (.cells #[.int .u64 (wd p 0 : Int), .int .u64 (wd p 1 : Int), .int .u64 (wd p 2 : Int), .int .u64 (wd p 3 : Int)] 51 (0, 0)) := by rw [hw0]; exact heap_new' rfl _
  have HL := Lib.hid hL
  have HO0 := Lib.hid hO0
  have HG0 := Lib.hid g0
  have HM := Lib.hid hm
  have HCS := Lib.hid hcs
  have HW0 := Lib.hid hw0
  have FP := Lib.hid (fun W => point_any i hi W)
  clear hL hO0 g0 hm hcs hw0
  go_enter Tryd.func47, Tryd.ntmps47
  go_wp2
  rw [← HW0.out]
  go_loopw [7, 8] (fun u j wr => ∃ k : Nat, k ≤ m ∧ j = .int .i64 (k : Int) ∧ (∃ a c2, u = .slice a k c2 ∧ wr.ownsRow (w.heap.size + 1) 66 4 u k (flat4 (payN p (cs.take k) i))) ∧ wr.heap[w.heap.size]? = some (.cells #[.int .u64 (wd p 0 : Int), .int .u64 (wd p 1 : Int), .int .u64 (wd p 2 : Int), .int .u64 (wd p 3 : Int)] 51 (0, 0)) ∧ Off (fun _ => False) w wr) (fun _ j _ => m - (intOf j).toNat)
  case atStart => exact ⟨0, Nat.zero_le _, rfl, ⟨none, 0, rfl, World.ownsRow_nil _ _ _ _⟩, HG0.out, HO0.out⟩
  case round =>
    obtain ⟨k, hk, rfl, ⟨va, vc, rfl, hov⟩, hg, hO⟩ := hrel
    obtain ⟨wq, hwq⟩ : ∃ wq, wq = wr := ⟨_, rfl⟩
    subst hwq
    by_cases hlt : k < m
    · obtain ⟨c, hc⟩ : ∃ c, cs[k]? = some c := ⟨_, List.getElem?_eq_getElem (by rw [← HM.out]; exact hlt)⟩
      have hcp := HCS.out c (List.mem_of_getElem? hc)
      obtain ⟨b, off, a1, c1, rfl, _, u0, hl1⟩ := (LLsAt.get (HL.out.off hO) hc)
      obtain ⟨n1, hn1⟩ : ∃ n1, n1 = c.length := ⟨_, rfl⟩
      obtain ⟨v, hv⟩ : ∃ v, v = pv c i % p := ⟨_, rfl⟩
      have FE := Lib.hid (fun W (h : Off (fun _ => False) wq W) => refeval_any hp h1p c hcp i hip (.slice a1 c.length c1) W ((Ls.of hl1).off h))
      rw [← hn1] at u0
      rw [← hn1, ← hv] at FE
      have hvR : v < R256 := by rw [hv]; exact Nat.lt_trans (Nat.mod_lt _ (by omega)) hp
      obtain ⟨z, hz⟩ : ∃ z, z = fm p v := ⟨_, rfl⟩
      have FF := Lib.hid (fun W => form_any p v hp h1p hvR W)
      rw [← hz] at FF
      have HFl := Lib.hid (show flat4 (payN p (cs.take k) i) ++ words4 z = flat4 (payN p (cs.take (k + 1)) i) by
        rw [List.take_add_one, hc]
        unfold payN
        rw [List.map_append, flat4_append, hz, hv]
        rfl)
      have HK : Hid (∀ W, Off (fun _ => False) wq W → (W.cell? ⟨w.heap.size, 0, none⟩ = some (.int .u64 (wd p 0 : Int)) ∧ W.cell? ⟨w.heap.size, 1, none⟩ = some (.int .u64 (wd p 1 : Int)) ∧ W.cell? ⟨w.heap.size, 2, none⟩ = some (.int .u64 (wd p 2 : Int)) ∧ W.cell? ⟨w.heap.size, 3, none⟩ = some (.int .u64 (wd p 3 : Int))) ∧ W.cell? ⟨b, off + k, none⟩ = some (.slice a1 n1 c1) ∧ Off (fun _ => False) wq W) :=
        Lib.hid (fun W h => ⟨cells4 (h.heap hg (fun c => c)), h.cell u0 (fun c => c), h⟩)
      have HKb := Lib.hid (show k + 1 ≤ 1000 ∧ k < m from ⟨by omega, hlt⟩)
      have HO := Lib.hid hO
      have HG := Lib.hid hg
      have HOv := Lib.hid hov
      have hkm : (k : Int) < (m : Int) := by omega
      have hHp := hp
      clear hc hcp u0 hl1 hn1 hv hz hO hov hk hg
      go_upto_region 5 with fail
      refine wp_region_inv (fun a0 l a' w' => ∃ (u16 : Value) (u17 : Value) (u18 : Value) (u19 : Value) (u20 : Value) (u21 : Value) (u22 : Value) (u23 : Value) (u9 : Value) (b9 : Nat), a' = (Act.put (Act.put (Act.put (Act.put (Act.put (Act.put (Act.put (Act.put (Act.put a0 (some 16) u16) (some 17) u17) (some 18) u18) (some 19) u19) (some 20) u20) (some 21) u21) (some 22) u22) (some 23) u23) (some 9) u9) ∧ Slot l 0 u16 (V p) ∧ Slot l 1 u17 (.slice (some ⟨b, off, none⟩) m cap) ∧ Slot l 2 u18 (.int .i64 (k : Int)) ∧ Slot l 3 u19 (.pointer (some ⟨b, off + k, none⟩)) ∧ Slot l 4 u20 (.slice a1 n1 c1) ∧ Slot l 5 u21 (.int .i64 (i : Int)) ∧ Slot l 6 u22 (V i) ∧ Slot l 7 u23 (V v) ∧ Blk l 8 9 u9 b9 wq w' (.cells #[.int .u64 0, .int .u64 0, .int .u64 0, .int .u64 0] 51) (.cells #[.int .u64 (wd v 0 : Int), .int .u64 (wd v 1 : Int), .int .u64 (wd v 2 : Int), .int .u64 (wd v 3 : Int)] 51) ∧ Off (fun _ => False) wq w') (by kernel_rfl) (by kernel_rfl) ?_ ⟨?_, ?_, ?_, ?_, ?_, ?_, ?_, ?_, ?_, ?_, trivial⟩ ?_
      · refine ⟨?z16, ?z17, ?z18, ?z19, ?z20, ?z21, ?z22, ?z23, ?z9, 0, ?fr, Slot.start _ _ _, Slot.start _ _ _, Slot.start _ _ _, Slot.start _ _ _, Slot.start _ _ _, Slot.start _ _ _, Slot.start _ _ _, Slot.start _ _ _, Blk.start _ _ _ _ _ _ _ _, (Off.refl _ wq).drew⟩
        case fr => first | (simp only [Act.put, List.setIfInBounds_toArray, List.set_cons_zero, List.set_cons_succ]; rfl) | simp only [Act.put, List.setIfInBounds_toArray, List.set_cons_zero, List.set_cons_succ]
      · intro l a wr hI hl hd K' hK
        obtain ⟨u16, u17, u18, u19, u20, u21, u22, u23, u9, b9, ha, s0, s1, s2, s3, s4, s5, s6, s7, B8, hO⟩ := hI
        simp only [Act.put, List.setIfInBounds_toArray, List.set_cons_zero, List.set_cons_succ] at ha
        subst ha
        have hc := HK.out wr hO
        have p0 := hc.1.1
        have p1 := hc.1.2.1
        have p2 := hc.1.2.2.1
        have p3 := hc.1.2.2.2
        clear hc
        go_simp
        refine hK.out _ _ ⟨_, _, _, _, _, _, _, _, _, _, ?_, Slot.new _ _ _, s1.keep rfl, s2.keep rfl, s3.keep rfl, s4.keep rfl, s5.keep rfl, s6.keep rfl, s7.keep rfl, B8.keep (Off.refl _ wr) rfl rfl, hO⟩
        simp only [Act.put, List.setIfInBounds_toArray, List.set_cons_zero, List.set_cons_succ]
      · intro l a wr hI hl hd K' hK
        obtain ⟨u16, u17, u18, u19, u20, u21, u22, u23, u9, b9, ha, s0, s1, s2, s3, s4, s5, s6, s7, B8, hO⟩ := hI
        simp only [Act.put, List.setIfInBounds_toArray, List.set_cons_zero, List.set_cons_succ] at ha
        subst ha
        go_simp
        refine hK.out _ _ ⟨_, _, _, _, _, _, _, _, _, _, ?_, s0.keep rfl, Slot.new _ _ _, s2.keep rfl, s3.keep rfl, s4.keep rfl, s5.keep rfl, s6.keep rfl, s7.keep rfl, B8.keep (Off.refl _ wr) rfl rfl, hO⟩
        simp only [Act.put, List.setIfInBounds_toArray, List.set_cons_zero, List.set_cons_succ]
      · intro l a wr hI hl hd K' hK
        obtain ⟨u16, u17, u18, u19, u20, u21, u22, u23, u9, b9, ha, s0, s1, s2, s3, s4, s5, s6, s7, B8, hO⟩ := hI
        simp only [Act.put, List.setIfInBounds_toArray, List.set_cons_zero, List.set_cons_succ] at ha
        subst ha
        go_simp
        refine hK.out _ _ ⟨_, _, _, _, _, _, _, _, _, _, ?_, s0.keep rfl, s1.keep rfl, Slot.new _ _ _, s3.keep rfl, s4.keep rfl, s5.keep rfl, s6.keep rfl, s7.keep rfl, B8.keep (Off.refl _ wr) rfl rfl, hO⟩
        simp only [Act.put, List.setIfInBounds_toArray, List.set_cons_zero, List.set_cons_succ]
      · intro l a wr hI hl hd K' hK
        obtain ⟨u16, u17, u18, u19, u20, u21, u22, u23, u9, b9, ha, s0, s1, s2, s3, s4, s5, s6, s7, B8, hO⟩ := hI
        simp only [Act.put, List.setIfInBounds_toArray, List.set_cons_zero, List.set_cons_succ] at ha
        have q1 := s1 (hd 1 (by decide))
        have q2 := s2 (hd 2 (by decide))
        subst ha q1 q2
        go_simp
        refine hK.out _ _ ⟨_, _, _, _, _, _, _, _, _, _, ?_, s0.keep rfl, s1.keep rfl, s2.keep rfl, Slot.new _ _ _, s4.keep rfl, s5.keep rfl, s6.keep rfl, s7.keep rfl, B8.keep (Off.refl _ wr) rfl rfl, hO⟩
        simp only [Act.put, List.setIfInBounds_toArray, List.set_cons_zero, List.set_cons_succ]
      · intro l a wr hI hl hd K' hK
        obtain ⟨u16, u17, u18, u19, u20, u21, u22, u23, u9, b9, ha, s0, s1, s2, s3, s4, s5, s6, s7, B8, hO⟩ := hI
        simp only [Act.put, List.setIfInBounds_toArray, List.set_cons_zero, List.set_cons_succ] at ha
        have q3 := s3 (hd 3 (by decide))
        subst ha q3
        have hc := HK.out wr hO
        have p0 := hc.2.1
        clear hc
        go_simp
        refine hK.out _ _ ⟨_, _, _, _, _, _, _, _, _, _, ?_, s0.keep rfl, s1.keep rfl, s2.keep rfl, s3.keep rfl, Slot.new _ _ _, s5.keep rfl, s6.keep rfl, s7.keep rfl, B8.keep (Off.refl _ wr) rfl rfl, hO⟩
        simp only [Act.put, List.setIfInBounds_toArray, List.set_cons_zero, List.set_cons_succ]
      · intro l a wr hI hl hd K' hK
        obtain ⟨u16, u17, u18, u19, u20, u21, u22, u23, u9, b9, ha, s0, s1, s2, s3, s4, s5, s6, s7, B8, hO⟩ := hI
        simp only [Act.put, List.setIfInBounds_toArray, List.set_cons_zero, List.set_cons_succ] at ha
        subst ha
        go_simp
        refine hK.out _ _ ⟨_, _, _, _, _, _, _, _, _, _, ?_, s0.keep rfl, s1.keep rfl, s2.keep rfl, s3.keep rfl, s4.keep rfl, Slot.new _ _ _, s6.keep rfl, s7.keep rfl, B8.keep (Off.refl _ wr) rfl rfl, hO⟩
        simp only [Act.put, List.setIfInBounds_toArray, List.set_cons_zero, List.set_cons_succ]
      · intro l a wr hI hl hd K' hK
        obtain ⟨u16, u17, u18, u19, u20, u21, u22, u23, u9, b9, ha, s0, s1, s2, s3, s4, s5, s6, s7, B8, hO⟩ := hI
        simp only [Act.put, List.setIfInBounds_toArray, List.set_cons_zero, List.set_cons_succ] at ha
        have q5 := s5 (hd 5 (by decide))
        subst ha q5
        go_simp
        refine (held_inv (FP.out wr) hO).mono ?_
        rintro e w1 ⟨rfl, hO1, hOW⟩
        go_wp2_with fail
        refine hK.out _ _ ⟨_, _, _, _, _, _, _, _, _, _, ?_, s0.keep rfl, s1.keep rfl, s2.keep rfl, s3.keep rfl, s4.keep rfl, s5.keep rfl, Slot.new _ _ _, s7.keep rfl, B8.keep hOW rfl rfl, hO1⟩
        simp only [Act.put, List.setIfInBounds_toArray, List.set_cons_zero, List.set_cons_succ]
      · intro l a wr hI hl hd K' hK
        obtain ⟨u16, u17, u18, u19, u20, u21, u22, u23, u9, b9, ha, s0, s1, s2, s3, s4, s5, s6, s7, B8, hO⟩ := hI
        simp only [Act.put, List.setIfInBounds_toArray, List.set_cons_zero, List.set_cons_succ] at ha
        have q0 := s0 (hd 0 (by decide))
        have q4 := s4 (hd 4 (by decide))
        have q6 := s6 (hd 6 (by decide))
        subst ha q0 q4 q6
        go_simp
        refine (held_inv (FE.out wr hO) hO).mono ?_
        rintro e w1 ⟨rfl, hO1, hOW⟩
        go_wp2_with fail
        refine hK.out _ _ ⟨_, _, _, _, _, _, _, _, _, _, ?_, s0.keep rfl, s1.keep rfl, s2.keep rfl, s3.keep rfl, s4.keep rfl, s5.keep rfl, s6.keep rfl, Slot.new _ _ _, B8.keep hOW rfl rfl, hO1⟩
        simp only [Act.put, List.setIfInBounds_toArray, List.set_cons_zero, List.set_cons_succ]
      · intro l a wr hI hl hd K' hK
        obtain ⟨u16, u17, u18, u19, u20, u21, u22, u23, u9, b9, ha, s0, s1, s2, s3, s4, s5, s6, s7, B8, hO⟩ := hI
        simp only [Act.put, List.setIfInBounds_toArray, List.set_cons_zero, List.set_cons_succ] at ha
        subst ha
        go_simp
        refine hK.out _ _ ⟨_, _, _, _, _, _, _, _, _, _, ?_, s0.keep rfl, s1.keep rfl, s2.keep rfl, s3.keep rfl, s4.keep rfl, s5.keep rfl, s6.keep rfl, s7.keep rfl, B8.make hl rfl hO, hO.alloc _⟩
        simp only [Act.put, List.setIfInBounds_toArray, List.set_cons_zero, List.set_cons_succ]
      · intro l a wr hI hl hd K' hK
        obtain ⟨u16, u17, u18, u19, u20, u21, u22, u23, u9, b9, ha, s0, s1, s2, s3, s4, s5, s6, s7, B8, hO⟩ := hI
        simp only [Act.put, List.setIfInBounds_toArray, List.set_cons_zero, List.set_cons_succ] at ha
        have h8 := hd 8 (by decide)
        have q8 := B8.ptr h8
        have q7 := s7 (hd 7 (by decide))
        subst ha q8 q7
        obtain ⟨⟨m0, m1, m2, m3⟩, fz, lt⟩ := zero_cells (B8.was h8 hl)
        go_simp
        refine hK.out _ _ ⟨_, _, _, _, _, _, _, _, _, _, ?_, s0.keep rfl, s1.keep rfl, s2.keep rfl, s3.keep rfl, s4.keep rfl, s5.keep rfl, s6.keep rfl, s7.keep rfl, B8.put hl h8 rfl rfl, setCells_in hO (fun c => absurd c (Nat.not_lt.2 (B8.new h8))) [.int .u64 (wd v 0 : Int), .int .u64 (wd v 1 : Int), .int .u64 (wd v 2 : Int), .int .u64 (wd v 3 : Int)]⟩
        simp only [Act.put, List.setIfInBounds_toArray, List.set_cons_zero, List.set_cons_succ]
      · intro l a wc hI hd
        obtain ⟨u16, u17, u18, u19, u20, u21, u22, u23, u9, b9, ha, s0, s1, s2, s3, s4, s5, s6, s7, B8, hO⟩ := hI
        simp only [Act.put, List.setIfInBounds_toArray, List.set_cons_zero, List.set_cons_succ] at ha
        have q0 := s0 (hd 0 (by decide))
        have q1 := s1 (hd 1 (by decide))
        have q2 := s2 (hd 2 (by decide))
        have q3 := s3 (hd 3 (by decide))
        have q4 := s4 (hd 4 (by decide))
        have q5 := s5 (hd 5 (by decide))
        have q6 := s6 (hd 6 (by decide))
        have q7 := s7 (hd 7 (by decide))
        have q8 := B8.ptr (hd 8 (by decide))
        have n9 : wc.heap[b9]? = some (.cells #[.int .u64 (wd v 0 : Int), .int .u64 (wd v 1 : Int), .int .u64 (wd v 2 : Int), .int .u64 (wd v 3 : Int)] 51) := B8.now (hd 8 (by decide)) (hd 9 (by decide))
        have v9 := B8.new (hd 8 (by decide))
        subst ha q0 q1 q2 q3 q4 q5 q6 q7 q8
        clear hd s0 s1 s2 s3 s4 s5 s6 s7 B8
        have HO1 := Lib.hid hO
        clear hO
        obtain ⟨W1, hW1⟩ : ∃ W1, W1 = wc := ⟨_, rfl⟩
        rw [← hW1]
        rw [← hW1] at n9 HO1
        clear hW1
        obtain ⟨q0, q1, q2, q3⟩ := cells4 n9
        obtain ⟨p0, p1, p2, p3⟩ := (HK.out _ HO1.out).1
        have lb := heap_lt n9
        have lp := World.block_lt_of_cell? W1 _ p0
        clear n9
        go_wp2_with fail
        refine (FF.out _).mono ?_
        rintro e u2 ⟨rfl, hO⟩
        have HO2 := Lib.hid (HO.out.trans (HO1.out.trans hO (fun _ _ c => c)) (fun _ _ c => c))
        have HOv2 := Lib.hid (own_off HOv.out (HO1.out.trans hO (fun _ _ c => c)))
        have HO21 := Lib.hid (HO1.out.trans hO (fun _ _ c => c))
        clear hO q0 q1 q2 q3 p0 p1 p2 p3 lb lp
        go_wp2_with (at_builtin; refine wpList_append_own _ rfl _ _ 47 rfl (w.heap.size + 1) 66 j0 _ 4 32 Tryd.underlying47 hj hj0 hj1 hj2 rfl (by decide) _ k _ rfl (HOv2.out.alloc _) ⟨u2.heap.size, 0, none⟩ 1 1 (words4 z) rfl rfl ?q1 (words4_one _) ?q2 ?q3 ?q4 ?_)
        case q1 => exact words4_at (heap_new' rfl _)
        case q2 => have := HKb.out; unfold maxLen; omega
        case q3 => have := HKb.out; omega
        case q4 => have := Nat.lt_of_lt_of_le (heap_lt HG.out) HO21.out.size; simp; omega
        intro v' w1 hown' hgrow hnil
        obtain ⟨g6, c6, rfl⟩ := ownsRow_succ hown'
        have hO3 : Off (fun _ => False) w w1 := grown_off (HO2.out.alloc _) (Nat.le_succ _) (HOv2.out.alloc _) hgrow
        rw [HFl.out] at hown'
        have w2 : IntKind.i64.wrap ((k : Int) + 1) = (k : Int) + 1 := by rw [IntKind.wrap_i64]; have := HKb.out; omega
        have HG4 := Lib.hid (show w1.heap[w.heap.size]? = some (.cells #[.int .u64 (wd p 0 : Int), .int .u64 (wd p 1 : Int), .int .u64 (wd p 2 : Int), .int .u64 (wd p 3 : Int)] 51 (0, 0)) from (hgrow.block w.heap.size (heap_lt (heap_old' (HO21.out.heap HG.out (fun c => c)) _)) (fun e => by have := (World.ownsRow.lt HOv2.out _ e.symm).1; omega)).trans (heap_old' (HO21.out.heap HG.out (fun c => c)) _))
        have HO4 := Lib.hid hO3
        clear hO3
        go_wp2
        go_roundw
        case rel => exact ⟨k + 1, by have := HKb.out; omega, by simp, ⟨_, _, rfl, hown'⟩, HG4.out, HO4.out⟩
        case measure => simp [intOf]; have := HKb.out; omega
    · obtain rfl : m = k := by omega
      have i1 : ¬ (m : Int) < (m : Int) := by omega
      rw [List.take_of_length_le (by rw [← HM.out]; exact Nat.le_refl _)] at hov
      have HOv := Lib.hid hov
      have HO := Lib.hid hO
      clear hov hO hg
      go_wp2
      exact bodyPost_ret (v := .slice va m vc) (by simp [results, Tryd.results47, go_sem]) rfl ⟨_, _, rfl, own_base5 HOv.out (Nat.le_succ _), HO.out⟩
/-- The payload of a share is a row of the call's own. -/
def PayRow (B : Nat) (W : World) (x : ShV) : Prop := W.ownsRow B 66 4 (.slice x.pa x.sh.pl.length x.pc) x.sh.pl.length (flat4 x.sh.pl)
/-- The first k shares lie in a row of the call's own, their payloads too. -/
def EvL (q : Pms) (p : Nat) (cs : List (List Nat)) (k B : Nat) (W : World) (v : Value) : Prop := ∃ L : List ShV, RowS B W v L ∧ L.map ShV.sh = (List.range k).map (fun j => shrN q p cs (j + 1)) ∧ ∀ x ∈ L, PayRow B W x
theorem EvL.shape {q : Pms} {p k B : Nat} {cs : List (List Nat)} {W : World} {v : Value} (h : EvL q p cs k B W v) : ∃ a c, v = .slice a k c := by
  obtain ⟨L, hr, hL, _⟩ := h
  have hlen : L.length = k := by have := congrArg List.length hL; simpa using this
  obtain ⟨a, c, rfl, _⟩ := hr.svs
  exact ⟨a, c, by rw [hlen]⟩
theorem EvL.base {q : Pms} {p k B B' : Nat} {cs : List (List Nat)} {W : World} {v : Value} (h : EvL q p cs k B W v) (hb : B' ≤ B) : EvL q p cs k B' W v := by
  obtain ⟨L, hr, hL, hp⟩ := h
  exact ⟨L, hr.base hb, hL, fun x hx => own_base5 (hp x hx) hb⟩
theorem EvL.off {q : Pms} {p k B : Nat} {cs : List (List Nat)} {W W' : World} {v : Value} (h : EvL q p cs k B W v) (ho : Off (fun _ => False) W W') : EvL q p cs k B W' v := by
  obtain ⟨L, hr, hL, hp⟩ := h
  exact ⟨L, hr.off ho, hL, fun x hx => own_off (hp x hx) ho⟩
/-- One share put behind a row of shares of the call's own. -/
theorem app_sh1 {B bz : Nat} {W : World} {v : Value} {L : List ShV} {x : ShV} (h1 : RowS B W v L) (hB : B ≤ W.heap.size) (hb : W.heap[bz]? = some (.cells #[.int .i64 x.sh.fd, .int .i64 x.sh.th, .int .i64 x.sh.ix, .int .i64 x.sh.ln, .slice x.pa x.sh.pl.length x.pc] 69 (0, 0))) (hk : L.length + 1 ≤ 100000) :
    ∃ v' w', (Builtin.append_ #[38, 38] 38 #[v, .slice (some ⟨bz, 0, none⟩) 1 1]).run Tryd.prog W = .ok v' w' ∧ RowS B w' v' (L ++ [x]) ∧ W.grownBy w' v.ownBlock := by
  obtain ⟨i0, hi, hz0, hz1, hz2⟩ := info_parts share_info
  obtain ⟨v', w', hr, ho, hg, _, hb⟩ := run_append_own_at (P := Tryd.prog) W B 38 38 69 i0 _ 5 56 Tryd.underlying38 hi hz0 hz1 hz2 rfl (by decide) v L.length _ h1 ⟨bz, 0, none⟩ 1 1 (flat5 [x]) rfl (fun j u hj => by
    rw [Addr.add_lit, Nat.zero_add]
    rw [cell_of_heap hb]
    match j, hj with
    | 0, hj => simpa [flat5, ShV.cells] using hj
    | 1, hj => simpa [flat5, ShV.cells] using hj
    | 2, hj => simpa [flat5, ShV.cells] using hj
    | 3, hj => simpa [flat5, ShV.cells] using hj
    | 4, hj => simpa [flat5, ShV.cells] using hj
    | n + 5, hj => simp [flat5, ShV.cells] at hj) (flat5_one [x]) (by unfold maxLen; omega) (by omega) hB
  refine ⟨v', w', hr, ?_, hg⟩
  unfold RowS
  rw [flat5_append, List.length_append]
  exact ho
theorem el_ne_share : 66 ≠ 69 := by decide
theorem eva_step {fd th sh ln : Int} {p k i m : Nat} {cs : List (List Nat)} {va : Option Addr} {vc : Nat} {w wq wr : World} {az : Option Addr} {cz bz : Nat}
    (hE : EvL ⟨fd, th, sh, ln⟩ p cs k (w.heap.size + 1) wq (.slice va k vc)) (hO : Off (fun _ => False) wq wr) (hG : wq.heap[w.heap.size]? = some (.cells #[.int .i64 fd, .int .i64 th, .int .i64 sh, .int .i64 ln] 23 (0, 0))) (hw : Off (fun _ => False) w wq) (hm : m = cs.length) (hik : i = k + 1) (hft : k ≤ 255) (hB : w.heap.size + 1 ≤ wq.heap.size)
    (hp : wr.ownsRow wq.heap.size 66 4 (.slice az m cz) m (flat4 (payN p cs i))) (hb : wr.heap[bz]? = some (.cells #[.int .i64 fd, .int .i64 th, .int .i64 (i : Int), .int .i64 ln, .slice az m cz] 69 (0, 0))) :
    ∃ v' w', (Builtin.append_ #[38, 38] 38 #[.slice va k vc, .slice (some ⟨bz, 0, none⟩) 1 1]).run Tryd.prog wr = .ok v' w' ∧
      EvL ⟨fd, th, sh, ln⟩ p cs (k + 1) (w.heap.size + 1) w' v' ∧ w'.heap[w.heap.size]? = some (.cells #[.int .i64 fd, .int .i64 th, .int .i64 sh, .int .i64 ln] 23 (0, 0)) ∧ Off (fun _ => False) w w' := by
  obtain ⟨L, hr, hL, hpr⟩ := hE
  have hlen : L.length = k := by have := congrArg List.length hL; simpa using this
  have hpl : (payN p cs i).length = m := by simp [payN, hm]
  obtain ⟨v', w', hrun, hr1, hg⟩ := app_sh1 (x := ⟨⟨fd, th, (i : Int), ln, payN p cs i⟩, az, cz⟩) (hr.off hO) (Nat.le_trans hB hO.size) (by dsimp only; rw [hpl]; exact hb) (by omega)
  have hgo : ∀ g, (Value.slice va k vc).ownBlock = some g → w.heap.size + 1 ≤ g := fun g e => (World.ownsRow.lt (hr.off hO) g e).1
  refine ⟨v', w', hrun, ⟨L ++ [⟨⟨fd, th, (i : Int), ln, payN p cs i⟩, az, cz⟩], hr1, ?_, fun x hx => ?_⟩, ?_, ?_⟩
  · rw [List.map_append, hL, List.range_succ, List.map_append, hik]; rfl
  · rcases List.mem_append.1 hx with hx | hx
    · have h := own_off (hpr x hx) hO
      exact h.kept hg (rows_apart h (hr.off hO) el_ne_share)
    · simp at hx
      subst hx
      have h := own_base5 hp hB
      have h2 := h.kept hg (rows_apart h (hr.off hO) el_ne_share)
      unfold PayRow
      dsimp only
      rw [hpl]; exact h2
  · have h1 := hO.heap hG (fun c => c)
    exact (hg.block w.heap.size (heap_lt h1) (fun e => by have := hgo _ e.symm; omega)).trans h1
  · exact (hw.trans hO (fun _ _ c => c)).grown hg (fun g e => ⟨fun h => by have := hgo g e; omega, fun o ho => by
      rcases (hr.off hO).2 with ⟨e2, _⟩ | ⟨g2, cap, cur, e2, _, hgc, _⟩
      · rw [e2] at e; simp [Value.ownBlock] at e
      · rw [e2] at e; simp [Value.ownBlock] at e; subst e; rw [hgc] at ho; cases ho; rfl⟩)
theorem refeva_any (q : Pms) (hq : q.ok) (h0 : prN q = 0) (p : Nat) (hpm : p = modN q.fd) (cs : List (List Nat)) (hcs : ∀ c ∈ cs, ∀ x ∈ c, x < p) (v : Value) (w : World) (hL : LLs w v cs) :
    Calls Tryd.prog 22 #[q.val, v] w fun e w' => ∃ v', e = .returned v' ∧ EvL q p cs q.sh.toNat w.heap.size w' v' ∧ Off (fun _ => False) w w' := by
  have hok := prN_ok h0
  have hpos := modN_pos hok.1
  have hbig : 256 < p := by rw [hpm]; rcases hok.1 with h | h <;> rw [h] <;> decide
  rw [← hpm] at hpos
  have FM := Lib.hid (fun W => mod_modulus q.fd W)
  rw [← hpm] at FM
  have hz := hL
  obtain ⟨ca, cc, rfl, hm1, _⟩ := hz
  obtain ⟨m, hm⟩ : ∃ m, m = cs.length := ⟨_, rfl⟩
  rw [← hm] at hL hm1 ⊢
  have hsh : q.sh = (q.sh.toNat : Int) := by omega
  have hs255 : q.sh.toNat ≤ 255 := by omega
  obtain ⟨n, hn⟩ : ∃ n, n = q.sh.toNat := ⟨_, rfl⟩
  rw [← hn] at hsh hs255 ⊢
  obtain ⟨fd, th, sh, ln⟩ := q
  dsimp only at hsh FM
  unfold Pms.val
  dsimp only
  obtain ⟨w0, hw0⟩ : ∃ w0, w0 = w.alloc (.cells #[.int .i64 fd, .int .i64 th, .int .i64 sh, .int .i64 ln] 23) := ⟨_, rfl⟩
  have hO0 : Off (fun _ => False) w w0 := by rw [hw0]; exact (Off.refl _ w).alloc _
  have g0 : w0.heap[w.heap.size]? = some (.cells #[.int .i64 fd, .int .i64 th, .int .i64 sh, .int .i64 ln] 23 (0, 0)) := by rw [hw0]; exact heap_new' rfl _
  have FY0 := Lib.hid (fun (i : Nat) (hi : i < 256) W (h : Off (fun _ => False) w W) => refpay_any p hpos.2 hpos.1 cs hcs i hi (by omega) (.slice ca m cc) W (hL.off h))
  rw [← hm] at FY0
  have HO0 := Lib.hid hO0
  have HG0 := Lib.hid g0
  have HM := Lib.hid hm
  have HW0 := Lib.hid hw0
  have HSH := Lib.hid hsh
  clear hL hO0 g0 hm hcs hw0 hok hq h0 hpm hn hsh hpos hbig
  go_enter Tryd.func22, Tryd.ntmps22
  go_wp2
  rw [← HW0.out]
  go_loopw [5, 6] (fun u j wr => ∃ k : Nat, k ≤ n ∧ j = .int .i64 ((k : Int) + 1) ∧ (∃ a c2, u = .slice a k c2 ∧ EvL ⟨fd, th, sh, ln⟩ p cs k (w.heap.size + 1) wr u) ∧ wr.heap[w.heap.size]? = some (.cells #[.int .i64 fd, .int .i64 th, .int .i64 sh, .int .i64 ln] 23 (0, 0)) ∧ Off (fun _ => False) w wr) (fun _ j _ => n + 1 - (intOf j).toNat)
  case atStart => exact ⟨0, Nat.zero_le _, rfl, ⟨none, 0, rfl, [], World.ownsRow_nil _ _ _ _, rfl, fun _ h => by cases h⟩, HG0.out, HO0.out⟩
  case round =>
    obtain ⟨k, hk, rfl, ⟨va, vc, rfl, hev⟩, hg, hO⟩ := hrel
    obtain ⟨wq, hwq⟩ : ∃ wq, wq = wr := ⟨_, rfl⟩
    subst hwq
    have m2 := cell_of_heap hg 2
    have hlq := heap_lt hg
    by_cases hlt : k < n
    · obtain ⟨i, hi⟩ : ∃ i, i = k + 1 := ⟨_, rfl⟩
      have hii : (k : Int) + 1 = (i : Int) := by omega
      rw [hii]
      have HEv := Lib.hid hev
      have HG := Lib.hid hg
      have HO := Lib.hid hO
      have HIK := Lib.hid hi
      have HFT := Lib.hid (show k ≤ 255 by omega)
      have HKL := Lib.hid (show w.heap.size + 1 ≤ wq.heap.size from hlq)
      have FY := Lib.hid (fun W (h : Off (fun _ => False) wq W) => FY0.out i (by omega) W (hO.trans h (fun _ _ c => c)))
      have hle : decide ((i : Int) ≤ sh) = true := decide_eq_true (by rw [HSH.out]; omega)
      have hle2 : (i : Int) ≤ sh := by rw [HSH.out]; omega
      have w2 : IntKind.i64.wrap ((i : Int) + 1) = (i : Int) + 1 := by rw [IntKind.wrap_i64]; omega
      have HII := Lib.hid hii
      have HKN := Lib.hid (show k < n ∧ n ≤ 255 from ⟨hlt, hs255⟩)
      clear hev hg hO hi hk hlt hii hs255
      go_upto_region 5 with fail
      clear m2 hlq
      obtain ⟨x13, hx⟩ : ∃ vv : Value, vv = .slice va k vc := ⟨_, rfl⟩
      have X13 := Lib.hid hx
      clear hx
      obtain ⟨x14, hx⟩ : ∃ vv : Value, vv = .pointer (some ⟨w.heap.size, 0, none⟩) := ⟨_, rfl⟩
      have X14 := Lib.hid hx
      clear hx
      obtain ⟨x15, hx⟩ : ∃ vv : Value, vv = .int .i64 fd := ⟨_, rfl⟩
      have X15 := Lib.hid hx
      clear hx
      obtain ⟨x16, hx⟩ : ∃ vv : Value, vv = .pointer (some ⟨w.heap.size, 1, none⟩) := ⟨_, rfl⟩
      have X16 := Lib.hid hx
      clear hx
      obtain ⟨x17, hx⟩ : ∃ vv : Value, vv = .int .i64 th := ⟨_, rfl⟩
      have X17 := Lib.hid hx
      clear hx
      obtain ⟨x18, hx⟩ : ∃ vv : Value, vv = .int .i64 (i : Int) := ⟨_, rfl⟩
      have X18 := Lib.hid hx
      clear hx
      obtain ⟨x19, hx⟩ : ∃ vv : Value, vv = .pointer (some ⟨w.heap.size, 3, none⟩) := ⟨_, rfl⟩
      have X19 := Lib.hid hx
      clear hx
      obtain ⟨x20, hx⟩ : ∃ vv : Value, vv = .int .i64 ln := ⟨_, rfl⟩
      have X20 := Lib.hid hx
      clear hx
      obtain ⟨x21, hx⟩ : ∃ vv : Value, vv = .pointer (some ⟨w.heap.size, 0, none⟩) := ⟨_, rfl⟩
      have X21 := Lib.hid hx
      clear hx
      obtain ⟨x22, hx⟩ : ∃ vv : Value, vv = .int .i64 fd := ⟨_, rfl⟩
      have X22 := Lib.hid hx
      clear hx
      obtain ⟨x23, hx⟩ : ∃ vv : Value, vv = V p := ⟨_, rfl⟩
      have X23 := Lib.hid hx
      clear hx
      obtain ⟨x24, hx⟩ : ∃ vv : Value, vv = .slice ca m cc := ⟨_, rfl⟩
      have X24 := Lib.hid hx
      clear hx
      obtain ⟨x25, hx⟩ : ∃ vv : Value, vv = .int .i64 (i : Int) := ⟨_, rfl⟩
      have X25 := Lib.hid hx
      clear hx
      refine wp_region_clo (fun a0 l a' w' => ∃ (az : Option Addr) (cz : Nat) (bz : Nat) (vf : Value), a' = (Act.put (fill a0 13 [sel (l 0) x13 (u13), sel (l 1) x14 (u14), sel (l 2) x15 (u15), sel (l 3) x16 (u16), sel (l 4) x17 (u17), sel (l 5) x18 (u18), sel (l 6) x19 (u19), sel (l 7) x20 (u20), sel (l 8) x21 (u21), sel (l 9) x22 (u22), sel (l 10) x23 (u23), sel (l 11) x24 (u24), sel (l 12) x25 (u25), sel (l 13) (.slice az m cz) (u26), sel (l 14) (.agg #[.int .i64 fd, .int .i64 th, .int .i64 (i : Int), .int .i64 ln, .slice az m cz]) (u27), sel (l 15) (.slice (some ⟨bz, 0, none⟩) 1 1) (u28), sel (l 16) (vf) (u29), undef]) (some 5) (sel (l 17) (vf) (.slice va k vc))) ∧ (l 16 = false → Off (fun _ => False) wq w' ∧ (l 13 = true → w'.ownsRow wq.heap.size 66 4 (.slice az m cz) m (flat4 (payN p cs i))) ∧ (l 15 = true → w'.heap[bz]? = some (.cells #[.int .i64 fd, .int .i64 th, .int .i64 (i : Int), .int .i64 ln, .slice az m cz] 69 (0, 0)))) ∧ (l 16 = true → EvL ⟨fd, th, sh, ln⟩ p cs (k + 1) (w.heap.size + 1) w' vf ∧ w'.heap[w.heap.size]? = some (.cells #[.int .i64 fd, .int .i64 th, .int .i64 sh, .int .i64 ln] 23 (0, 0)) ∧ Off (fun _ => False) w w')) (by kernel_rfl) (by kernel_rfl) ?_ ⟨?_, ?_, ?_, ?_, ?_, ?_, ?_, ?_, ?_, ?_, ?_, ?_, ?_, ?_, ?_, ?_, ?_, ?_, trivial⟩ ?_
      · refine ⟨none, 0, 0, undef, ?_, fun _ => ⟨(Off.refl _ wq).drew, (fun h => by cases h), (fun h => by cases h)⟩, fun h => by cases h⟩
        simp only [fill_eq, List.take_succ_cons, List.take_zero, List.cons_append, List.nil_append, Act.put, List.setIfInBounds_toArray, List.set_cons_zero, List.set_cons_succ, sel_start]
        try rfl
      · as_aux_lemma =>
          rintro l a wr ⟨az, cz, bz, vf, ha, hA, hB⟩ hc hl hd K' hK
          have hx := X13.out; subst hx
          have gF : l 16 = false := hc.not (i := 16) hl 18 (by kernel_rfl)
          obtain ⟨hO, h13, h15⟩ := hA gF
          have GF := Lib.hid gF
          clear gF hA hB
          have g17 := hc.not (i := 17) hl 18 (by kernel_rfl)
          simp only [fill_eq, List.take_succ_cons, List.take_zero, List.cons_append, List.nil_append, Act.put, List.setIfInBounds_toArray, List.set_cons_zero, List.set_cons_succ, sel_no g17] at ha
          subst ha
          have G17 := Lib.hid g17
          clear g17
          have H13 := Lib.hid h13
          clear h13
          have H15 := Lib.hid h15
          clear h15
          rw [if_pos (by rfl)]
          go_simp
          refine Shut.out hK _ _ ⟨az, cz, bz, vf, ?_, fun _ => ⟨hO, (fun h => own_off (H13.out (show l 13 = true by rwa [upd_ne l (by decide)] at h)) (Off.refl (fun _ => False) wr)), (fun h => Off.heap (Off.refl (fun _ => False) wr) (H15.out (show l 15 = true by rwa [upd_ne l (by decide)] at h)) (fun c => c))⟩, fun h => absurd (show (true : Bool) = false from (show l 16 = true by rwa [upd_ne l (by decide)] at h).symm.trans GF.out) (by decide)⟩
          simp only [fill_eq, List.take_succ_cons, List.take_zero, List.cons_append, List.nil_append, Act.put, List.setIfInBounds_toArray, List.set_cons_zero, List.set_cons_succ, sel_new, sel_no (show upd l 0 17 = false by rw [upd_ne l (by decide)]; exact G17.out)]
          try rfl
      · as_aux_lemma =>
          rintro l a wr ⟨az, cz, bz, vf, ha, hA, hB⟩ hc hl hd K' hK
          have hx := X14.out; subst hx
          have gF : l 16 = false := hc.not (i := 16) hl 18 (by kernel_rfl)
          obtain ⟨hO, h13, h15⟩ := hA gF
          have GF := Lib.hid gF
          clear gF hA hB
          simp only [fill_eq, List.take_succ_cons, List.take_zero, List.cons_append, List.nil_append, Act.put, List.setIfInBounds_toArray, List.set_cons_zero, List.set_cons_succ] at ha
          subst ha
          have H13 := Lib.hid h13
          clear h13
          have H15 := Lib.hid h15
          clear h15
          have hlq := heap_lt (hO.heap HG.out (fun c => c))
          rw [if_pos (by rfl)]
          go_simp
          refine Shut.out hK _ _ ⟨az, cz, bz, vf, ?_, fun _ => ⟨hO, (fun h => own_off (H13.out (show l 13 = true by rwa [upd_ne l (by decide)] at h)) (Off.refl (fun _ => False) wr)), (fun h => Off.heap (Off.refl (fun _ => False) wr) (H15.out (show l 15 = true by rwa [upd_ne l (by decide)] at h)) (fun c => c))⟩, fun h => absurd (show (true : Bool) = false from (show l 16 = true by rwa [upd_ne l (by decide)] at h).symm.trans GF.out) (by decide)⟩
          simp only [fill_eq, List.take_succ_cons, List.take_zero, List.cons_append, List.nil_append, Act.put, List.setIfInBounds_toArray, List.set_cons_zero, List.set_cons_succ, sel_new]
          try rfl
      · as_aux_lemma =>
          rintro l a wr ⟨az, cz, bz, vf, ha, hA, hB⟩ hc hl hd K' hK
          have d1 := hd 1 (by decide)
          have hx := X14.out; subst hx
          have hx := X15.out; subst hx
          have gF : l 16 = false := hc.not (i := 16) hl 18 (by kernel_rfl)
          obtain ⟨hO, h13, h15⟩ := hA gF
          have GF := Lib.hid gF
          clear gF hA hB
          simp only [fill_eq, List.take_succ_cons, List.take_zero, List.cons_append, List.nil_append, Act.put, List.setIfInBounds_toArray, List.set_cons_zero, List.set_cons_succ, sel_of d1] at ha
          subst ha
          have H13 := Lib.hid h13
          clear h13
          have H15 := Lib.hid h15
          clear h15
          have p0 := cell_of_heap (hO.heap HG.out (fun c => c)) 0
          rw [if_pos (by rfl)]
          go_simp
          refine Shut.out hK _ _ ⟨az, cz, bz, vf, ?_, fun _ => ⟨hO, (fun h => own_off (H13.out (show l 13 = true by rwa [upd_ne l (by decide)] at h)) (Off.refl (fun _ => False) wr)), (fun h => Off.heap (Off.refl (fun _ => False) wr) (H15.out (show l 15 = true by rwa [upd_ne l (by decide)] at h)) (fun c => c))⟩, fun h => absurd (show (true : Bool) = false from (show l 16 = true by rwa [upd_ne l (by decide)] at h).symm.trans GF.out) (by decide)⟩
          simp only [fill_eq, List.take_succ_cons, List.take_zero, List.cons_append, List.nil_append, Act.put, List.setIfInBounds_toArray, List.set_cons_zero, List.set_cons_succ, sel_new, sel_dep d1]
          try rfl
      · as_aux_lemma =>
          rintro l a wr ⟨az, cz, bz, vf, ha, hA, hB⟩ hc hl hd K' hK
          have hx := X16.out; subst hx
          have gF : l 16 = false := hc.not (i := 16) hl 18 (by kernel_rfl)
          obtain ⟨hO, h13, h15⟩ := hA gF
          have GF := Lib.hid gF
          clear gF hA hB
          simp only [fill_eq, List.take_succ_cons, List.take_zero, List.cons_append, List.nil_append, Act.put, List.setIfInBounds_toArray, List.set_cons_zero, List.set_cons_succ] at ha
          subst ha
          have H13 := Lib.hid h13
          clear h13
          have H15 := Lib.hid h15
          clear h15
          have hlq := heap_lt (hO.heap HG.out (fun c => c))
          rw [if_pos (by rfl)]
          go_simp
          refine Shut.out hK _ _ ⟨az, cz, bz, vf, ?_, fun _ => ⟨hO, (fun h => own_off (H13.out (show l 13 = true by rwa [upd_ne l (by decide)] at h)) (Off.refl (fun _ => False) wr)), (fun h => Off.heap (Off.refl (fun _ => False) wr) (H15.out (show l 15 = true by rwa [upd_ne l (by decide)] at h)) (fun c => c))⟩, fun h => absurd (show (true : Bool) = false from (show l 16 = true by rwa [upd_ne l (by decide)] at h).symm.trans GF.out) (by decide)⟩
          simp only [fill_eq, List.take_succ_cons, List.take_zero, List.cons_append, List.nil_append, Act.put, List.setIfInBounds_toArray, List.set_cons_zero, List.set_cons_succ, sel_new]
          try rfl
      · as_aux_lemma =>
          rintro l a wr ⟨az, cz, bz, vf, ha, hA, hB⟩ hc hl hd K' hK
          have d3 := hd 3 (by decide)
          have hx := X16.out; subst hx
          have hx := X17.out; subst hx
          have gF : l 16 = false := hc.not (i := 16) hl 18 (by kernel_rfl)
          obtain ⟨hO, h13, h15⟩ := hA gF
          have GF := Lib.hid gF
          clear gF hA hB
          simp only [fill_eq, List.take_succ_cons, List.take_zero, List.cons_append, List.nil_append, Act.put, List.setIfInBounds_toArray, List.set_cons_zero, List.set_cons_succ, sel_of d3] at ha
          subst ha
          have H13 := Lib.hid h13
          clear h13
          have H15 := Lib.hid h15
          clear h15
          have p0 := cell_of_heap (hO.heap HG.out (fun c => c)) 1
          rw [if_pos (by rfl)]
          go_simp
          refine Shut.out hK _ _ ⟨az, cz, bz, vf, ?_, fun _ => ⟨hO, (fun h => own_off (H13.out (show l 13 = true by rwa [upd_ne l (by decide)] at h)) (Off.refl (fun _ => False) wr)), (fun h => Off.heap (Off.refl (fun _ => False) wr) (H15.out (show l 15 = true by rwa [upd_ne l (by decide)] at h)) (fun c => c))⟩, fun h => absurd (show (true : Bool) = false from (show l 16 = true by rwa [upd_ne l (by decide)] at h).symm.trans GF.out) (by decide)⟩
          simp only [fill_eq, List.take_succ_cons, List.take_zero, List.cons_append, List.nil_append, Act.put, List.setIfInBounds_toArray, List.set_cons_zero, List.set_cons_succ, sel_new, sel_dep d3]
          try rfl
      · as_aux_lemma =>
          rintro l a wr ⟨az, cz, bz, vf, ha, hA, hB⟩ hc hl hd K' hK
          have hx := X18.out; subst hx
          have gF : l 16 = false := hc.not (i := 16) hl 18 (by kernel_rfl)
          obtain ⟨hO, h13, h15⟩ := hA gF
          have GF := Lib.hid gF
          clear gF hA hB
          simp only [fill_eq, List.take_succ_cons, List.take_zero, List.cons_append, List.nil_append, Act.put, List.setIfInBounds_toArray, List.set_cons_zero, List.set_cons_succ] at ha
          subst ha
          have H13 := Lib.hid h13
          clear h13
          have H15 := Lib.hid h15
          clear h15
          rw [if_pos (by rfl)]
          go_simp
          refine Shut.out hK _ _ ⟨az, cz, bz, vf, ?_, fun _ => ⟨hO, (fun h => own_off (H13.out (show l 13 = true by rwa [upd_ne l (by decide)] at h)) (Off.refl (fun _ => False) wr)), (fun h => Off.heap (Off.refl (fun _ => False) wr) (H15.out (show l 15 = true by rwa [upd_ne l (by decide)] at h)) (fun c => c))⟩, fun h => absurd (show (true : Bool) = false from (show l 16 = true by rwa [upd_ne l (by decide)] at h).symm.trans GF.out) (by decide)⟩
          simp only [fill_eq, List.take_succ_cons, List.take_zero, List.cons_append, List.nil_append, Act.put, List.setIfInBounds_toArray, List.set_cons_zero, List.set_cons_succ, sel_new]
          try rfl
      · as_aux_lemma =>
          rintro l a wr ⟨az, cz, bz, vf, ha, hA, hB⟩ hc hl hd K' hK
          have hx := X19.out; subst hx
          have gF : l 16 = false := hc.not (i := 16) hl 18 (by kernel_rfl)
          obtain ⟨hO, h13, h15⟩ := hA gF
          have GF := Lib.hid gF
          clear gF hA hB
          simp only [fill_eq, List.take_succ_cons, List.take_zero, List.cons_append, List.nil_append, Act.put, List.setIfInBounds_toArray, List.set_cons_zero, List.set_cons_succ] at ha
          subst ha
          have H13 := Lib.hid h13
          clear h13
          have H15 := Lib.hid h15
          clear h15
          have hlq := heap_lt (hO.heap HG.out (fun c => c))
          rw [if_pos (by rfl)]
          go_simp
          refine Shut.out hK _ _ ⟨az, cz, bz, vf, ?_, fun _ => ⟨hO, (fun h => own_off (H13.out (show l 13 = true by rwa [upd_ne l (by decide)] at h)) (Off.refl (fun _ => False) wr)), (fun h => Off.heap (Off.refl (fun _ => False) wr) (H15.out (show l 15 = true by rwa [upd_ne l (by decide)] at h)) (fun c => c))⟩, fun h => absurd (show (true : Bool) = false from (show l 16 = true by rwa [upd_ne l (by decide)] at h).symm.trans GF.out) (by decide)⟩
          simp only [fill_eq, List.take_succ_cons, List.take_zero, List.cons_append, List.nil_append, Act.put, List.setIfInBounds_toArray, List.set_cons_zero, List.set_cons_succ, sel_new]
          try rfl
      · as_aux_lemma =>
          rintro l a wr ⟨az, cz, bz, vf, ha, hA, hB⟩ hc hl hd K' hK
          have d6 := hd 6 (by decide)
          have hx := X19.out; subst hx
          have hx := X20.out; subst hx
          have gF : l 16 = false := hc.not (i := 16) hl 18 (by kernel_rfl)
          obtain ⟨hO, h13, h15⟩ := hA gF
          have GF := Lib.hid gF
          clear gF hA hB
          simp only [fill_eq, List.take_succ_cons, List.take_zero, List.cons_append, List.nil_append, Act.put, List.setIfInBounds_toArray, List.set_cons_zero, List.set_cons_succ, sel_of d6] at ha
          subst ha
          have H13 := Lib.hid h13
          clear h13
          have H15 := Lib.hid h15
          clear h15
          have p0 := cell_of_heap (hO.heap HG.out (fun c => c)) 3
          rw [if_pos (by rfl)]
          go_simp
          refine Shut.out hK _ _ ⟨az, cz, bz, vf, ?_, fun _ => ⟨hO, (fun h => own_off (H13.out (show l 13 = true by rwa [upd_ne l (by decide)] at h)) (Off.refl (fun _ => False) wr)), (fun h => Off.heap (Off.refl (fun _ => False) wr) (H15.out (show l 15 = true by rwa [upd_ne l (by decide)] at h)) (fun c => c))⟩, fun h => absurd (show (true : Bool) = false from (show l 16 = true by rwa [upd_ne l (by decide)] at h).symm.trans GF.out) (by decide)⟩
          simp only [fill_eq, List.take_succ_cons, List.take_zero, List.cons_append, List.nil_append, Act.put, List.setIfInBounds_toArray, List.set_cons_zero, List.set_cons_succ, sel_new, sel_dep d6]
          try rfl
      · as_aux_lemma =>
          rintro l a wr ⟨az, cz, bz, vf, ha, hA, hB⟩ hc hl hd K' hK
          have hx := X21.out; subst hx
          have gF : l 16 = false := hc.not (i := 16) hl 18 (by kernel_rfl)
          obtain ⟨hO, h13, h15⟩ := hA gF
          have GF := Lib.hid gF
          clear gF hA hB
          simp only [fill_eq, List.take_succ_cons, List.take_zero, List.cons_append, List.nil_append, Act.put, List.setIfInBounds_toArray, List.set_cons_zero, List.set_cons_succ] at ha
          subst ha
          have H13 := Lib.hid h13
          clear h13
          have H15 := Lib.hid h15
          clear h15
          have hlq := heap_lt (hO.heap HG.out (fun c => c))
          rw [if_pos (by rfl)]
          go_simp
          refine Shut.out hK _ _ ⟨az, cz, bz, vf, ?_, fun _ => ⟨hO, (fun h => own_off (H13.out (show l 13 = true by rwa [upd_ne l (by decide)] at h)) (Off.refl (fun _ => False) wr)), (fun h => Off.heap (Off.refl (fun _ => False) wr) (H15.out (show l 15 = true by rwa [upd_ne l (by decide)] at h)) (fun c => c))⟩, fun h => absurd (show (true : Bool) = false from (show l 16 = true by rwa [upd_ne l (by decide)] at h).symm.trans GF.out) (by decide)⟩
          simp only [fill_eq, List.take_succ_cons, List.take_zero, List.cons_append, List.nil_append, Act.put, List.setIfInBounds_toArray, List.set_cons_zero, List.set_cons_succ, sel_new]
          try rfl
      · as_aux_lemma =>
          rintro l a wr ⟨az, cz, bz, vf, ha, hA, hB⟩ hc hl hd K' hK
          have d8 := hd 8 (by decide)
          have hx := X21.out; subst hx
          have hx := X22.out; subst hx
          have gF : l 16 = false := hc.not (i := 16) hl 18 (by kernel_rfl)
          obtain ⟨hO, h13, h15⟩ := hA gF
          have GF := Lib.hid gF
          clear gF hA hB
          simp only [fill_eq, List.take_succ_cons, List.take_zero, List.cons_append, List.nil_append, Act.put, List.setIfInBounds_toArray, List.set_cons_zero, List.set_cons_succ, sel_of d8] at ha
          subst ha
          have H13 := Lib.hid h13
          clear h13
          have H15 := Lib.hid h15
          clear h15
          have p0 := cell_of_heap (hO.heap HG.out (fun c => c)) 0
          rw [if_pos (by rfl)]
          go_simp
          refine Shut.out hK _ _ ⟨az, cz, bz, vf, ?_, fun _ => ⟨hO, (fun h => own_off (H13.out (show l 13 = true by rwa [upd_ne l (by decide)] at h)) (Off.refl (fun _ => False) wr)), (fun h => Off.heap (Off.refl (fun _ => False) wr) (H15.out (show l 15 = true by rwa [upd_ne l (by decide)] at h)) (fun c => c))⟩, fun h => absurd (show (true : Bool) = false from (show l 16 = true by rwa [upd_ne l (by decide)] at h).symm.trans GF.out) (by decide)⟩
          simp only [fill_eq, List.take_succ_cons, List.take_zero, List.cons_append, List.nil_append, Act.put, List.setIfInBounds_toArray, List.set_cons_zero, List.set_cons_succ, sel_new, sel_dep d8]
          try rfl
      · as_aux_lemma =>
          rintro l a wr ⟨az, cz, bz, vf, ha, hA, hB⟩ hc hl hd K' hK
          have d9 := hd 9 (by decide)
          have hx := X22.out; subst hx
          have hx := X23.out; subst hx
          have gF : l 16 = false := hc.not (i := 16) hl 18 (by kernel_rfl)
          obtain ⟨hO, h13, h15⟩ := hA gF
          have GF := Lib.hid gF
          clear gF hA hB
          simp only [fill_eq, List.take_succ_cons, List.take_zero, List.cons_append, List.nil_append, Act.put, List.setIfInBounds_toArray, List.set_cons_zero, List.set_cons_succ, sel_of d9] at ha
          subst ha
          have H13 := Lib.hid h13
          clear h13
          have H15 := Lib.hid h15
          clear h15
          rw [if_pos (by rfl)]
          go_simp
          refine (FM.out wr).mono ?_
          rintro e w1 ⟨rfl, hO1⟩
          go_wp2_with fail
          refine Shut.out hK _ _ ⟨az, cz, bz, vf, ?_, fun _ => ⟨(hO.trans hO1 (fun _ _ c => c)), (fun h => own_off (H13.out (show l 13 = true by rwa [upd_ne l (by decide)] at h)) hO1), (fun h => Off.heap hO1 (H15.out (show l 15 = true by rwa [upd_ne l (by decide)] at h)) (fun c => c))⟩, fun h => absurd (show (true : Bool) = false from (show l 16 = true by rwa [upd_ne l (by decide)] at h).symm.trans GF.out) (by decide)⟩
          simp only [fill_eq, List.take_succ_cons, List.take_zero, List.cons_append, List.nil_append, Act.put, List.setIfInBounds_toArray, List.set_cons_zero, List.set_cons_succ, sel_new, sel_dep d9]
          try rfl
      · as_aux_lemma =>
          rintro l a wr ⟨az, cz, bz, vf, ha, hA, hB⟩ hc hl hd K' hK
          have hx := X24.out; subst hx
          have gF : l 16 = false := hc.not (i := 16) hl 18 (by kernel_rfl)
          obtain ⟨hO, h13, h15⟩ := hA gF
          have GF := Lib.hid gF
          clear gF hA hB
          simp only [fill_eq, List.take_succ_cons, List.take_zero, List.cons_append, List.nil_append, Act.put, List.setIfInBounds_toArray, List.set_cons_zero, List.set_cons_succ] at ha
          subst ha
          have H13 := Lib.hid h13
          clear h13
          have H15 := Lib.hid h15
          clear h15
          rw [if_pos (by rfl)]
          go_simp
          refine Shut.out hK _ _ ⟨az, cz, bz, vf, ?_, fun _ => ⟨hO, (fun h => own_off (H13.out (show l 13 = true by rwa [upd_ne l (by decide)] at h)) (Off.refl (fun _ => False) wr)), (fun h => Off.heap (Off.refl (fun _ => False) wr) (H15.out (show l 15 = true by rwa [upd_ne l (by decide)] at h)) (fun c => c))⟩, fun h => absurd (show (true : Bool) = false from (show l 16 = true by rwa [upd_ne l (by decide)] at h).symm.trans GF.out) (by decide)⟩
          simp only [fill_eq, List.take_succ_cons, List.take_zero, List.cons_append, List.nil_append, Act.put, List.setIfInBounds_toArray, List.set_cons_zero, List.set_cons_succ, sel_new]
          try rfl
      · as_aux_lemma =>
          rintro l a wr ⟨az, cz, bz, vf, ha, hA, hB⟩ hc hl hd K' hK
          have hx := X25.out; subst hx
          have gF : l 16 = false := hc.not (i := 16) hl 18 (by kernel_rfl)
          obtain ⟨hO, h13, h15⟩ := hA gF
          have GF := Lib.hid gF
          clear gF hA hB
          simp only [fill_eq, List.take_succ_cons, List.take_zero, List.cons_append, List.nil_append, Act.put, List.setIfInBounds_toArray, List.set_cons_zero, List.set_cons_succ] at ha
          subst ha
          have H13 := Lib.hid h13
          clear h13
          have H15 := Lib.hid h15
          clear h15
          rw [if_pos (by rfl)]
          go_simp
          refine Shut.out hK _ _ ⟨az, cz, bz, vf, ?_, fun _ => ⟨hO, (fun h => own_off (H13.out (show l 13 = true by rwa [upd_ne l (by decide)] at h)) (Off.refl (fun _ => False) wr)), (fun h => Off.heap (Off.refl (fun _ => False) wr) (H15.out (show l 15 = true by rwa [upd_ne l (by decide)] at h)) (fun c => c))⟩, fun h => absurd (show (true : Bool) = false from (show l 16 = true by rwa [upd_ne l (by decide)] at h).symm.trans GF.out) (by decide)⟩
          simp only [fill_eq, List.take_succ_cons, List.take_zero, List.cons_append, List.nil_append, Act.put, List.setIfInBounds_toArray, List.set_cons_zero, List.set_cons_succ, sel_new]
          try rfl
      · as_aux_lemma =>
          rintro l a wr ⟨az, cz, bz, vf, ha, hA, hB⟩ hc hl hd K' hK
          have d10 := hd 10 (by decide)
          have d11 := hd 11 (by decide)
          have d12 := hd 12 (by decide)
          have hx := X23.out; subst hx
          have hx := X24.out; subst hx
          have hx := X25.out; subst hx
          have gF : l 16 = false := hc.not (i := 16) hl 18 (by kernel_rfl)
          obtain ⟨hO, h13, h15⟩ := hA gF
          have GF := Lib.hid gF
          clear gF hA hB
          have g14 := hc.not (i := 14) hl 18 (by kernel_rfl)
          have g15 := hc.not (i := 15) hl 18 (by kernel_rfl)
          have g16 := hc.not (i := 16) hl 18 (by kernel_rfl)
          have g17 := hc.not (i := 17) hl 18 (by kernel_rfl)
          simp only [fill_eq, List.take_succ_cons, List.take_zero, List.cons_append, List.nil_append, Act.put, List.setIfInBounds_toArray, List.set_cons_zero, List.set_cons_succ, sel_of d10, sel_of d11, sel_of d12, sel_no g14, sel_no g15, sel_no g16, sel_no g17, sel_no hl] at ha
          subst ha
          have G14 := Lib.hid g14
          clear g14
          have G15 := Lib.hid g15
          clear g15
          have G16 := Lib.hid g16
          clear g16
          have G17 := Lib.hid g17
          clear g17
          have H13 := Lib.hid h13
          clear h13
          have H15 := Lib.hid h15
          clear h15
          rw [if_pos (by rfl)]
          go_simp
          refine (FY.out wr hO).mono ?_
          rintro e w1 ⟨az', cz', rfl, hP1, hO1⟩
          go_wp2_with fail
          refine Shut.out hK _ _ ⟨az', cz', bz, vf, ?_, fun _ => ⟨(hO.trans hO1 (fun _ _ c => c)), (fun _ => own_base5 hP1 hO.size), (fun h => absurd (show (true : Bool) = false from (show l 15 = true by rwa [upd_ne l (by decide)] at h).symm.trans G15.out) (by decide))⟩, fun h => absurd (show (true : Bool) = false from (show l 16 = true by rwa [upd_ne l (by decide)] at h).symm.trans GF.out) (by decide)⟩
          simp only [fill_eq, List.take_succ_cons, List.take_zero, List.cons_append, List.nil_append, Act.put, List.setIfInBounds_toArray, List.set_cons_zero, List.set_cons_succ, sel_new, sel_dep d10, sel_dep d11, sel_dep d12, sel_no (show upd l 13 14 = false by rw [upd_ne l (by decide)]; exact G14.out), sel_no (show upd l 13 15 = false by rw [upd_ne l (by decide)]; exact G15.out), sel_no (show upd l 13 16 = false by rw [upd_ne l (by decide)]; exact G16.out), sel_no (show upd l 13 17 = false by rw [upd_ne l (by decide)]; exact G17.out)]
          try rfl
      · as_aux_lemma =>
          rintro l a wr ⟨az, cz, bz, vf, ha, hA, hB⟩ hc hl hd K' hK
          have d2 := hd 2 (by decide)
          have d4 := hd 4 (by decide)
          have d5 := hd 5 (by decide)
          have d7 := hd 7 (by decide)
          have d13 := hd 13 (by decide)
          have hx := X15.out; subst hx
          have hx := X17.out; subst hx
          have hx := X18.out; subst hx
          have hx := X20.out; subst hx
          have gF : l 16 = false := hc.not (i := 16) hl 18 (by kernel_rfl)
          obtain ⟨hO, h13, h15⟩ := hA gF
          have GF := Lib.hid gF
          clear gF hA hB
          simp only [fill_eq, List.take_succ_cons, List.take_zero, List.cons_append, List.nil_append, Act.put, List.setIfInBounds_toArray, List.set_cons_zero, List.set_cons_succ, sel_of d2, sel_of d4, sel_of d5, sel_of d7, sel_of d13] at ha
          subst ha
          have q13 := h13 d13
          have Q13 := Lib.hid q13
          clear q13
          have H13 := Lib.hid h13
          clear h13
          have H15 := Lib.hid h15
          clear h15
          rw [if_pos (by rfl)]
          go_simp
          refine Shut.out hK _ _ ⟨az, cz, bz, vf, ?_, fun _ => ⟨hO, (fun h => own_off (H13.out (show l 13 = true by rwa [upd_ne l (by decide)] at h)) (Off.refl (fun _ => False) wr)), (fun h => Off.heap (Off.refl (fun _ => False) wr) (H15.out (show l 15 = true by rwa [upd_ne l (by decide)] at h)) (fun c => c))⟩, fun h => absurd (show (true : Bool) = false from (show l 16 = true by rwa [upd_ne l (by decide)] at h).symm.trans GF.out) (by decide)⟩
          simp only [fill_eq, List.take_succ_cons, List.take_zero, List.cons_append, List.nil_append, Act.put, List.setIfInBounds_toArray, List.set_cons_zero, List.set_cons_succ, sel_new, sel_dep d2, sel_dep d4, sel_dep d5, sel_dep d7, sel_dep d13]
          try rfl
      · rintro l a wr ⟨az, cz, bz, vf, ha, hA, hB⟩ hc hl hd K' hK
        have d14 := hd 14 (by decide)
        have gF : l 16 = false := hc.not (i := 16) hl 18 (by kernel_rfl)
        obtain ⟨hO, h13, h15⟩ := hA gF
        have GF := Lib.hid gF
        clear gF hA hB
        have g16 := hc.not (i := 16) hl 18 (by kernel_rfl)
        have g17 := hc.not (i := 17) hl 18 (by kernel_rfl)
        simp only [fill_eq, List.take_succ_cons, List.take_zero, List.cons_append, List.nil_append, Act.put, List.setIfInBounds_toArray, List.set_cons_zero, List.set_cons_succ, sel_of d14, sel_no g16, sel_no g17, sel_no hl] at ha
        subst ha
        have G16 := Lib.hid g16
        clear g16
        have G17 := Lib.hid g17
        clear g17
        have q13 := h13 (hc.up 18 14 13 d14 (by kernel_rfl))
        have Q13 := Lib.hid q13
        clear q13
        have H13 := Lib.hid h13
        clear h13
        have H15 := Lib.hid h15
        clear h15
        rw [if_pos (by rfl)]
        go_simp
        refine Shut.out hK _ _ ⟨az, cz, wr.heap.size, vf, ?_, fun _ => ⟨(hO.alloc _), (fun h => own_off (H13.out (show l 13 = true by rwa [upd_ne l (by decide)] at h)) ((Off.refl (fun _ => False) wr).alloc _)), (fun _ => heap_new' rfl _)⟩, fun h => absurd (show (true : Bool) = false from (show l 16 = true by rwa [upd_ne l (by decide)] at h).symm.trans GF.out) (by decide)⟩
        simp only [fill_eq, List.take_succ_cons, List.take_zero, List.cons_append, List.nil_append, Act.put, List.setIfInBounds_toArray, List.set_cons_zero, List.set_cons_succ, sel_new, sel_dep d14, sel_no (show upd l 15 16 = false by rw [upd_ne l (by decide)]; exact G16.out), sel_no (show upd l 15 17 = false by rw [upd_ne l (by decide)]; exact G17.out)]
        try rfl
      · as_aux_lemma =>
          rintro l a wr ⟨az, cz, bz, vf, ha, hA, hB⟩ hc hl hd K' hK
          have d0 := hd 0 (by decide)
          have d15 := hd 15 (by decide)
          have hx := X13.out; subst hx
          have gF : l 16 = false := hl
          obtain ⟨hO, h13, h15⟩ := hA gF
          have GF := Lib.hid gF
          clear gF hA hB
          have g17 := hc.not (i := 17) hl 18 (by kernel_rfl)
          simp only [fill_eq, List.take_succ_cons, List.take_zero, List.cons_append, List.nil_append, Act.put, List.setIfInBounds_toArray, List.set_cons_zero, List.set_cons_succ, sel_of d0, sel_of d15, sel_no g17, sel_no hl] at ha
          subst ha
          have G17 := Lib.hid g17
          clear g17
          have q13 := h13 (hc.up 18 15 13 d15 (by kernel_rfl))
          have Q13 := Lib.hid q13
          clear q13
          have q15 := h15 d15
          have Q15 := Lib.hid q15
          clear q15
          have H13 := Lib.hid h13
          clear h13
          have H15 := Lib.hid h15
          clear h15
          rw [if_pos (by rfl)]
          obtain ⟨v', w1, hrun, hev, hg1, hof⟩ := eva_step HEv.out hO HG.out HO.out HM.out HIK.out HFT.out HKL.out Q13.out Q15.out
          refine append_oper rfl rfl rfl hrun ?_
          refine Shut.out hK _ _ ⟨az, cz, bz, v', ?_, fun h => absurd h (by rw [upd_same]; decide), fun _ => ⟨hev, hg1, hof⟩⟩
          simp only [fill_eq, List.take_succ_cons, List.take_zero, List.cons_append, List.nil_append, Act.put, List.setIfInBounds_toArray, List.set_cons_zero, List.set_cons_succ, sel_new, sel_dep d0, sel_dep d15, sel_no (show upd l 16 17 = false by rw [upd_ne l (by decide)]; exact G17.out)]
          try rfl
      · as_aux_lemma =>
          rintro l a wr ⟨az, cz, bz, vf, ha, hA, hB⟩ hc hl hd K' hK
          have d16 := hd 16 (by decide)
          simp only [fill_eq, List.take_succ_cons, List.take_zero, List.cons_append, List.nil_append, Act.put, List.setIfInBounds_toArray, List.set_cons_zero, List.set_cons_succ, sel_of d16] at ha
          subst ha
          rw [if_pos (by rfl)]
          go_simp
          refine Shut.out hK _ _ ⟨az, cz, bz, vf, ?_, fun h => absurd (show (true : Bool) = false from d16.symm.trans (show l 16 = false by rwa [upd_ne l (by decide)] at h)) (by decide), fun _ => hB d16⟩
          simp only [fill_eq, List.take_succ_cons, List.take_zero, List.cons_append, List.nil_append, Act.put, List.setIfInBounds_toArray, List.set_cons_zero, List.set_cons_succ, sel_new, sel_dep d16]
          try rfl
      · rintro l a wc ⟨az, cz, bz, vf, ha, hA, hB⟩ hd
        simp only [fill_eq, List.take_succ_cons, List.take_zero, List.cons_append, List.nil_append, Act.put, List.setIfInBounds_toArray, List.set_cons_zero, List.set_cons_succ, sel_of (hd 0 (by decide)), sel_of (hd 1 (by decide)), sel_of (hd 2 (by decide)), sel_of (hd 3 (by decide)), sel_of (hd 4 (by decide)), sel_of (hd 5 (by decide)), sel_of (hd 6 (by decide)), sel_of (hd 7 (by decide)), sel_of (hd 8 (by decide)), sel_of (hd 9 (by decide)), sel_of (hd 10 (by decide)), sel_of (hd 11 (by decide)), sel_of (hd 12 (by decide)), sel_of (hd 13 (by decide)), sel_of (hd 14 (by decide)), sel_of (hd 15 (by decide)), sel_of (hd 16 (by decide)), sel_of (hd 17 (by decide))] at ha
        subst ha
        have hPP := hB (hd 16 (by decide))
        clear hA hB
        obtain ⟨hev, hg, hO'⟩ := hPP
        obtain ⟨a6, c6, rfl⟩ := hev.shape
        have HE6 := Lib.hid hev
        have HG6 := Lib.hid hg
        have HO6 := Lib.hid hO'
        clear hev hg hO' hd
        go_wp2
        go_roundw
        case rel => exact ⟨k + 1, by have := HKN.out; omega, by have := HII.out; congr 1; omega, ⟨_, _, rfl, HE6.out⟩, HG6.out, HO6.out⟩
        case measure => simp [intOf]; have := HKN.out; have := HII.out; omega
    · obtain rfl : n = k := by omega
      have hle : decide ((n : Int) + 1 ≤ sh) = false := decide_eq_false (by rw [HSH.out]; omega)
      have hle2 : ¬ (n : Int) + 1 ≤ sh := by rw [HSH.out]; omega
      have HEv := Lib.hid hev
      have HO := Lib.hid hO
      clear hev hO hlt hk hg
      go_wp2
      exact bodyPost_ret (v := .slice va n vc) (by simp [results, Tryd.results22, go_sem]) rfl ⟨_, rfl, HEv.out.base (Nat.le_succ _), HO.out⟩
end
section
open Go.RowKit
attribute [local go_sem ↓] Go.wp_at_zero Go.wp_at_succ
set_option maxRecDepth 100000
set_option maxHeartbeats 4000000
theorem Off.drewS {S : Nat → Prop} {a w : World} (h : Off S a w) (q : Nat) : Off S a (w.drewN q) := ⟨h.os, h.tape, h.output, h.size, h.block, h.others⟩
theorem eqel_same (x : Nat) (W : World) : (Op.equalIn 10000 66 (.agg #[.int .u64 (wd x 0 : Int), .int .u64 (wd x 1 : Int), .int .u64 (wd x 2 : Int), .int .u64 (wd x 3 : Int)]) (.agg #[.int .u64 (wd x 0 : Int), .int .u64 (wd x 1 : Int), .int .u64 (wd x 2 : Int), .int .u64 (wd x 3 : Int)])).run Tryd.prog W = .ok true W := by
  have h := equalIn_elem_same x W
  exact h
theorem refsame_any (l : List Sh) (a1 a2 : Option Addr) (n cap1 cap2 : Nat) (hn : n = l.length) (S1 S2 : Nat → Prop) (w : World) (h1 : ShsAt w (.slice a1 n cap1) l S1) (h2 : ShsAt w (.slice a2 n cap2) l S2) :
    Calls Tryd.prog 16 #[.slice a1 n cap1, .slice a2 n cap2] w fun e w' => e = .returned (.bool true) ∧ Off (fun _ => False) w w' := by
  have hmax : n ≤ maxLen := by
    obtain ⟨_, _, e, _, h1, _⟩ := h1
    simp at e; omega
  unfold maxLen at hmax
  have HL1 := Lib.hid h1
  have HL2 := Lib.hid h2
  have qn : ((n : Int) != (n : Int)) = false := by simp
  clear hn h1 h2
  go_enter Tryd.func16, Tryd.ntmps16
  go_wp2
  go_loopw [5] (fun i wr => ∃ k : Nat, k ≤ n ∧ i = .int .i64 (k : Int) ∧ Off (fun _ => False) w wr) (fun i _ => n - (intOf i).toNat)
  case atStart => exact ⟨0, Nat.zero_le _, rfl, Off.refl _ _⟩
  case round =>
    obtain ⟨k, hk, rfl, hO⟩ := hrel
    by_cases hlt : k < n
    · obtain ⟨s, b, off, hx, hok, rfl, _, c0, c1, c2, c3, pa, pc, c4, hpc, hV⟩ := (HL1.out.off hO (fun _ _ _ c => c)).at hlt
      obtain ⟨s', b', off', hx', _, rfl, _, d0, d1, d2, d3, pa', pc', d4, hpc', hV'⟩ := (HL2.out.off hO (fun _ _ _ c => c)).at hlt
      rw [hx] at hx'
      cases hx'
      have hlb : b < wr.heap.size := World.block_lt_of_cell? wr _ c0
      have hlb' : b' < wr.heap.size := World.block_lt_of_cell? wr _ d0
      have hlb2 : b' < wr.heap.size + 1 := by omega
      have hxs := hok.2.2.2.2
      obtain ⟨m, hm⟩ : ∃ m, m = s.pl.length := ⟨_, rfl⟩
      rw [← hm] at c4 d4 hV hV'
      have hmm : m ≤ maxLen := hV.len.2.1
      unfold maxLen at hmm
      have w2 : IntKind.i64.wrap ((k : Int) + 1) = (k : Int) + 1 := by rw [IntKind.wrap_i64]; omega
      obtain ⟨fd, th, ix, ln, pl⟩ := s
      dsimp only at c0 c1 c2 c3 c4 d0 d1 d2 d3 d4 hV hV' hm hxs
      obtain ⟨W2, hW2⟩ : ∃ W2, W2 = (wr.alloc (.cells #[.int .i64 fd, .int .i64 th, .int .i64 ix, .int .i64 ln, .slice pa m pc] 69)).alloc (.cells #[.int .i64 fd, .int .i64 th, .int .i64 ix, .int .i64 ln, .slice pa' m pc'] 69) := ⟨_, rfl⟩
      have hO2 : Off (fun _ => False) wr W2 := by rw [hW2]; exact ((Off.refl _ wr).alloc _).alloc _
      have g1 : W2.heap[wr.heap.size]? = some (.cells #[.int .i64 fd, .int .i64 th, .int .i64 ix, .int .i64 ln, .slice pa m pc] 69 (0, 0)) := by rw [hW2]; exact heap_old' (heap_new' rfl _) _
      have g2 : W2.heap[wr.heap.size + 1]? = some (.cells #[.int .i64 fd, .int .i64 th, .int .i64 ix, .int .i64 ln, .slice pa' m pc'] 69 (0, 0)) := by rw [hW2]; exact heap_new' (by simp) _
      have HV := Lib.hid (hV.off hO2 (fun _ _ _ c => c))
      have HV' := Lib.hid (hV'.off hO2 (fun _ _ _ c => c))
      have HO2 := Lib.hid (hO.trans hO2 (fun _ _ c => c))
      have G1 := Lib.hid g1
      have G2 := Lib.hid g2
      have HM := Lib.hid hm
      have HXS := Lib.hid hxs
      have HW2 := Lib.hid hW2
      have e1 : (fd != fd) = false := by simp
      have e2 : (th != th) = false := by simp
      have e3 : (ix != ix) = false := by simp
      have e4 : (ln != ln) = false := by simp
      have e5 : ((m : Int) != (m : Int)) = false := by simp
      have hkn : (k : Int) < (n : Int) := by omega
      clear hx hO hok hV hV' hpc hpc' hm hxs hW2 hO2 g1 g2
      go_wp2
      rw [← HW2.out]
      go_loopw [8] (fun i w3 => ∃ j : Nat, j ≤ m ∧ i = .int .i64 (j : Int) ∧ Off (fun _ => False) W2 w3) (fun i _ => m - (intOf i).toNat)
      case atStart => exact ⟨0, Nat.zero_le _, rfl, Off.refl _ _⟩
      case round =>
        clear c0 c1 c2 c3 c4 d0 d1 d2 d3 d4 hlb hlb' hlb2
        rename_i w3 _ _ _ _ _ _ _ _ _ _ _ _ _ _ _ _ _ _ _ _
        obtain ⟨j, hj, rfl, hO⟩ := hrel
        have r4 := cell_of_heap (hO.heap G1.out (fun c => c)) 4
        have t4 := cell_of_heap (hO.heap G2.out (fun c => c)) 4
        by_cases hlt2 : j < m
        · obtain ⟨x, hx⟩ : ∃ x, pl[j]? = some x := ⟨_, List.getElem?_eq_getElem (by rw [← HM.out]; exact hlt2)⟩
          have hxr := HXS.out x (List.mem_of_getElem? hx)
          obtain ⟨eb, eo, rfl, _, p0, p1, p2, p3⟩ := (HV.out.off hO (fun _ _ _ c => c)).get hx
          obtain ⟨eb', eo', rfl, _, q0, q1, q2, q3⟩ := (HV'.out.off hO (fun _ _ _ c => c)).get hx
          have f1 := fun W => eqel_same x W
          have hjm : (j : Int) < (m : Int) := by omega
          have w3' : IntKind.i64.wrap ((j : Int) + 1) = (j : Int) + 1 := by rw [IntKind.wrap_i64]; omega
          have HO := Lib.hid hO
          clear hO hx hxr
          go_wp2
          go_quiet (fail)
          go_wp2
          go_roundw
          case rel => exact ⟨j + 1, by omega, by simp, HO.out.drewS _⟩
          case measure => simp [intOf]; omega
        · obtain rfl : j = m := by omega
          have hjj : ¬ (j : Int) < (j : Int) := by omega
          have HO := Lib.hid (HO2.out.trans hO (fun _ _ c => c))
          clear hO
          go_wp2
          go_roundw
          case rel => exact ⟨k + 1, by omega, by simp, HO.out⟩
          case measure => simp [intOf]; omega
    · obtain rfl : k = n := by omega
      have hkk : ¬ (k : Int) < (k : Int) := by omega
      have HO := Lib.hid hO
      clear hO
      go_wp2
      refine bodyPost_ret (results_tmp rfl _ _ _) rfl ?_
      exact ⟨rfl, HO.out⟩
end
section
open Go.RowKit
attribute [local go_sem ↓] Go.wp_at_zero Go.wp_at_succ
set_option maxRecDepth 100000
set_option maxHeartbeats 4000000
/-- A row of events of the call's own. -/
def RowE (B : Nat) (W : World) (v : Value) (l : List Ev) : Prop := W.ownsRow B 102 3 v l.length (flat l)
theorem RowE.shape {B : Nat} {W : World} {v : Value} {l : List Ev} (h : RowE B W v l) : ∃ a c, v = .slice a l.length c := by
  rcases h.2 with ⟨rfl, hn⟩ | ⟨g, cap, cur, rfl, _⟩
  · exact ⟨none, 0, by rw [hn]⟩
  · exact ⟨_, cap, rfl⟩
theorem app_ev1 {B bz : Nat} {W : World} {v : Value} {l : List Ev} {a b c : Int} (h1 : RowE B W v l) (hB : B ≤ W.heap.size) {T : TypeId} (hb : W.heap[bz]? = some (.cells #[.int .i64 a, .int .i64 b, .int .i64 c] T (0, 0))) (hk : l.length + 1 ≤ 100000) :
    ∃ v' w', (Builtin.append_ #[60, 60] 60 #[v, .slice (some ⟨bz, 0, none⟩) 1 1]).run Tryd.prog W = .ok v' w' ∧ RowE B w' v' (l ++ [(a, b, c)]) ∧ W.grownBy w' v.ownBlock := by
  obtain ⟨i0, hi, hz0, hz1, hz2⟩ := info_parts ev_info
  obtain ⟨v', w', hr, ho, hg, _, _⟩ := run_append_own_at (P := Tryd.prog) W B 60 60 102 i0 _ 3 24 Tryd.underlying60 hi hz0 hz1 hz2 rfl (by decide) v l.length _ h1 ⟨bz, 0, none⟩ 1 1 (flat [(a, b, c)]) rfl (fun j u hj => by
    rw [Addr.add_lit, Nat.zero_add, cell_of_heap hb]
    match j, hj with
    | 0, hj => simpa [flat] using hj
    | 1, hj => simpa [flat] using hj
    | 2, hj => simpa [flat] using hj
    | n + 3, hj => simp [flat] at hj) (flat_one _) (by unfold maxLen; omega) (by omega) hB
  refine ⟨v', w', hr, ?_, hg⟩
  unfold RowE
  rw [flat_append, List.length_append]
  exact ho
theorem app_evs {B B2 : Nat} {W : World} {v u : Value} {l m : List Ev} (h1 : RowE B W v l) (hB : B ≤ W.heap.size) (h2 : RowE B2 W u m) (hk : l.length + m.length ≤ 100000) :
    ∃ v' w', (Builtin.append_ #[60, 60] 60 #[v, u]).run Tryd.prog W = .ok v' w' ∧ RowE B w' v' (l ++ m) ∧ W.grownBy w' v.ownBlock := by
  obtain ⟨i0, hi, hz0, hz1, hz2⟩ := info_parts ev_info
  rcases Nat.eq_zero_or_pos m.length with h0 | hp
  · obtain rfl : m = [] := List.eq_nil_of_length_eq_zero h0
    obtain ⟨a, cap, rfl⟩ := h2.shape
    refine ⟨v, W, ?_, by rw [List.append_nil]; exact h1, ⟨rfl, rfl, rfl, Nat.le_refl _, fun _ _ _ => rfl⟩⟩
    have ht := Tryd.underlying60
    rcases h1.2 with ⟨rfl, hn⟩ | ⟨g, cp, cur, rfl, _, _, hnc, _⟩
    · cases a <;> simp [Builtin.append_, run_underlying ht, sizeOf, typeInfo, hi, Builtin.lenOf, Builtin.firstCells, loadCells, loadCellsFrom]
    · cases a <;> simp [Builtin.append_, run_underlying ht, sizeOf, typeInfo, hi, Builtin.lenOf, Builtin.firstCells, hnc, storeCells, loadCells, loadCellsFrom]
  · have h2' := h2
    rcases h2.2 with ⟨rfl, hn⟩ | ⟨g, cap, cur, rfl, _, _, hnc, _⟩
    · omega
    · obtain ⟨v', w', hr, ho, hg, _, _⟩ := run_append_own_at (P := Tryd.prog) W B 60 60 102 i0 _ 3 24 Tryd.underlying60 hi hz0 hz1 hz2 rfl (by decide) v l.length _ h1 ⟨g, 0, none⟩ m.length cap (flat m) (by rw [flat_length]) (fun j u hj => by
        rw [Addr.add_lit, Nat.zero_add]
        have hl := (List.getElem?_eq_some_iff.1 hj).1
        rw [flat_length] at hl
        exact (World.ownsRow.cellAt h2' j hl).trans hj) (flat_one _) (by unfold maxLen; omega) (by omega) hB
      refine ⟨v', w', hr, ?_, hg⟩
      unfold RowE
      rw [flat_append, List.length_append]
      exact ho
theorem own_baseE {w : World} {B B' size n : Nat} {T : TypeId} {v : Value} {xs : List Value} (h : w.ownsRow B T size v n xs) (hb : B' ≤ B) : w.ownsRow B' T size v n xs :=
  ⟨h.1, h.2.imp id (fun ⟨g, cap, cur, e, hB, r⟩ => ⟨g, cap, cur, e, Nat.le_trans hb hB, r⟩)⟩
/-- What an append onto a row of the call's own leaves. -/
theorem RowE.left {B pb : Nat} {w W w' : World} {v : Value} {l : List Ev} {o : Obj} (h : RowE B W v l) (hg : W.grownBy w' v.ownBlock) (hw : Off (fun _ => False) w W) (hB : w.heap.size ≤ B) (hp : W.heap[pb]? = some o) (hpb : pb < B) : w'.heap[pb]? = some o ∧ Off (fun _ => False) w w' := by
  have hgo : ∀ g, v.ownBlock = some g → B ≤ g := fun g e => (World.ownsRow.lt h g e).1
  refine ⟨(hg.block pb (heap_lt hp) (fun e => by have := hgo _ e.symm; omega)).trans hp, hw.grown hg (fun g e => ⟨fun h => by have := hgo g e; omega, fun o ho => ?_⟩)⟩
  rcases h.2 with ⟨e2, _⟩ | ⟨g2, cap, cur, e2, _, hgc, _⟩
  · rw [e2] at e; simp [Value.ownBlock] at e
  · rw [e2] at e; simp [Value.ownBlock] at e; subst e; rw [hgc] at ho; cases ho; rfl
theorem refevs_any (q : Pms) (hq : q.ok) (h0 : prN q = 0) (hl : q.sh.toNat * (1 + q.cn * (1 + q.T)) ≤ 100000) (w : World) :
    Calls Tryd.prog 27 #[q.val] w fun e w' => ∃ v, e = .returned v ∧ RowE w.heap.size w' v (dealEv q.cn q.T q.sh.toNat) ∧ Off (fun _ => False) w w' := by
  have hok := prN_ok h0
  have FN := Lib.hid (fun W => refcount_any q.ln hq.2.2.2 W)
  obtain ⟨n, hn⟩ : ∃ n, n = q.sh.toNat := ⟨_, rfl⟩
  obtain ⟨cn, hcn⟩ : ∃ cn, cn = q.cn := ⟨_, rfl⟩
  obtain ⟨T, hT⟩ : ∃ T, T = q.T := ⟨_, rfl⟩
  rw [← hn, ← hcn, ← hT] at hl ⊢
  rw [show cntI q.ln = cn from hcn.symm] at FN
  have hsh : q.sh = (n : Int) := by omega
  have hth : q.th = (T : Int) := by rw [hT]; unfold Pms.T; omega
  have hT255 : T ≤ 255 := by omega
  have FD := Lib.hid (fun W => down_any T (by omega) W)
  have hcn3 : cn ≤ 3000 := by rw [hcn]; unfold Pms.cn cntI cntN; split <;> omega
  obtain ⟨fd, th, sh, ln⟩ := q
  dsimp only at hsh hth FN
  subst hsh hth
  unfold Pms.val
  dsimp only
  have hs255 : n ≤ 255 := by have := hok.2.2.1; dsimp only at this; omega
  obtain ⟨w0, hw0⟩ : ∃ w0, w0 = w.alloc (.cells #[.int .i64 fd, .int .i64 (T : Int), .int .i64 (n : Int), .int .i64 ln] 23) := ⟨_, rfl⟩
  have hO0 : Off (fun _ => False) w w0 := by rw [hw0]; exact (Off.refl _ w).alloc _
  have g0 : w0.heap[w.heap.size]? = some (.cells #[.int .i64 fd, .int .i64 (T : Int), .int .i64 (n : Int), .int .i64 ln] 23 (0, 0)) := by rw [hw0]; exact heap_new' rfl _
  have HO0 := Lib.hid hO0
  have HG0 := Lib.hid g0
  have HW0 := Lib.hid hw0
  have HL := Lib.hid hl
  clear hO0 g0 hw0 hok hq h0 hn hcn hT hl
  go_enter Tryd.func27, Tryd.ntmps27
  go_wp2
  rw [← HW0.out]
  go_loopw [3, 4] (fun u j wr => ∃ k : Nat, k ≤ n ∧ j = .int .i64 ((k : Int) + 1) ∧ RowE (w.heap.size + 1) wr u (dealEv cn T k) ∧ wr.heap[w.heap.size]? = some (.cells #[.int .i64 fd, .int .i64 (T : Int), .int .i64 (n : Int), .int .i64 ln] 23 (0, 0)) ∧ Off (fun _ => False) w wr) (fun _ j _ => n + 1 - (intOf j).toNat)
  case atStart => exact ⟨0, Nat.zero_le _, rfl, World.ownsRow_nil _ _ _ _, HG0.out, HO0.out⟩
  case round =>
    obtain ⟨k, hk, rfl, hr, hg, hO⟩ := hrel
    have m2 := cell_of_heap hg 2
    have hlq := heap_lt hg
    by_cases hlt : k < n
    · obtain ⟨i, hi⟩ : ∃ i : Nat, i = k + 1 := ⟨_, rfl⟩
      have hii : (k : Int) + 1 = (i : Int) := by omega
      rw [hii]
      have hle2 : (i : Int) ≤ (n : Int) := by omega
      have w2 : IntKind.i64.wrap ((i : Int) + 1) = (i : Int) + 1 := by rw [IntKind.wrap_i64]; omega
      obtain ⟨W1, hW1⟩ : ∃ W1, W1 = wr.alloc (.cells #[.int .i64 5, .int .i64 (i : Int), .int .i64 0] 102) := ⟨_, rfl⟩
      have hlen := dealEv_len cn T
      have hmul : (k + 1) * (1 + cn * (1 + T)) ≤ n * (1 + cn * (1 + T)) := Nat.mul_le_mul_right _ (by omega)
      have HLk := Lib.hid (show ∀ j, j ≤ cn → (dealEv cn T k).length + 1 + j * (1 + T) ≤ 100000 from fun j hj => by
        have h1 := HL.out
        have h2 : j * (1 + T) ≤ cn * (1 + T) := Nat.mul_le_mul_right _ hj
        rw [hlen, Nat.succ_mul] at *
        omega)
      have hr1 : RowE (w.heap.size + 1) W1 u3 (dealEv cn T k) := by rw [hW1]; exact hr.alloc _
      obtain ⟨v1, w1, hrun, hr2, hgr⟩ := app_ev1 hr1 (by rw [hW1]; simp; omega) (show W1.heap[wr.heap.size]? = some (.cells #[.int .i64 5, .int .i64 (i : Int), .int .i64 0] 102 (0, 0)) by rw [hW1]; exact heap_new' rfl _) (by have := HLk.out 0 (Nat.zero_le _); omega)
      obtain ⟨hg2, hO2⟩ := hr1.left hgr (by rw [hW1]; exact hO.alloc _) (Nat.le_succ _) (by rw [hW1]; exact heap_old' hg _) (Nat.lt_succ_self _)
      rw [hW1] at hrun
      have HRun := Lib.hid hrun
      have HR := Lib.hid hr2
      have HG := Lib.hid hg2
      have HO := Lib.hid hO2
      have HI := Lib.hid hi
      have HII := Lib.hid hii
      have HKN := Lib.hid (show k < n ∧ n ≤ 255 ∧ cn ≤ 3000 from ⟨hlt, hs255, hcn3⟩)
      clear hr hg hO hrun hr2 hgr hg2 hO2 hr1 hW1 hi hii hlt hk hlen hmul
      go_wp2_with first | (at_builtin; refine Go.Lib.wpList_append_run _ rfl _ _ _ _ rfl _ _ rfl rfl _ _ HRun.out ?_) | fail
      clear m2 hlq
      go_loopw [3, 5] (fun u j wr => ∃ c : Nat, c ≤ cn ∧ j = .int .i64 (c : Int) ∧ RowE (w.heap.size + 1) wr u (dealEv cn T k ++ (((5 : Int), (i : Int), (0 : Int)) :: chEv T c)) ∧ wr.heap[w.heap.size]? = some (.cells #[.int .i64 fd, .int .i64 (T : Int), .int .i64 (n : Int), .int .i64 ln] 23 (0, 0)) ∧ Off (fun _ => False) w wr) (fun _ j _ => cn - (intOf j).toNat)
      case atStart => exact ⟨0, Nat.zero_le _, rfl, HR.out, HG.out, HO.out⟩
      case round =>
        clear HR HG HO HRun
        obtain ⟨c, hc, rfl, hr, hg, hO⟩ := hrel
        have m3 := cell_of_heap hg 3
        have m1 := cell_of_heap hg 1
        have hlq := heap_lt hg
        by_cases hlt2 : c < cn
        · have hcc : (c : Int) < (cn : Int) := by omega
          have w3 : IntKind.i64.wrap ((c : Int) + 1) = (c : Int) + 1 := by rw [IntKind.wrap_i64]; have := HKN.out; omega
          have HG := Lib.hid hg
          have HO := Lib.hid hO
          have HR := Lib.hid hr
          clear hr hg hO
          go_wp2_with fail
          refine (FN.out _).mono ?_
          rintro e ua ⟨rfl, hOa⟩
          have HG := Lib.hid (hOa.heap HG.out (fun c => c))
          have HO := Lib.hid (HO.out.trans hOa (fun _ _ c => c))
          have hra := own_off HR.out hOa
          clear hOa m3 m1 hlq HR
          obtain ⟨W1, hW1⟩ : ∃ W1, W1 = ua.alloc (.cells #[.int .i64 4, .int .i64 (c : Int), .int .i64 0] 102) := ⟨_, rfl⟩
          have hr1 : RowE (w.heap.size + 1) W1 u3 (dealEv cn T k ++ (((5 : Int), (i : Int), (0 : Int)) :: chEv T c)) := by rw [hW1]; exact hra.alloc _
          have hb := HLk.out (c + 1) (by omega)
          rw [Nat.succ_mul] at hb
          obtain ⟨v1, w1, hrun, hr2, hgr⟩ := app_ev1 hr1 (by rw [hW1]; have := heap_lt HG.out; simp; omega) (show W1.heap[ua.heap.size]? = some (.cells #[.int .i64 4, .int .i64 (c : Int), .int .i64 0] 102 (0, 0)) by rw [hW1]; exact heap_new' rfl _) (by rw [List.length_append, List.length_cons, chEv_len]; omega)
          obtain ⟨hg2, hO2⟩ := hr1.left hgr (by rw [hW1]; exact HO.out.alloc _) (Nat.le_succ _) (by rw [hW1]; exact heap_old' HG.out _) (Nat.lt_succ_self _)
          rw [hW1] at hrun
          have HRun := Lib.hid hrun
          have HG := Lib.hid hg2
          have HO := Lib.hid hO2
          have HR := Lib.hid hr2
          have HB := Lib.hid hb
          clear hrun hg2 hO2 hr2 hgr hr1 hra hW1 hb
          have m1 := cell_of_heap HG.out 1
          have hlq := heap_lt HG.out
          go_wp2_with first | (at_builtin; refine Go.Lib.wpList_append_run _ rfl _ _ _ _ rfl _ _ rfl rfl _ _ HRun.out ?_) | fail
          refine (FD.out _).mono ?_
          rintro e ub ⟨vd, rfl, hd, hOb⟩
          have hd' : RowE w1.heap.size ub vd (coefD T (List.range T)) := by unfold RowE; rw [coefD_len]; exact hd
          have hrb : RowE (w.heap.size + 1) ub v1 _ := own_off HR.out hOb
          obtain ⟨v2, w2', hrun, hr2, hgr⟩ := app_evs hrb (by have := Nat.lt_of_lt_of_le hlq hOb.size; omega) hd' (by rw [coefD_len, List.length_append, List.length_append, List.length_cons, chEv_len, List.length_singleton]; have := HB.out; omega)
          obtain ⟨hg2, hO2⟩ := RowE.left hrb hgr (HO.out.trans hOb (fun _ _ c => c)) (Nat.le_succ _) (hOb.heap HG.out (fun c => c)) (Nat.lt_succ_self _)
          have HRun2 := Lib.hid hrun
          have HG2 := Lib.hid hg2
          have HO2 := Lib.hid hO2
          have HR2 := Lib.hid (show RowE (w.heap.size + 1) w2' v2 (dealEv cn T k ++ (((5 : Int), (i : Int), (0 : Int)) :: chEv T (c + 1))) by
            rw [chEv_succ, show ((4 : Int), (c : Int), (0 : Int)) :: coefD T (List.range T) = [((4 : Int), (c : Int), (0 : Int))] ++ coefD T (List.range T) from rfl, ← List.append_assoc (chEv T c), ← List.cons_append, ← List.cons_append, ← List.append_assoc, ← List.append_assoc]
            exact hr2)
          clear m1 hlq hd hOb hd' hrb hrun hr2 hgr hg2 hO2 HRun
          go_wp2_with first | (at_builtin; refine Go.Lib.wpList_append_run _ rfl _ _ _ _ rfl _ _ rfl rfl _ _ HRun2.out ?_) | fail
          go_roundw
          case rel => exact ⟨c + 1, by omega, by simp, HR2.out, HG2.out, HO2.out⟩
          case measure => simp [intOf]; omega
        · obtain rfl : c = cn := by omega
          have hcc : ¬ (c : Int) < (c : Int) := by omega
          have HG := Lib.hid hg
          have HO := Lib.hid hO
          have HR := Lib.hid hr
          clear hr hg hO hlt2
          go_wp2_with fail
          refine (FN.out _).mono ?_
          rintro e ua ⟨rfl, hOa⟩
          have HG := Lib.hid (hOa.heap HG.out (fun c => c))
          have HO := Lib.hid (HO.out.trans hOa (fun _ _ c => c))
          have HR := Lib.hid (show RowE (w.heap.size + 1) ua u3 (dealEv c T (k + 1)) by rw [dealEv_succ, ← HI.out]; exact own_off HR.out hOa)
          clear hOa m3 m1 hlq
          go_wp2
          go_roundw
          case rel => exact ⟨k + 1, by have := HKN.out; omega, by have := HI.out; congr 1; omega, HR.out, HG.out, HO.out⟩
          case measure => simp [intOf]; have := HKN.out; have := HI.out; omega
    · obtain rfl : n = k := by omega
      have hle2 : ¬ (n : Int) + 1 ≤ (n : Int) := by omega
      have HR := Lib.hid hr
      have HO := Lib.hid hO
      clear hr hO hlt hk hg
      go_wp2
      exact bodyPost_ret (v := u3) (by simp [results, Tryd.results27, go_sem]) rfl ⟨_, rfl, own_baseE HR.out (Nat.le_succ _), HO.out⟩
end
section
open Go.RowKit
attribute [local go_sem ↓] Go.wp_at_zero Go.wp_at_succ
set_option maxRecDepth 100000
set_option maxHeartbeats 4000000
theorem Off.drewQ {S : Nat → Prop} {a w : World} (h : Off S a w) (q : Nat) : Off S a (w.drewN q) := ⟨h.os, h.tape, h.output, h.size, h.block, h.others⟩
theorem eqel_self (x : Nat) (W : World) : (Op.equalIn 10000 66 (.agg #[.int .u64 (wd x 0 : Int), .int .u64 (wd x 1 : Int), .int .u64 (wd x 2 : Int), .int .u64 (wd x 3 : Int)]) (.agg #[.int .u64 (wd x 0 : Int), .int .u64 (wd x 1 : Int), .int .u64 (wd x 2 : Int), .int .u64 (wd x 3 : Int)])).run Tryd.prog W = .ok true W := equalIn_elem_same x W
theorem same16_any (id : Int) (p : Nat) (hp : p = modN id) (cs : List (List Nat)) (hk : cs ≠ [] → 1 < p ∧ p < R256) (hx : ∀ c ∈ cs, ∀ x ∈ c, x < R256) (va vb : Value) (w : World) (hA : LLs w va (cs.map (·.map (fm p)))) (hB : LLs w vb cs) :
    Calls Tryd.prog 13 #[.int .i64 id, va, vb] w fun e w' => e = .returned (.bool true) ∧ Off (fun _ => False) w w' := by
  have FM := Lib.hid (fun W => mod_modulus id W)
  rw [← hp] at FM
  obtain ⟨a1, c1, rfl, hl1, _⟩ := (show LLs w va (cs.map (·.map (fm p))) from hA)
  obtain ⟨a2, c2, rfl, hl2, _⟩ := (show LLs w vb cs from hB)
  obtain ⟨m, hm⟩ : ∃ m, m = cs.length := ⟨_, rfl⟩
  rw [List.length_map] at hA hl1 ⊢
  rw [← hm] at hA hB hl1 hl2 ⊢
  have e0 : ((m : Int) != (m : Int)) = false := by simp
  have HA := Lib.hid hA
  have HB := Lib.hid hB
  have HM := Lib.hid hm
  have HK := Lib.hid hk
  have HX := Lib.hid hx
  clear hA hB hm hk hx hp
  go_enter Tryd.func13, Tryd.ntmps13
  go_wp2_with fail
  refine (FM.out _).mono ?_
  rintro e u1 ⟨rfl, hO⟩
  obtain ⟨w1, hw1⟩ : ∃ w1, w1 = u1.alloc (.cells #[.int .u64 (wd p 0 : Int), .int .u64 (wd p 1 : Int), .int .u64 (wd p 2 : Int), .int .u64 (wd p 3 : Int)] 51) := ⟨_, rfl⟩
  have HO1 := Lib.hid (show Off (fun _ => False) w w1 by rw [hw1]; exact hO.alloc _)
  have HG1 := Lib.hid (show w1.heap[u1.heap.size]? = some (.cells #[.int .u64 (wd p 0 : Int), .int .u64 (wd p 1 : Int), .int .u64 (wd p 2 : Int), .int .u64 (wd p 3 : Int)] 51 (0, 0)) by rw [hw1]; exact heap_new' rfl _)
  have HW1 := Lib.hid hw1
  obtain ⟨pb, hpb⟩ : ∃ pb, pb = u1.heap.size := ⟨_, rfl⟩
  have HPB := Lib.hid hpb
  rw [← hpb] at HG1
  clear hO hw1 hpb
  go_wp2
  rw [← HW1.out, ← HPB.out]
  go_loopw [20] (fun i wr => ∃ k : Nat, k ≤ m ∧ i = .int .i64 (k : Int) ∧ Off (fun _ => False) w1 wr) (fun i _ => m - (intOf i).toNat)
  case atStart => exact ⟨0, Nat.zero_le _, rfl, Off.refl _ _⟩
  case round =>
    obtain ⟨k, hk, rfl, hO⟩ := hrel
    by_cases hlt : k < m
    · obtain ⟨c, hc⟩ : ∃ c, cs[k]? = some c := ⟨_, List.getElem?_eq_getElem (by rw [← HM.out]; exact hlt)⟩
      have hp1 := HK.out (fun e => by rw [e] at hc; simp at hc)
      have hcx := HX.out c (List.mem_of_getElem? hc)
      have hO' := HO1.out.trans hO (fun _ _ c => c)
      obtain ⟨b2, o2, d2, f2, rfl, _, y0, hl2'⟩ := (HB.out.off hO').get hc
      obtain ⟨b1, o1, d1, f1, rfl, _, x0, hl1'⟩ := (HA.out.off hO').get (show (cs.map (·.map (fm p)))[k]? = some (c.map (fm p)) by rw [List.getElem?_map, hc]; rfl)
      rw [List.length_map] at x0 hl1'
      obtain ⟨n, hn⟩ : ∃ n, n = c.length := ⟨_, rfl⟩
      rw [← hn] at x0 hl1' y0 hl2'
      have hn5 : n ≤ 100000 := (hl2'.len).2
      have hkm : (k : Int) < (m : Int) := by omega
      have w2 : IntKind.i64.wrap ((k : Int) + 1) = (k : Int) + 1 := by rw [IntKind.wrap_i64]; omega
      have e1 : ((n : Int) != (n : Int)) = false := by simp
      have X0 := Lib.hid x0
      have Y0 := Lib.hid y0
      have HL1 := Lib.hid (Ls.of hl1')
      have HL2 := Lib.hid (Ls.of hl2')
      have HN := Lib.hid hn
      have HP1 := Lib.hid hp1
      have HCX := Lib.hid hcx
      have HO := Lib.hid hO
      clear hO hO' hc hn hp1 hcx hl1' hl2'
      go_wp2
      go_quiet (fail)
      obtain ⟨wq, hwq⟩ : ∃ wq, wq = wr.drewN nq := ⟨_, rfl⟩
      have hOq : Off (fun _ => False) wr wq := by rw [hwq]; exact (Off.refl _ wr).drewQ nq
      rw [← hwq]
      have x0 := hOq.cell X0.out (fun c => c)
      have y0 := hOq.cell Y0.out (fun c => c)
      have X0 := Lib.hid x0
      have Y0 := Lib.hid y0
      have HL1 := Lib.hid (HL1.out.off hOq)
      have HL2 := Lib.hid (HL2.out.off hOq)
      have HG := Lib.hid (hOq.heap (HO.out.heap HG1.out (fun c => c)) (fun c => c))
      have HO := Lib.hid (HO.out.trans hOq (fun _ _ c => c))
      clear hwq hOq
      go_wp2
      go_loopw [39] (fun i w3 => ∃ j : Nat, j ≤ n ∧ i = .int .i64 (j : Int) ∧ Off (fun _ => False) wq w3) (fun i _ => n - (intOf i).toNat)
      case atStart => exact ⟨0, Nat.zero_le _, rfl, Off.refl _ _⟩
      case round =>
        clear x0 y0
        obtain ⟨j, hj, rfl, hO⟩ := hrel
        by_cases hlt2 : j < n
        · obtain ⟨x, hx⟩ : ∃ x, c[j]? = some x := ⟨_, List.getElem?_eq_getElem (by rw [← HN.out]; exact hlt2)⟩
          have hxr := HCX.out x (List.mem_of_getElem? hx)
          obtain ⟨z, hz⟩ : ∃ z, z = fm p x := ⟨_, rfl⟩
          have FF := Lib.hid (fun W => form_any p x HP1.out.2 HP1.out.1 hxr W)
          rw [← hz] at FF
          obtain ⟨lb, lo, rfl, _, q0, q1, q2, q3⟩ := (HL2.out.off hO).get hx
          obtain ⟨kb, ko, rfl, _, r0, r1, r2, r3⟩ := (HL1.out.off hO).get (show (c.map (fm p))[j]? = some z by rw [List.getElem?_map, hx, hz]; rfl)
          have hlb : lb < wr.heap.size := World.block_lt_of_cell? wr _ q0
          have hjn : (j : Int) < (n : Int) := by omega
          have w3' : IntKind.i64.wrap ((j : Int) + 1) = (j : Int) + 1 := by rw [IntKind.wrap_i64]; omega
          obtain ⟨wa, hwa⟩ : ∃ wa, wa = wr.alloc (.cells #[.int .u64 (wd x 0 : Int), .int .u64 (wd x 1 : Int), .int .u64 (wd x 2 : Int), .int .u64 (wd x 3 : Int)] 51) := ⟨_, rfl⟩
          have hOa : Off (fun _ => False) wr wa := by rw [hwa]; exact (Off.refl _ wr).alloc _
          have ga : wa.heap[wr.heap.size]? = some (.cells #[.int .u64 (wd x 0 : Int), .int .u64 (wd x 1 : Int), .int .u64 (wd x 2 : Int), .int .u64 (wd x 3 : Int)] 51 (0, 0)) := by rw [hwa]; exact heap_new' rfl _
          have gp := hOa.heap (hO.heap HG.out (fun c => c)) (fun c => c)
          have s0 := hOa.cell r0 (fun c => c)
          have s1 := hOa.cell r1 (fun c => c)
          have s2 := hOa.cell r2 (fun c => c)
          have s3 := hOa.cell r3 (fun c => c)
          have x0 := hOa.cell (hO.cell X0.out (fun c => c)) (fun c => c)
          have f1 := fun W => eqel_self z W
          have HWa := Lib.hid hwa
          have HOa := Lib.hid (hO.trans hOa (fun _ _ c => c))
          obtain ⟨p0, p1, p2, p3⟩ := cells4 gp
          obtain ⟨t0, t1, t2, t3⟩ := cells4 ga
          clear hx hxr hz r0 r1 r2 r3 hwa hO hOa ga gp
          go_upto_region 12 with fail
          rw [← HWa.out]
          clear q0 q1 q2 q3 hlb
          refine wp_region_off (by kernel_rfl) (by kernel_rfl) (fun T _ g hg => ?_)
          have y0 := fun t => hg.cell x0 t
          have y1 := fun t => hg.cell s0 t
          have y2 := fun t => hg.cell s1 t
          have y3 := fun t => hg.cell s2 t
          have y4 := fun t => hg.cell s3 t
          have y5 := fun t => hg.cell p0 t
          have y6 := fun t => hg.cell p1 t
          have y7 := fun t => hg.cell p2 t
          have y8 := fun t => hg.cell p3 t
          have z0 := fun t => hg.cell t0 t
          have z1 := fun t => hg.cell t1 t
          have z2 := fun t => hg.cell t2 t
          have z3 := fun t => hg.cell t3 t
          have HGg := Lib.hid hg
          clear hg x0 s0 s1 s2 s3 p0 p1 p2 p3 t0 t1 t2 t3
          repeat (go_big_quiet_step (exact HGg.out.call (FF.out _)))
          refine wpQuiet_nil ?_
          rintro wc ⟨t, rfl⟩
          have HOf := Lib.hid (HOa.out.trans (HGg.out.off t) (fun _ _ c => c))
          clear y0 y1 y2 y3 y4 y5 y6 y7 y8 z0 z1 z2 z3
          go_wp2
          go_roundw
          case rel => exact ⟨j + 1, by omega, by simp, HOf.out⟩
          case measure => simp [intOf]; omega
        · obtain rfl : j = n := by omega
          have hjj : ¬ (j : Int) < (j : Int) := by omega
          have HOf := Lib.hid (HO.out.trans hO (fun _ _ c => c))
          clear hO
          go_wp2
          go_roundw
          case rel => exact ⟨k + 1, by omega, by simp, HOf.out⟩
          case measure => simp [intOf]; omega
    · obtain rfl : k = m := by omega
      have hkk : ¬ (k : Int) < (k : Int) := by omega
      have HOf := Lib.hid (HO1.out.trans hO (fun _ _ c => c))
      clear hO
      go_wp2
      refine bodyPost_ret (results_tmp rfl _ _ _) rfl ?_
      exact ⟨rfl, HOf.out⟩
end
section
open Go.RowKit
attribute [local go_sem ↓] Go.wp_at_zero Go.wp_at_succ
set_option maxRecDepth 100000
set_option maxHeartbeats 4000000
/-- The values of the polynomials. -/
def polsV (q : Pms) (p : Nat) (sec rnd : List Nat) (k : Nat) : List (List Nat) := (List.range k).map fun i => (polN q sec rnd i).map (· % p)
theorem polsV_succ (q : Pms) (p : Nat) (sec rnd : List Nat) (k : Nat) : polsV q p sec rnd (k + 1) = polsV q p sec rnd k ++ [(polN q sec rnd k).map (· % p)] := by simp [polsV, List.range_succ]
theorem polsV_length (q : Pms) (p : Nat) (sec rnd : List Nat) (k : Nat) : (polsV q p sec rnd k).length = k := by simp [polsV]
theorem pol_bound {id : Int} (h : Kn id) : 256 ^ 31 < modN id := by
  rcases h with rfl | rfl
  · decide
  · decide
theorem own_baseP {w : World} {B B' size n : Nat} {T : TypeId} {v : Value} {xs : List Value} (h : w.ownsRow B T size v n xs) (hb : B' ≤ B) : w.ownsRow B' T size v n xs :=
  ⟨h.1, h.2.imp id (fun ⟨g, cap, cur, e, hB, r⟩ => ⟨g, cap, cur, e, Nat.le_trans hb hB, r⟩)⟩
theorem i64_nat {n : Nat} (h : n ≤ 1000) : (Lit.int .i64 (n : Int)).wf = true := WalkArith.wf_i64 (by omega)
theorem refpols_any (q : Pms) (hq : q.ok) (a1 a2 : Option Addr) (m1 m2 c1 c2 : Nat) (sec rnd : List Nat) (S : Nat → Prop) (w : World) (hS : ∀ k, S k → k < w.heap.size) (hm1 : m1 = sec.length) (hm2 : m2 = rnd.length) (hc1 : m1 ≤ c1) (hc2 : m2 ≤ c2) (hs1 : Small sec) (hs2 : Small rnd) (hl1 : m1 ≤ 5000) (hl2 : m2 ≤ 100000)
    (h1 : BsAt w a1 sec S) (h2 : BsAt w a2 rnd S) :
    Calls Tryd.prog 12 #[q.val, .slice a1 m1 c1, .slice a2 m2 c2] w fun e w' => ∃ v, e = .returned (.tuple #[v, .int .i64 (polE q sec rnd : Int)]) ∧ LLs w' v (if polE q sec rnd = 0 then polsV q (modN q.fd) sec rnd q.cn else []) ∧ Off (fun _ => False) w w' := by
  have FC := Lib.hid (fun W => refprm_any q W)
  have FR := Lib.hid (fun W => refrandom_any q hq W)
  have FM := Lib.hid (fun W => mod_modulus q.fd W)
  obtain ⟨c, hc⟩ : ∃ c, c = prN q := ⟨_, rfl⟩
  obtain ⟨r, hr⟩ : ∃ r, r = rndN q := ⟨_, rfl⟩
  rw [← hc] at FC
  rw [← hr] at FR
  have hE : polE q sec rnd = if c ≠ 0 then c else if (m1 : Int) ≠ q.ln then 8 else if (m2 : Int) < r then 7 else 0 := by unfold polE; rw [hc, hr, hm1, hm2]
  by_cases h0 : c = 0
  · by_cases hln : (m1 : Int) = q.ln
    · by_cases hrn : (m2 : Int) < r
      · have e1 : decide ((m2 : Int) < r) = true := decide_eq_true hrn
        rw [hE, if_neg (by simp [h0]), if_neg (by simp [hln]), if_pos hrn, if_neg (by decide)]
        subst h0
        obtain ⟨fd, th, sh, ln⟩ := q
        dsimp only at hln
        have e2 : ((m1 : Int) != ln) = false := by simp [hln]
        clear hln
        unfold Pms.val at FC FR ⊢
        dsimp only at FC FR ⊢
        clear hE hc hr hq h1 h2 hs1 hs2 hm1 hm2 FM hS
        go_enter Tryd.func12, Tryd.ntmps12
        go_wp2_with fail
        refine (FC.out _).mono ?_
        rintro e u1 ⟨rfl, hO⟩
        have hO1 := ((Off.refl (fun _ => False) w).alloc (.cells #[.int .i64 fd, .int .i64 th, .int .i64 sh, .int .i64 ln] 23)).trans hO (fun _ _ c => c)
        have g1 := hO.heap (heap_new' (w := w) rfl (.cells #[.int .i64 fd, .int .i64 th, .int .i64 sh, .int .i64 ln] 23)) (fun c => c)
        have HO1 := Lib.hid hO1
        have HG1 := Lib.hid g1
        clear hO hO1
        have p0 := cell_of_heap HG1.out 0
        have p1 := cell_of_heap HG1.out 1
        have p2 := cell_of_heap HG1.out 2
        have p3 := cell_of_heap HG1.out 3
        have lp := heap_lt HG1.out
        clear g1
        go_wp2_with fail
        refine (FR.out _).mono ?_
        rintro e u2 ⟨rfl, hO⟩
        have HO2 := Lib.hid (HO1.out.trans hO (fun _ _ c => c))
        clear hO p0 p1 p2 p3 lp
        go_wp2
        exact bodyPost_ret (v := .tuple #[.slice none 0 0, .int .i64 7]) (by simp [results, Tryd.results12, go_sem]) rfl ⟨_, rfl, LLs.nil _, HO2.out⟩
      · have hok := prN_ok (hc.symm.trans h0)
        have hp0 : polE q sec rnd = 0 := by rw [hE, if_neg (by simp [h0]), if_neg (by simp [hln]), if_neg hrn]
        have hby := (polE_ok hp0).2.2
        rw [hp0, if_pos rfl]
        have hpos := modN_pos hok.1
        have hpb := pol_bound hok.1
        have hcn : q.cn = cntN m1 := by rw [hm1]; exact cntI_len (by rw [← hm1]; exact hln) hok.2.2.2.2.2.2
        obtain ⟨p, hp⟩ : ∃ p, p = modN q.fd := ⟨_, rfl⟩
        rw [← hp] at FM hpos hpb ⊢
        obtain ⟨cn, hcn2⟩ : ∃ cn, cn = q.cn := ⟨_, rfl⟩
        obtain ⟨n1, hn1⟩ : ∃ n1, n1 = q.T - 1 := ⟨_, rfl⟩
        have hth : q.th = (n1 : Int) + 1 := by rw [hn1]; unfold Pms.T; omega
        have hn255 : n1 ≤ 255 := by omega
        rw [← hcn2, ← hn1] at hby
        rw [← hcn2] at hcn ⊢
        have hcn7 : cn ≤ 200 := by rw [hcn]; unfold cntN; omega
        have FS := Lib.hid (fun W (h : Off (fun _ => False) w W) => refsplit_any a1 m1 c1 sec S W (h1.off h (fun _ _ _ c => c)) hm1 hc1 hs1 (by omega))
        rw [← hcn] at FS
        have HPV := Lib.hid (show ∀ k, (polN q sec rnd k).map (· % p) = numB (chk sec k) :: (elsK (rnd.drop (64 * (n1 * k))) n1).map (· % p) from fun k => by
          unfold polN
          rw [← hn1, List.map_cons]
          congr 1
          exact Nat.mod_eq_of_lt (Nat.lt_trans (chk_num_lt hs1 k) hpb))
        have HSV := Lib.hid (show ∀ k, k < cn → (splitV sec)[k]? = some (numB (chk sec k)) from fun k hk => by unfold splitV; rw [← hm1, ← hcn]; exact splitK_get sec hk)
        have hsvl : (splitV sec).length = cn := by rw [splitV_length, ← hm1, hcn]
        have HX := Lib.hid (show ∀ k, numB (chk sec k) < R256 from fun k => Nat.lt_trans (Nat.lt_trans (chk_num_lt hs1 k) hpb) hpos.2)
        have hq1 : q.fd = q.fd := rfl
        have e1 : decide ((m2 : Int) < r) = false := decide_eq_false hrn
        subst h0
        obtain ⟨fd, th, sh, ln⟩ := q
        dsimp only at hln hth FM
        have e2 : ((m1 : Int) != ln) = false := by simp [hln]
        unfold Pms.val at FC FR ⊢
        dsimp only at FC FR ⊢
        have w1' : IntKind.i64.wrap (th - 1) = (n1 : Int) := by rw [IntKind.wrap_i64]; omega
        have HS := Lib.hid hS
        have HS2 := Lib.hid hs2
        have H2 := Lib.hid h2
        have HM2 := Lib.hid hm2
        have HC2 := Lib.hid hc2
        have HBY := Lib.hid hby
        have HPos := Lib.hid hpos
        have HSVL := Lib.hid hsvl
        clear hE hc hr hq h1 h2 hs1 hs2 hm1 hm2 hS hok hp0 hby hpb hp hcn hcn2 hn1 hq1 hln hth hrn hpos hsvl hc1 hc2
        go_enter Tryd.func12, Tryd.ntmps12
        go_wp2_with fail
        refine (FC.out _).mono ?_
        rintro e u1 ⟨rfl, hO⟩
        have hO1 := ((Off.refl (fun _ => False) w).alloc (.cells #[.int .i64 fd, .int .i64 th, .int .i64 sh, .int .i64 ln] 23)).trans hO (fun _ _ c => c)
        have g1 := hO.heap (heap_new' (w := w) rfl (.cells #[.int .i64 fd, .int .i64 th, .int .i64 sh, .int .i64 ln] 23)) (fun c => c)
        have HO1 := Lib.hid hO1
        have HG1 := Lib.hid g1
        clear hO hO1
        have p0 := cell_of_heap HG1.out 0
        have p1 := cell_of_heap HG1.out 1
        have p2 := cell_of_heap HG1.out 2
        have p3 := cell_of_heap HG1.out 3
        have lp := heap_lt HG1.out
        clear g1
        go_wp2_with fail
        refine (FR.out _).mono ?_
        rintro e u2 ⟨rfl, hO⟩
        have HO2 := Lib.hid (HO1.out.trans hO (fun _ _ c => c))
        have HG2 := Lib.hid (hO.heap HG1.out (fun c => c))
        clear hO p0 p1 p2 p3 lp
        go_wp2_with fail
        refine (FS.out _ HO2.out).mono ?_
        rintro e u3 ⟨al, cl, rfl, hown, hO⟩
        have HO3 := Lib.hid (HO2.out.trans hO (fun _ _ c => c))
        have HG3 := Lib.hid (hO.heap HG2.out (fun c => c))
        have HLs3 := Lib.hid (show LsAt u3 (.slice al cn cl) (splitV sec) (fun k => k < u3.heap.size) from (ls_of_own hown HSVL.out.symm (by omega)).mono (fun k hk _ => hk))
        clear hO hown
        obtain ⟨w1, hw1⟩ : ∃ w1, w1 = u3.alloc (.cells #[.slice a2 m2 c2] 85) := ⟨_, rfl⟩
        have hA : Off (fun _ => False) u3 w1 := by rw [hw1]; exact (Off.refl _ u3).alloc _
        obtain ⟨sb, hsb⟩ : ∃ sb, sb = u3.heap.size := ⟨_, rfl⟩
        have gs : w1.heap[sb]? = some (.cells #[.slice a2 m2 c2] 85 (0, 0)) := by rw [hw1]; exact heap_new' hsb.symm _
        have hO1' : Off (fun _ => False) w w1 := HO3.out.trans hA (fun _ _ c => c)
        have hR1 : RefP w1 sb rnd S := by
          have h2 := H2.out.off hO1' (fun _ _ _ c => c)
          exact ⟨a2, c2, by rw [← HM2.out]; exact gs, by rw [← HM2.out]; exact HC2.out, h2⟩
        have HLs := Lib.hid (show LsAt w1 (.slice al cn cl) (splitV sec) (fun k => k < sb) by rw [hsb]; exact HLs3.out.off hA (fun _ _ _ c => c))
        have HR1 := Lib.hid hR1
        have HG := Lib.hid (hA.heap HG3.out (fun c => c))
        have HO4 := Lib.hid hO1'
        have HSB := Lib.hid (show w.heap.size < sb ∧ sb < w1.heap.size from ⟨by rw [hsb]; exact heap_lt HG3.out, heap_lt gs⟩)
        have HW1 := Lib.hid hw1
        have HSb := Lib.hid hsb
        clear hA gs hO1' hR1 hw1 hsb HLs3 HG3 HG2 HG1 HO1 HO2 HO3
        go_wp2
        rw [← HW1.out, ← HSb.out]
        go_loopw [12, 13] (fun v j wr => ∃ k : Nat, k ≤ cn ∧ j = .int .i64 (k : Int) ∧ RowLL 51 46 w1.heap.size wr v (polsV ⟨fd, th, sh, ln⟩ p sec rnd k) ∧ RefP wr sb (rnd.drop (64 * (n1 * k))) S ∧ Off (fun j => j = sb) w1 wr) (fun _ j _ => cn - (intOf j).toNat)
        case atStart => exact ⟨0, Nat.zero_le _, rfl, RowLL.nil _ _ _ _, by simpa using HR1.out, Off.refl _ _⟩
        case round =>
          obtain ⟨k, hk, rfl, hr, hs, hO⟩ := hrel
          obtain ⟨wq, hwq⟩ : ∃ wq, wq = wr := ⟨_, rfl⟩
          subst hwq
          by_cases hlt : k < cn
          · obtain ⟨es, hes⟩ : ∃ es, es = (elsK (rnd.drop (64 * (n1 * k))) n1).map (· % p) := ⟨_, rfl⟩
            obtain ⟨rest, hrest⟩ : ∃ rest, rest = rnd.drop (64 * (n1 * (k + 1))) := ⟨_, rfl⟩
            have hlen : 64 * n1 ≤ (rnd.drop (64 * (n1 * k))).length := by
              rw [List.length_drop]
              have h1 := HBY.out
              have h2 : n1 * (k + 1) ≤ n1 * cn := Nat.mul_le_mul_left _ hlt
              rw [Nat.mul_succ] at h2
              omega
            have FE := Lib.hid (fun W (h : Off (fun _ => False) wq W) => by
              have h3 := refels_any p HPos.out.2 HPos.out.1 sb (rnd.drop (64 * (n1 * k))) S (n1 : Int) (i64_nat (by omega)) W (hs.keep h) (fun k' hk' e => by have := HS.out k' hk'; have := HSB.out; omega) (fun k' hk' => by have := HS.out k' hk'; have := HSB.out; have := hO.size; have := h.size; omega) (HS2.out.drop _) (by rw [List.length_drop, ← HM2.out]; omega)
              rw [elemsV_ok hlen, List.drop_drop, show 64 * (n1 * k) + 64 * n1 = 64 * (n1 * (k + 1)) by rw [Nat.mul_succ]; omega, ← hrest, ← hes] at h3
              exact h3)
            have HG := Lib.hid (hO.heap HG.out (fun e => by have := HSB.out; omega))
            have HRq := Lib.hid hr
            have HO := Lib.hid hO
            have HES := Lib.hid hes
            have HRest := Lib.hid hrest
            have HKb := Lib.hid (show k < cn ∧ cn ≤ 200 from ⟨hlt, hcn7⟩)
            have hesl : es.length = n1 := by rw [hes, List.length_map, elsK_length]
            have HESl := Lib.hid hesl
            have hkc : (k : Int) < (cn : Int) := by omega
            clear hr hs hO hes hrest hlen hesl hk
            go_upto_region 14 with fail
            obtain ⟨x46, hx⟩ : ∃ vv : Value, vv = .pointer (some ⟨sb, 0, none⟩) := ⟨_, rfl⟩
            have X46 := Lib.hid hx
            clear hx
            obtain ⟨x47, hx⟩ : ∃ vv : Value, vv = .pointer (some ⟨w.heap.size, 0, none⟩) := ⟨_, rfl⟩
            have X47 := Lib.hid hx
            clear hx
            obtain ⟨x48, hx⟩ : ∃ vv : Value, vv = .int .i64 fd := ⟨_, rfl⟩
            have X48 := Lib.hid hx
            clear hx
            obtain ⟨x49, hx⟩ : ∃ vv : Value, vv = V p := ⟨_, rfl⟩
            have X49 := Lib.hid hx
            clear hx
            obtain ⟨x50, hx⟩ : ∃ vv : Value, vv = .pointer (some ⟨w.heap.size, 1, none⟩) := ⟨_, rfl⟩
            have X50 := Lib.hid hx
            clear hx
            obtain ⟨x51, hx⟩ : ∃ vv : Value, vv = .int .i64 th := ⟨_, rfl⟩
            have X51 := Lib.hid hx
            clear hx
            obtain ⟨x52, hx⟩ : ∃ vv : Value, vv = .int .i64 (n1 : Int) := ⟨_, rfl⟩
            have X52 := Lib.hid hx
            clear hx
            obtain ⟨x55, hx⟩ : ∃ vv : Value, vv = .int .i64 0 := ⟨_, rfl⟩
            have X55 := Lib.hid hx
            clear hx
            obtain ⟨x15, hx⟩ : ∃ vv : Value, vv = .int .i64 0 := ⟨_, rfl⟩
            have X15 := Lib.hid hx
            clear hx
            refine wp_region_clo (fun a0 l a' w' => ∃ (ve : Value), a' = (Act.put (Act.put (fill a0 45 [sel (l 8) (.tuple #[ve, .int .i64 0]) (u45), sel (l 0) x46 (u46), sel (l 1) x47 (u47), sel (l 2) x48 (u48), sel (l 3) x49 (u49), sel (l 4) x50 (u50), sel (l 5) x51 (u51), sel (l 6) x52 (u52), sel (l 7) (.tuple #[ve, .int .i64 0]) (u53), sel (l 9) (ve) (u54), sel (l 10) x55 (u55), u56, u57, u58, u59, u60, u61, u62, u63, u64, u65, undef]) (some 14) (sel (l 11) (ve) (u14))) (some 15) (sel (l 12) x15 (u15))) ∧ (l 7 = false → Off (fun _ => False) wq w') ∧ (l 7 = true → Ls w' ve es ∧ RefP w' sb rest S ∧ Off (fun j => j = sb) wq w')) (by kernel_rfl) (by kernel_rfl) ?_ ⟨?_, ?_, ?_, ?_, ?_, ?_, ?_, ?_, ?_, ?_, ?_, ?_, ?_, trivial⟩ ?_
            · refine ⟨undef, ?_, fun _ => (Off.refl _ wq).drew, fun h => by cases h⟩
              simp only [fill_eq, List.take_succ_cons, List.take_zero, List.cons_append, List.nil_append, Act.put, List.setIfInBounds_toArray, List.set_cons_zero, List.set_cons_succ, sel_start]
              try rfl
            · as_aux_lemma =>
                rintro l a wr ⟨ve, ha, hA, hB⟩ hc hl hd K' hK
                have hx := X46.out; subst hx
                have gF : l 7 = false := hc.not (i := 7) hl 13 (by kernel_rfl)
                have hO := hA gF
                have GF := Lib.hid gF
                clear gF hA hB
                simp only [fill_eq, List.take_succ_cons, List.take_zero, List.cons_append, List.nil_append, Act.put, List.setIfInBounds_toArray, List.set_cons_zero, List.set_cons_succ] at ha
                subst ha
                rw [if_pos (by rfl)]
                go_simp
                refine Shut.out hK _ _ ⟨ve, ?_, fun _ => hO, fun h => absurd (show (true : Bool) = false from (show l 7 = true by rwa [upd_ne l (by decide)] at h).symm.trans GF.out) (by decide)⟩
                simp only [fill_eq, List.take_succ_cons, List.take_zero, List.cons_append, List.nil_append, Act.put, List.setIfInBounds_toArray, List.set_cons_zero, List.set_cons_succ, sel_new]
                try rfl
            · as_aux_lemma =>
                rintro l a wr ⟨ve, ha, hA, hB⟩ hc hl hd K' hK
                have hx := X47.out; subst hx
                have gF : l 7 = false := hc.not (i := 7) hl 13 (by kernel_rfl)
                have hO := hA gF
                have GF := Lib.hid gF
                clear gF hA hB
                simp only [fill_eq, List.take_succ_cons, List.take_zero, List.cons_append, List.nil_append, Act.put, List.setIfInBounds_toArray, List.set_cons_zero, List.set_cons_succ] at ha
                subst ha
                have hlq := heap_lt (hO.heap HG.out (fun c => c))
                rw [if_pos (by rfl)]
                go_simp
                refine Shut.out hK _ _ ⟨ve, ?_, fun _ => hO, fun h => absurd (show (true : Bool) = false from (show l 7 = true by rwa [upd_ne l (by decide)] at h).symm.trans GF.out) (by decide)⟩
                simp only [fill_eq, List.take_succ_cons, List.take_zero, List.cons_append, List.nil_append, Act.put, List.setIfInBounds_toArray, List.set_cons_zero, List.set_cons_succ, sel_new]
                try rfl
            · as_aux_lemma =>
                rintro l a wr ⟨ve, ha, hA, hB⟩ hc hl hd K' hK
                have d1 := hd 1 (by decide)
                have hx := X47.out; subst hx
                have hx := X48.out; subst hx
                have gF : l 7 = false := hc.not (i := 7) hl 13 (by kernel_rfl)
                have hO := hA gF
                have GF := Lib.hid gF
                clear gF hA hB
                simp only [fill_eq, List.take_succ_cons, List.take_zero, List.cons_append, List.nil_append, Act.put, List.setIfInBounds_toArray, List.set_cons_zero, List.set_cons_succ, sel_of d1] at ha
                subst ha
                have p0 := cell_of_heap (hO.heap HG.out (fun c => c)) 0
                rw [if_pos (by rfl)]
                go_simp
                refine Shut.out hK _ _ ⟨ve, ?_, fun _ => hO, fun h => absurd (show (true : Bool) = false from (show l 7 = true by rwa [upd_ne l (by decide)] at h).symm.trans GF.out) (by decide)⟩
                simp only [fill_eq, List.take_succ_cons, List.take_zero, List.cons_append, List.nil_append, Act.put, List.setIfInBounds_toArray, List.set_cons_zero, List.set_cons_succ, sel_new, sel_dep d1]
                try rfl
            · as_aux_lemma =>
                rintro l a wr ⟨ve, ha, hA, hB⟩ hc hl hd K' hK
                have d2 := hd 2 (by decide)
                have hx := X48.out; subst hx
                have hx := X49.out; subst hx
                have gF : l 7 = false := hc.not (i := 7) hl 13 (by kernel_rfl)
                have hO := hA gF
                have GF := Lib.hid gF
                clear gF hA hB
                simp only [fill_eq, List.take_succ_cons, List.take_zero, List.cons_append, List.nil_append, Act.put, List.setIfInBounds_toArray, List.set_cons_zero, List.set_cons_succ, sel_of d2] at ha
                subst ha
                rw [if_pos (by rfl)]
                go_simp
                refine (FM.out wr).mono ?_
                rintro e w1 ⟨rfl, hO1⟩
                go_wp2_with fail
                refine Shut.out hK _ _ ⟨ve, ?_, fun _ => (hO.trans hO1 (fun _ _ c => c)), fun h => absurd (show (true : Bool) = false from (show l 7 = true by rwa [upd_ne l (by decide)] at h).symm.trans GF.out) (by decide)⟩
                simp only [fill_eq, List.take_succ_cons, List.take_zero, List.cons_append, List.nil_append, Act.put, List.setIfInBounds_toArray, List.set_cons_zero, List.set_cons_succ, sel_new, sel_dep d2]
                try rfl
            · as_aux_lemma =>
                rintro l a wr ⟨ve, ha, hA, hB⟩ hc hl hd K' hK
                have hx := X50.out; subst hx
                have gF : l 7 = false := hc.not (i := 7) hl 13 (by kernel_rfl)
                have hO := hA gF
                have GF := Lib.hid gF
                clear gF hA hB
                simp only [fill_eq, List.take_succ_cons, List.take_zero, List.cons_append, List.nil_append, Act.put, List.setIfInBounds_toArray, List.set_cons_zero, List.set_cons_succ] at ha
                subst ha
                have hlq := heap_lt (hO.heap HG.out (fun c => c))
                rw [if_pos (by rfl)]
                go_simp
                refine Shut.out hK _ _ ⟨ve, ?_, fun _ => hO, fun h => absurd (show (true : Bool) = false from (show l 7 = true by rwa [upd_ne l (by decide)] at h).symm.trans GF.out) (by decide)⟩
                simp only [fill_eq, List.take_succ_cons, List.take_zero, List.cons_append, List.nil_append, Act.put, List.setIfInBounds_toArray, List.set_cons_zero, List.set_cons_succ, sel_new]
                try rfl
            · as_aux_lemma =>
                rintro l a wr ⟨ve, ha, hA, hB⟩ hc hl hd K' hK
                have d4 := hd 4 (by decide)
                have hx := X50.out; subst hx
                have hx := X51.out; subst hx
                have gF : l 7 = false := hc.not (i := 7) hl 13 (by kernel_rfl)
                have hO := hA gF
                have GF := Lib.hid gF
                clear gF hA hB
                simp only [fill_eq, List.take_succ_cons, List.take_zero, List.cons_append, List.nil_append, Act.put, List.setIfInBounds_toArray, List.set_cons_zero, List.set_cons_succ, sel_of d4] at ha
                subst ha
                have p0 := cell_of_heap (hO.heap HG.out (fun c => c)) 1
                rw [if_pos (by rfl)]
                go_simp
                refine Shut.out hK _ _ ⟨ve, ?_, fun _ => hO, fun h => absurd (show (true : Bool) = false from (show l 7 = true by rwa [upd_ne l (by decide)] at h).symm.trans GF.out) (by decide)⟩
                simp only [fill_eq, List.take_succ_cons, List.take_zero, List.cons_append, List.nil_append, Act.put, List.setIfInBounds_toArray, List.set_cons_zero, List.set_cons_succ, sel_new, sel_dep d4]
                try rfl
            · as_aux_lemma =>
                rintro l a wr ⟨ve, ha, hA, hB⟩ hc hl hd K' hK
                have d5 := hd 5 (by decide)
                have hx := X51.out; subst hx
                have hx := X52.out; subst hx
                have gF : l 7 = false := hc.not (i := 7) hl 13 (by kernel_rfl)
                have hO := hA gF
                have GF := Lib.hid gF
                clear gF hA hB
                simp only [fill_eq, List.take_succ_cons, List.take_zero, List.cons_append, List.nil_append, Act.put, List.setIfInBounds_toArray, List.set_cons_zero, List.set_cons_succ, sel_of d5] at ha
                subst ha
                rw [if_pos (by rfl)]
                go_simp
                refine Shut.out hK _ _ ⟨ve, ?_, fun _ => hO, fun h => absurd (show (true : Bool) = false from (show l 7 = true by rwa [upd_ne l (by decide)] at h).symm.trans GF.out) (by decide)⟩
                simp only [fill_eq, List.take_succ_cons, List.take_zero, List.cons_append, List.nil_append, Act.put, List.setIfInBounds_toArray, List.set_cons_zero, List.set_cons_succ, sel_new, sel_dep d5]
                try rfl
            · as_aux_lemma =>
                rintro l a wr ⟨ve, ha, hA, hB⟩ hc hl hd K' hK
                have d0 := hd 0 (by decide)
                have d3 := hd 3 (by decide)
                have d6 := hd 6 (by decide)
                have hx := X46.out; subst hx
                have hx := X49.out; subst hx
                have hx := X52.out; subst hx
                have gF : l 7 = false := hl
                have hO := hA gF
                have GF := Lib.hid gF
                clear gF hA hB
                have g8 := hc.not (i := 8) hl 13 (by kernel_rfl)
                have g9 := hc.not (i := 9) hl 13 (by kernel_rfl)
                have g10 := hc.not (i := 10) hl 13 (by kernel_rfl)
                have g11 := hc.not (i := 11) hl 13 (by kernel_rfl)
                have g12 := hc.not (i := 12) hl 13 (by kernel_rfl)
                simp only [fill_eq, List.take_succ_cons, List.take_zero, List.cons_append, List.nil_append, Act.put, List.setIfInBounds_toArray, List.set_cons_zero, List.set_cons_succ, sel_of d0, sel_of d3, sel_of d6, sel_no g8, sel_no g9, sel_no g10, sel_no g11, sel_no g12, sel_no hl] at ha
                subst ha
                have G8 := Lib.hid g8
                clear g8
                have G9 := Lib.hid g9
                clear g9
                have G10 := Lib.hid g10
                clear g10
                have G11 := Lib.hid g11
                clear g11
                have G12 := Lib.hid g12
                clear g12
                rw [if_pos (by rfl)]
                go_simp
                refine (FE.out wr hO).mono ?_
                rintro e w1 ⟨ve', rfl, hP1⟩
                go_wp2_with fail
                refine Shut.out hK _ _ ⟨ve', ?_, fun h => absurd h (by rw [upd_same]; decide), fun _ => ⟨hP1.1, hP1.2.1, (hO.mono (fun _ _ c => c.elim)).trans hP1.2.2 (fun _ _ e => e)⟩⟩
                simp only [fill_eq, List.take_succ_cons, List.take_zero, List.cons_append, List.nil_append, Act.put, List.setIfInBounds_toArray, List.set_cons_zero, List.set_cons_succ, sel_new, sel_dep d0, sel_dep d3, sel_dep d6, sel_no (show upd l 7 8 = false by rw [upd_ne l (by decide)]; exact G8.out), sel_no (show upd l 7 9 = false by rw [upd_ne l (by decide)]; exact G9.out), sel_no (show upd l 7 10 = false by rw [upd_ne l (by decide)]; exact G10.out), sel_no (show upd l 7 11 = false by rw [upd_ne l (by decide)]; exact G11.out), sel_no (show upd l 7 12 = false by rw [upd_ne l (by decide)]; exact G12.out)]
                try rfl
            · as_aux_lemma =>
                rintro l a wr ⟨ve, ha, hA, hB⟩ hc hl hd K' hK
                have d7 := hd 7 (by decide)
                simp only [fill_eq, List.take_succ_cons, List.take_zero, List.cons_append, List.nil_append, Act.put, List.setIfInBounds_toArray, List.set_cons_zero, List.set_cons_succ, sel_of d7] at ha
                subst ha
                rw [if_pos (by rfl)]
                go_simp
                refine Shut.out hK _ _ ⟨ve, ?_, fun h => absurd (show (true : Bool) = false from d7.symm.trans (show l 7 = false by rwa [upd_ne l (by decide)] at h)) (by decide), fun _ => hB d7⟩
                simp only [fill_eq, List.take_succ_cons, List.take_zero, List.cons_append, List.nil_append, Act.put, List.setIfInBounds_toArray, List.set_cons_zero, List.set_cons_succ, sel_new, sel_dep d7]
                try rfl
            · as_aux_lemma =>
                rintro l a wr ⟨ve, ha, hA, hB⟩ hc hl hd K' hK
                have d8 := hd 8 (by decide)
                have d7 := hc.up 13 8 7 d8 (by kernel_rfl)
                simp only [fill_eq, List.take_succ_cons, List.take_zero, List.cons_append, List.nil_append, Act.put, List.setIfInBounds_toArray, List.set_cons_zero, List.set_cons_succ, sel_of d8, sel_of d7] at ha
                subst ha
                rw [if_pos (by rfl)]
                go_simp
                refine Shut.out hK _ _ ⟨ve, ?_, fun h => absurd (show (true : Bool) = false from d7.symm.trans (show l 7 = false by rwa [upd_ne l (by decide)] at h)) (by decide), fun _ => hB d7⟩
                simp only [fill_eq, List.take_succ_cons, List.take_zero, List.cons_append, List.nil_append, Act.put, List.setIfInBounds_toArray, List.set_cons_zero, List.set_cons_succ, sel_new, sel_dep d8, sel_dep d7]
                try rfl
            · as_aux_lemma =>
                rintro l a wr ⟨ve, ha, hA, hB⟩ hc hl hd K' hK
                have d8 := hd 8 (by decide)
                have hx := X55.out; subst hx
                have d7 := hc.up 13 8 7 d8 (by kernel_rfl)
                simp only [fill_eq, List.take_succ_cons, List.take_zero, List.cons_append, List.nil_append, Act.put, List.setIfInBounds_toArray, List.set_cons_zero, List.set_cons_succ, sel_of d8, sel_of d7] at ha
                subst ha
                rw [if_pos (by rfl)]
                go_simp
                refine Shut.out hK _ _ ⟨ve, ?_, fun h => absurd (show (true : Bool) = false from d7.symm.trans (show l 7 = false by rwa [upd_ne l (by decide)] at h)) (by decide), fun _ => hB d7⟩
                simp only [fill_eq, List.take_succ_cons, List.take_zero, List.cons_append, List.nil_append, Act.put, List.setIfInBounds_toArray, List.set_cons_zero, List.set_cons_succ, sel_new, sel_dep d8, sel_dep d7]
                try rfl
            · as_aux_lemma =>
                rintro l a wr ⟨ve, ha, hA, hB⟩ hc hl hd K' hK
                have d9 := hd 9 (by decide)
                have d7 := hc.up 13 9 7 d9 (by kernel_rfl)
                simp only [fill_eq, List.take_succ_cons, List.take_zero, List.cons_append, List.nil_append, Act.put, List.setIfInBounds_toArray, List.set_cons_zero, List.set_cons_succ, sel_of d9, sel_of d7] at ha
                subst ha
                rw [if_pos (by rfl)]
                go_simp
                refine Shut.out hK _ _ ⟨ve, ?_, fun h => absurd (show (true : Bool) = false from d7.symm.trans (show l 7 = false by rwa [upd_ne l (by decide)] at h)) (by decide), fun _ => hB d7⟩
                simp only [fill_eq, List.take_succ_cons, List.take_zero, List.cons_append, List.nil_append, Act.put, List.setIfInBounds_toArray, List.set_cons_zero, List.set_cons_succ, sel_new, sel_dep d9, sel_dep d7]
                try rfl
            · as_aux_lemma =>
                rintro l a wr ⟨ve, ha, hA, hB⟩ hc hl hd K' hK
                have d10 := hd 10 (by decide)
                have hx := X55.out; subst hx
                have hx := X15.out; subst hx
                have d7 := hc.up 13 10 7 d10 (by kernel_rfl)
                simp only [fill_eq, List.take_succ_cons, List.take_zero, List.cons_append, List.nil_append, Act.put, List.setIfInBounds_toArray, List.set_cons_zero, List.set_cons_succ, sel_of d10, sel_of d7] at ha
                subst ha
                rw [if_pos (by rfl)]
                go_simp
                refine Shut.out hK _ _ ⟨ve, ?_, fun h => absurd (show (true : Bool) = false from d7.symm.trans (show l 7 = false by rwa [upd_ne l (by decide)] at h)) (by decide), fun _ => hB d7⟩
                simp only [fill_eq, List.take_succ_cons, List.take_zero, List.cons_append, List.nil_append, Act.put, List.setIfInBounds_toArray, List.set_cons_zero, List.set_cons_succ, sel_new, sel_dep d10, sel_dep d7]
                try rfl
            · rintro l a wc ⟨ve, ha, hA, hB⟩ hd
              simp only [fill_eq, List.take_succ_cons, List.take_zero, List.cons_append, List.nil_append, Act.put, List.setIfInBounds_toArray, List.set_cons_zero, List.set_cons_succ, sel_of (hd 0 (by decide)), sel_of (hd 1 (by decide)), sel_of (hd 2 (by decide)), sel_of (hd 3 (by decide)), sel_of (hd 4 (by decide)), sel_of (hd 5 (by decide)), sel_of (hd 6 (by decide)), sel_of (hd 7 (by decide)), sel_of (hd 8 (by decide)), sel_of (hd 9 (by decide)), sel_of (hd 10 (by decide)), sel_of (hd 11 (by decide)), sel_of (hd 12 (by decide))] at ha
              subst ha
              have hPP := hB (hd 7 (by decide))
              clear hA hB
              obtain ⟨hv, hs, hO⟩ := hPP
              obtain ⟨va, vc, rfl, _⟩ := id hv
              rw [HESl.out]
              obtain ⟨x, hx⟩ : ∃ x, x = numB (chk sec k) := ⟨_, rfl⟩
              have hOw := HO.out.trans hO (fun _ _ e => e)
              obtain ⟨lb, lo, rfl, _, p0, p1, p2, p3⟩ := (HLs.out.off hOw (fun j _ hj e => by omega)).get (HSV.out k HKb.out.1)
              rw [← hx] at p0 p1 p2 p3
              obtain ⟨wz, hwz⟩ : ∃ wz, wz = wc := ⟨_, rfl⟩
              rw [← hwz] at hv hs hO hOw p0 p1 p2 p3 ⊢
              clear hwz hd
              have hlb := World.block_lt_of_cell? wz _ p0
              obtain ⟨W1, hW1⟩ : ∃ W1, W1 = wz.alloc (.cells #[.int .u64 (wd x 0 : Int), .int .u64 (wd x 1 : Int), .int .u64 (wd x 2 : Int), .int .u64 (wd x 3 : Int)] 51) := ⟨_, rfl⟩
              have hB1 : w1.heap.size ≤ wz.heap.size := hOw.size
              have hr1 : W1.ownsRow wz.heap.size 51 4 (.slice (some ⟨wz.heap.size, 0, none⟩) 1 1) [x].length (flat4 [x]) := by rw [hW1]; exact World.ownsRow_lit wz #[.int .u64 (wd x 0 : Int), .int .u64 (wd x 1 : Int), .int .u64 (wd x 2 : Int), .int .u64 (wd x 3 : Int)] 1 (Nat.le_refl _) (by decide) rfl
              have hA1 : Off (fun _ => False) wz W1 := by rw [hW1]; exact (Off.refl _ wz).alloc _
              have hv1 : LsAt W1 (.slice va n1 vc) es (fun _ => True) := by have h := hv.off hA1; rw [HESl.out] at h; exact h
              obtain ⟨v2, w2, hrun, hr2, hg2⟩ := app_vec hr1 hA1.size hv1 (by have := HESl.out; simp; omega)
              have hO2 : Off (fun _ => False) wz w2 := grown_off hA1 (Nat.le_refl _) hr1 hg2
              obtain ⟨zs, hzs⟩ : ∃ zs, zs = [x] ++ es := ⟨_, rfl⟩
              rw [← hzs] at hr2
              obtain ⟨v2a, v2c, rfl⟩ : ∃ a c, v2 = .slice a zs.length c := by
                rcases hr2.2 with ⟨rfl, hn⟩ | ⟨g, cap, cur, rfl, _⟩
                · exact ⟨none, 0, by rw [hn]⟩
                · exact ⟨_, cap, rfl⟩
              obtain ⟨W3, hW3⟩ : ∃ W3, W3 = w2.alloc (.cells #[.slice v2a zs.length v2c] 46) := ⟨_, rfl⟩
              have hA3 : Off (fun _ => False) w2 W3 := by rw [hW3]; exact (Off.refl _ w2).alloc _
              have hO3 : Off (fun _ => False) wz W3 := hO2.trans hA3 (fun _ _ c => c)
              have hll : RowLL 51 46 w1.heap.size W3 u12 (polsV ⟨fd, th, sh, ln⟩ p sec rnd k) := (HRq.out.off hO (fun j hj e => by have := HSB.out; omega)).off hO3 (fun _ _ c => c)
              obtain ⟨v4, w4, hrun4, hr4, hg4⟩ := app_ll (bz := w2.heap.size) hll (Nat.le_trans hB1 hO3.size) (own_offT (own_baseP hr2 hB1) hA3 (fun _ _ c => c)) (by rw [hW3]; exact heap_new' rfl _) (by rw [polsV_length]; have := HKb.out; omega)
              have hgb : ∀ g, u12.ownBlock = some g → w1.heap.size ≤ g := fun g e => by
                obtain ⟨us, h3, _, _⟩ := hll
                exact (World.ownsRow.lt h3 g e).1
              have hO4 : Off (fun j => j = sb) w1 w4 := (hOw.trans hO3 (fun _ _ c => c.elim)).grown hg4 (fun g e => ⟨fun h => by have := hgb g e; omega, fun o ho => by
                obtain ⟨us, h3, _, _⟩ := hll
                rcases h3.2 with ⟨e2, _⟩ | ⟨g2, cap, cur, e2, _, hgc, _⟩
                · rw [e2] at e; simp [Value.ownBlock] at e
                · rw [e2] at e; simp [Value.ownBlock] at e; subst e; rw [hgc] at ho; cases ho; rfl⟩)
              have hs4 : RefP w4 sb rest S := (hs.keep hO3).grow hg4 (fun j e => ⟨fun e2 => by have := hgb j e; have := HSB.out; omega, fun h => by have := hgb j e; have := HS.out j h; have := HSB.out; omega⟩)
              rw [hW1] at hrun
              rw [hW3] at hrun4
              have HRun := Lib.hid hrun
              have HRun4 := Lib.hid hrun4
              have HR4 := Lib.hid (show RowLL 51 46 w1.heap.size w4 v4 (polsV ⟨fd, th, sh, ln⟩ p sec rnd (k + 1)) by
                rw [polsV_succ, HPV.out k, ← hx, ← HES.out]
                rw [hzs] at hr4
                exact hr4)
              have HS4 := Lib.hid hs4
              have HO4' := Lib.hid hO4
              have w2' : IntKind.i64.wrap ((k : Int) + 1) = (k : Int) + 1 := by rw [IntKind.wrap_i64]; have := HKb.out; omega
              clear hv hs hO hOw hx hW1 hB1 hr1 hA1 hv1 hrun hr2 hg2 hO2 hW3 hA3 hO3 hll hrun4 hr4 hg4 hgb hO4 hs4 hzs
              go_wp2_with first | (at_builtin; refine Go.Lib.wpList_append_run _ rfl _ _ _ _ rfl _ _ rfl rfl _ _ HRun.out ?_) | (at_builtin; refine Go.Lib.wpList_append_run _ rfl _ _ _ _ rfl _ _ rfl rfl _ _ HRun4.out ?_) | fail
              go_roundw
              case rel => exact ⟨k + 1, by have := HKb.out; omega, by simp, HR4.out, by rw [← HRest.out]; exact HS4.out, HO4'.out⟩
              case measure => simp [intOf]; have := HKb.out; omega
          · obtain rfl : cn = k := by omega
            have hkk : ¬ (cn : Int) < (cn : Int) := by omega
            have HRf := Lib.hid hr
            have HOf := Lib.hid (HO4.out.trans hO (fun j hj e => by have := HSB.out; omega))
            clear hr hs hO hk hlt
            go_wp2
            refine bodyPost_ret (v := .tuple #[u12, .int .i64 0]) (by simp [results, Tryd.results12, go_sem]) rfl ⟨_, rfl, HRf.out.lls (by rw [polsV_length]; omega) (fun zs hz => ?_), HOf.out⟩
            obtain ⟨i, _, rfl⟩ := List.mem_map.1 hz
            rw [HPV.out i, List.length_cons, List.length_map, elsK_length]
            omega

    · have e2 : ((m1 : Int) != q.ln) = true := by simp [hln]
      rw [hE, if_neg (by simp [h0]), if_pos hln, if_neg (by decide)]
      subst h0
      obtain ⟨fd, th, sh, ln⟩ := q
      dsimp only at hln e2
      unfold Pms.val at FC FR ⊢
      dsimp only at FC FR ⊢
      clear hE hc hr hq h1 h2 hs1 hs2 hm1 hm2 FM hS
      go_enter Tryd.func12, Tryd.ntmps12
      go_wp2_with fail
      refine (FC.out _).mono ?_
      rintro e u1 ⟨rfl, hO⟩
      have hO1 := ((Off.refl (fun _ => False) w).alloc (.cells #[.int .i64 fd, .int .i64 th, .int .i64 sh, .int .i64 ln] 23)).trans hO (fun _ _ c => c)
      have g1 := hO.heap (heap_new' (w := w) rfl (.cells #[.int .i64 fd, .int .i64 th, .int .i64 sh, .int .i64 ln] 23)) (fun c => c)
      have HO1 := Lib.hid hO1
      have HG1 := Lib.hid g1
      clear hO hO1
      have p0 := cell_of_heap HG1.out 0
      have p1 := cell_of_heap HG1.out 1
      have p2 := cell_of_heap HG1.out 2
      have p3 := cell_of_heap HG1.out 3
      have lp := heap_lt HG1.out
      clear g1
      go_wp2
      exact bodyPost_ret (v := .tuple #[.slice none 0 0, .int .i64 8]) (by simp [results, Tryd.results12, go_sem]) rfl ⟨_, rfl, LLs.nil _, HO1.out⟩
  · have e1 : ¬ ((c : Int) = 0) := by omega
    rw [hE, if_pos h0, if_neg h0]
    obtain ⟨fd, th, sh, ln⟩ := q
    unfold Pms.val at FC FR ⊢
    dsimp only at FC FR ⊢
    clear hE hc hr hq h1 h2 hs1 hs2 hm1 hm2 FM hS h0
    go_enter Tryd.func12, Tryd.ntmps12
    go_wp2_with fail
    refine (FC.out _).mono ?_
    rintro e u1 ⟨rfl, hO⟩
    have hO1 := ((Off.refl (fun _ => False) w).alloc (.cells #[.int .i64 fd, .int .i64 th, .int .i64 sh, .int .i64 ln] 23)).trans hO (fun _ _ c => c)
    have g1 := hO.heap (heap_new' (w := w) rfl (.cells #[.int .i64 fd, .int .i64 th, .int .i64 sh, .int .i64 ln] 23)) (fun c => c)
    have HO1 := Lib.hid hO1
    have HG1 := Lib.hid g1
    clear hO hO1
    clear g1
    go_wp2
    exact bodyPost_ret (v := .tuple #[.slice none 0 0, .int .i64 (c : Int)]) (by simp [results, Tryd.results12, go_sem]) rfl ⟨_, rfl, LLs.nil _, HO1.out⟩
end
section
open Go.RowKit
attribute [local go_sem ↓] Go.wp_at_zero Go.wp_at_succ
set_option maxRecDepth 100000
set_option maxHeartbeats 4000000
theorem polsV_lt {q : Pms} {p : Nat} {sec rnd : List Nat} {k : Nat} (hp : 0 < p) : ∀ c ∈ polsV q p sec rnd k, ∀ x ∈ c, x < p := by
  intro c hc x hx
  obtain ⟨i, _, rfl⟩ := List.mem_map.1 hc
  obtain ⟨y, _, rfl⟩ := List.mem_map.1 hx
  exact Nat.mod_lt _ hp
theorem refdeal_any (q : Pms) (hq : q.ok) (a1 a2 : Option Addr) (m1 m2 c1 c2 : Nat) (sec rnd : List Nat) (S : Nat → Prop) (w : World) (hS : ∀ k, S k → k < w.heap.size) (hm1 : m1 = sec.length) (hm2 : m2 = rnd.length) (hc1 : m1 ≤ c1) (hc2 : m2 ≤ c2) (hs1 : Small sec) (hs2 : Small rnd) (hl1 : m1 ≤ 5000) (hl2 : m2 ≤ 100000)
    (h1 : BsAt w a1 sec S) (h2 : BsAt w a2 rnd S) :
    Calls Tryd.prog 15 #[q.val, .slice a1 m1 c1, .slice a2 m2 c2] w fun e w' => ∃ v, e = .returned (.tuple #[v, .int .i64 (polE q sec rnd : Int)]) ∧ (polE q sec rnd = 0 → EvL q (modN q.fd) (polsV q (modN q.fd) sec rnd q.cn) q.sh.toNat w.heap.size w' v) ∧ (polE q sec rnd ≠ 0 → v = .slice none 0 0) ∧ Off (fun _ => False) w w' := by
  have FP := Lib.hid (fun W (h : Off (fun _ => False) w W) => refpols_any q hq a1 a2 m1 m2 c1 c2 sec rnd S W (fun k hk => Nat.lt_of_lt_of_le (hS k hk) h.size) hm1 hm2 hc1 hc2 hs1 hs2 hl1 hl2 (h1.off h (fun _ _ _ c => c)) (h2.off h (fun _ _ _ c => c)))
  obtain ⟨r, hr⟩ : ∃ r, r = polE q sec rnd := ⟨_, rfl⟩
  rw [← hr] at FP ⊢
  by_cases h0 : r = 0
  · have hpr := (polE_ok (hr.symm.trans h0)).1
    have hpos := modN_pos (prN_ok hpr).1
    obtain ⟨p, hp⟩ : ∃ p, p = modN q.fd := ⟨_, rfl⟩
    rw [if_pos h0] at FP
    rw [← hp] at FP hpos ⊢
    obtain ⟨cs, hcs⟩ : ∃ cs, cs = polsV q p sec rnd q.cn := ⟨_, rfl⟩
    have FE := Lib.hid (fun W v (h : LLs W v cs) => refeva_any q hq hpr p hp cs (by rw [hcs]; exact polsV_lt (by omega)) v W h)
    rw [← hcs] at FP ⊢
    subst h0
    obtain ⟨n, hn⟩ : ∃ n, n = q.sh.toNat := ⟨_, rfl⟩
    rw [← hn] at FE ⊢
    obtain ⟨fd, th, sh, ln⟩ := q
    unfold Pms.val at FP FE ⊢
    dsimp only at FP FE ⊢
    clear hr hpr hpos hp hcs hn h1 h2 hS hm1 hm2 hc1 hc2 hs1 hs2 hq hl1 hl2
    obtain ⟨w0, hw0⟩ : ∃ w0, w0 = w.alloc (.cells #[.int .i64 fd, .int .i64 th, .int .i64 sh, .int .i64 ln] 23) := ⟨_, rfl⟩
    have HO0 := Lib.hid (show Off (fun _ => False) w w0 by rw [hw0]; exact (Off.refl _ w).alloc _)
    have HG0 := Lib.hid (show w0.heap[w.heap.size]? = some (.cells #[.int .i64 fd, .int .i64 th, .int .i64 sh, .int .i64 ln] 23 (0, 0)) by rw [hw0]; exact heap_new' rfl _)
    have HW0 := Lib.hid hw0
    clear hw0
    go_enter Tryd.func15, Tryd.ntmps15
    go_wp2_with fail
    rw [← HW0.out]
    refine (FP.out _ HO0.out).mono ?_
    rintro e u1 ⟨v, rfl, hv, hO⟩
    have HV := Lib.hid hv
    have HO1 := Lib.hid (HO0.out.trans hO (fun _ _ c => c))
    have g1 := hO.heap HG0.out (fun c => c)
    have p0 := cell_of_heap g1 0
    have p1 := cell_of_heap g1 1
    have p2 := cell_of_heap g1 2
    have p3 := cell_of_heap g1 3
    have lp := heap_lt g1
    clear hv hO g1
    go_wp2_with fail
    refine (FE.out _ _ HV.out).mono ?_
    rintro e u2 ⟨v', rfl, hev, hO⟩
    have HE := Lib.hid (hev.base HO1.out.size)
    have HO2 := Lib.hid (HO1.out.trans hO (fun _ _ c => c))
    clear hev hO p0 p1 p2 p3 lp
    go_wp2
    exact bodyPost_ret (v := .tuple #[v', .int .i64 0]) (by simp [results, Tryd.results15, go_sem]) rfl ⟨_, rfl, fun _ => HE.out, fun h => absurd rfl h, HO2.out⟩
  · have hr0 : ¬ ((r : Int) = 0) := by omega
    rw [if_neg h0] at FP
    have H0 := Lib.hid h0
    obtain ⟨fd, th, sh, ln⟩ := q
    unfold Pms.val at FP ⊢
    dsimp only at FP ⊢
    clear hr h1 h2 hS hm1 hm2 hc1 hc2 hs1 hs2 hq h0 hl1 hl2
    go_enter Tryd.func15, Tryd.ntmps15
    go_wp2_with fail
    refine (FP.out _ ((Off.refl _ w).alloc _)).mono ?_
    rintro e u1 ⟨v, rfl, hv, hO⟩
    have HO1 := Lib.hid (((Off.refl (fun _ => False) w).alloc (.cells #[.int .i64 fd, .int .i64 th, .int .i64 sh, .int .i64 ln] 23)).trans hO (fun _ _ c => c))
    clear hv hO
    go_wp2
    exact bodyPost_ret (v := .tuple #[.slice none 0 0, .int .i64 (r : Int)]) (by simp [results, Tryd.results15, go_sem]) rfl ⟨_, rfl, fun h => absurd h H0.out, fun _ => rfl, HO1.out⟩
end
end Go.Proofs.YtclehgconbdkpaaDoor
