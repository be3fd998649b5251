/-
  Lists of complex numbers; the statements' all. Condition: the lists are short.
-/
import Derived.Test.YtghacjhempmejaaDoorDftNear
import Derived.Test.YtghacjhempmejaaDoorInvMem
import Derived.Test.YtghacjhempmejaaDoorInvIn
namespace Go.Proofs.YtghacjhempmejaaDoor
open Go.RowKit
/-- The slice value v holds the complex numbers xs, as pairs of words; its cells, where it has any, lie within S. -/
def CsAt (w : World) (v : Value) (xs : List (Nat × Nat)) (S : Nat → Prop) : Prop :=
  ∃ a cap, v = .slice a xs.length cap ∧ xs.length ≤ 1000 ∧ (0 < xs.length → ∃ b off, a = some ⟨b, off, none⟩ ∧ S b ∧ ∀ (j : Nat) (x : Nat × Nat), xs[j]? = some x → w.cell? ⟨b, off + j, none⟩ = some (.complex .f64 x.1 x.2))
theorem CsAt.off {w w' : World} {v : Value} {xs : List (Nat × Nat)} {S S' : Nat → Prop} (h : CsAt w v xs S) (ho : Off S' w w') (hd : ∀ k, k < w.heap.size → S k → ¬ S' k) : CsAt w' v xs S := by
  obtain ⟨a, cap, hv, h1, h4⟩ := h
  refine ⟨a, cap, hv, h1, fun hp => ?_⟩
  obtain ⟨b, off, ha, hS, hc⟩ := h4 hp
  refine ⟨b, off, ha, hS, fun j x hj => ?_⟩
  have he := hc j x hj
  exact ho.cell he (hd b (World.block_lt_of_cell? w _ he) hS)
theorem CsAt.mono {w : World} {v : Value} {xs : List (Nat × Nat)} {S S' : Nat → Prop} (h : CsAt w v xs S) (hs : ∀ k, k < w.heap.size → S k → S' k) : CsAt w v xs S' := by
  obtain ⟨a, cap, hv, h1, h4⟩ := h
  refine ⟨a, cap, hv, h1, fun hp => ?_⟩
  obtain ⟨b, off, ha, hS, hc⟩ := h4 hp
  exact ⟨b, off, ha, hs b (World.block_lt_of_cell? w _ (hc 0 xs[0] (List.getElem?_eq_getElem hp))) hS, hc⟩
theorem CsAt.len {w : World} {a : Option Addr} {n cap : Nat} {xs : List (Nat × Nat)} {S : Nat → Prop} (h : CsAt w (.slice a n cap) xs S) : n = xs.length ∧ n ≤ 1000 := by
  obtain ⟨a', cap', e, h1, _⟩ := h
  simp at e
  omega
theorem CsAt.get {w : World} {a : Option Addr} {n cap : Nat} {xs : List (Nat × Nat)} {S : Nat → Prop} (h : CsAt w (.slice a n cap) xs S) {j : Nat} {x : Nat × Nat} (hx : xs[j]? = some x) : ∃ b off, a = some ⟨b, off, none⟩ ∧ S b ∧ w.cell? ⟨b, off + j, none⟩ = some (.complex .f64 x.1 x.2) := by
  obtain ⟨a', cap', e, _, h4⟩ := h
  simp at e
  obtain ⟨rfl, rfl, rfl⟩ := e
  obtain ⟨b, off, ha, hS, hc⟩ := h4 (by have := (List.getElem?_eq_some_iff.1 hx).1; omega)
  exact ⟨b, off, ha, hS, hc j x hx⟩
/-- The same, somewhere. -/
def Cs (w : World) (v : Value) (xs : List (Nat × Nat)) : Prop := CsAt w v xs (fun _ => True)
theorem Cs.off {w w' : World} {v : Value} {xs : List (Nat × Nat)} (h : Cs w v xs) (ho : Off (fun _ => False) w w') : Cs w' v xs := CsAt.off h ho (fun _ _ _ c => c)
theorem Cs.of {w : World} {v : Value} {xs : List (Nat × Nat)} {S : Nat → Prop} (h : CsAt w v xs S) : Cs w v xs := h.mono (fun _ _ _ => trivial)
theorem Cs.open {w : World} {v : Value} {xs : List (Nat × Nat)} (h : Cs w v xs) : ∃ a cap, v = .slice a xs.length cap ∧ CsAt w (.slice a xs.length cap) xs (fun k => k < w.heap.size) := by
  have h2 : CsAt w v xs (fun k => k < w.heap.size) := CsAt.mono h (fun _ hk _ => hk)
  obtain ⟨a, cap, rfl, _⟩ := id h2
  exact ⟨a, cap, rfl, h2⟩
/-- Two complex numbers of words, very close to each other. -/
def Close (x y : Nat × Nat) : Prop := ∃ a b c d : Rat, FC x.1 x.2 a b ∧ FC y.1 y.2 c d ∧ Ab (a - c) (1 / 2097152) ∧ Ab (b - d) (1 / 2097152)
theorem near_close {x y : Nat × Nat} (h : Close x y) (w : World) : Calls Tryd.prog 15 #[.complex .f64 x.1 x.2, .complex .f64 y.1 y.2] w fun e w' => e = .returned (.bool true) ∧ Off (fun _ => False) w w' := by
  obtain ⟨a, b, c, d, h1, h2, h3, h4⟩ := h
  refine (near_any h1 h2 h3 h4 w).mono ?_
  rintro e w' ⟨rfl, rfl⟩
  exact ⟨rfl, Off.refl _ _⟩
set_option maxRecDepth 100000 in
set_option maxHeartbeats 4000000 in
theorem all_close (xs ys : List (Nat × Nat)) (hl : xs.length = ys.length) (hc : ∀ (j : Nat) (x y : Nat × Nat), xs[j]? = some x → ys[j]? = some y → Close x y) (v1 v2 : Value) (w : World) (h1 : Cs w v1 xs) (h2 : Cs w v2 ys) :
    Calls Tryd.prog 19 #[v1, v2] w fun e w' => e = .returned (.bool true) ∧ Off (fun _ => False) w w' := by
  obtain ⟨a1, c1, rfl, g1⟩ := h1.open
  obtain ⟨a2, c2, rfl, g2⟩ := h2.open
  obtain ⟨n, hn⟩ : ∃ n, n = xs.length := ⟨_, rfl⟩
  have hn2 : n ≤ 1000 := by rw [hn]; exact g1.len.2
  rw [← hl, ← hn] at g2 ⊢
  rw [← hn] at g1
  have hne : ((n : Int) != (n : Int)) = false := by simp
  have HN := Lib.hid hn
  have HL := Lib.hid hl
  have HC := Lib.hid hc
  have G1 := Lib.hid (Cs.of g1)
  have G2 := Lib.hid (Cs.of g2)
  clear h1 h2 g1 g2 hn hl hc
  go_enter Tryd.func19, Tryd.ntmps19
  go_wp2
  go_loopw [13] (fun i wr => ∃ k : Nat, k ≤ n ∧ i = .int .i64 (k : Int) ∧ Off (fun _ => False) w wr) (fun i _ => n - (intOf i).toNat)
  case atStart => exact ⟨0, Nat.zero_le _, rfl, Off.refl _ w⟩
  case round =>
    obtain ⟨k, hk, rfl, hO⟩ := hrel
    by_cases hlt : k < n
    · obtain ⟨⟨x, y⟩, hx⟩ : ∃ p, xs[k]? = some p := ⟨_, List.getElem?_eq_getElem (by have := HN.out; omega)⟩
      obtain ⟨⟨u, v⟩, hy⟩ : ∃ p, ys[k]? = some p := ⟨_, List.getElem?_eq_getElem (by have := HN.out; have := HL.out; omega)⟩
      have HNe := Lib.hid (fun W => near_close (HC.out k _ _ hx hy) W)
      obtain ⟨b1, o1, rfl, _, d1⟩ := CsAt.get (G1.out.off hO) hx
      obtain ⟨b2, o2, rfl, _, d2⟩ := CsAt.get (G2.out.off hO) hy
      obtain ⟨wr0, hwr⟩ : ∃ u, u = wr := ⟨_, rfl⟩
      rw [← hwr] at d1 d2 hO ⊢
      have HK : Hid (∀ W', Off (fun _ => False) wr0 W' → (W'.cell? ⟨b1, o1 + k, none⟩ = some (.complex .f64 x y)) ∧ (W'.cell? ⟨b2, o2 + k, none⟩ = some (.complex .f64 u v)) ∧ Off (fun _ => False) wr0 W') := Lib.hid (fun W' h => ⟨h.cell d1 (fun c => c), h.cell d2 (fun c => c), h⟩)
      have hkn : (k : Int) < (n : Int) := by omega
      have HO := Lib.hid hO
      clear d1 d2 hO hx hy hwr
      go_upto_region 6 with fail
      refine wp_region_inv (fun a0 l a' w' => ∃ (u16 : Value) (u17 : Value) (u18 : Value) (u19 : Value) (u20 : Value) (u21 : Value) (u22 : Value) (u23 : Value) (u24 : Value) (u25 : Value), a' = (Act.put (Act.put (Act.put (Act.put (Act.put (Act.put (Act.put (Act.put (Act.put (Act.put a0 (some 16) u16) (some 17) u17) (some 18) u18) (some 19) u19) (some 20) u20) (some 21) u21) (some 22) u22) (some 23) u23) (some 24) u24) (some 25) u25) ∧ Slot l 0 u16 (.slice (some ⟨b1, o1, none⟩) n c1) ∧ Slot l 1 u17 (.int .i64 (k : Int)) ∧ Slot l 2 u18 (.pointer (some ⟨b1, o1 + k, none⟩)) ∧ Slot l 3 u19 (.complex .f64 x y) ∧ Slot l 4 u20 (.slice (some ⟨b2, o2, none⟩) n c2) ∧ Slot l 5 u21 (.int .i64 (k : Int)) ∧ Slot l 6 u22 (.pointer (some ⟨b2, o2 + k, none⟩)) ∧ Slot l 7 u23 (.complex .f64 u v) ∧ Slot l 8 u24 (.bool true) ∧ Slot l 9 u25 (.bool false) ∧ Off (fun _ => False) wr0 w') (by kernel_rfl) (by kernel_rfl) ?_ ⟨?_, ?_, ?_, ?_, ?_, ?_, ?_, ?_, ?_, ?_, trivial⟩ ?_
      · refine ⟨?z16, ?z17, ?z18, ?z19, ?z20, ?z21, ?z22, ?z23, ?z24, ?z25, ?fr, Slot.start _ _ _, Slot.start _ _ _, Slot.start _ _ _, Slot.start _ _ _, Slot.start _ _ _, Slot.start _ _ _, Slot.start _ _ _, Slot.start _ _ _, Slot.start _ _ _, Slot.start _ _ _, (Off.refl _ wr0).drew⟩
        case fr => first | (simp only [Act.put, List.setIfInBounds_toArray, List.set_cons_zero, List.set_cons_succ]; rfl) | simp only [Act.put, List.setIfInBounds_toArray, List.set_cons_zero, List.set_cons_succ]
      · intro l a wr hI hl hd K' hK
        obtain ⟨u16, u17, u18, u19, u20, u21, u22, u23, u24, u25, ha, s0, s1, s2, s3, s4, s5, s6, s7, s8, s9, hO⟩ := hI
        simp only [Act.put, List.setIfInBounds_toArray, List.set_cons_zero, List.set_cons_succ] at ha
        subst ha
        go_simp
        refine hK.out _ _ ⟨_, _, _, _, _, _, _, _, _, _, ?_, Slot.new _ _ _, s1.keep rfl, s2.keep rfl, s3.keep rfl, s4.keep rfl, s5.keep rfl, s6.keep rfl, s7.keep rfl, s8.keep rfl, s9.keep rfl, hO⟩
        simp only [Act.put, List.setIfInBounds_toArray, List.set_cons_zero, List.set_cons_succ]
      · intro l a wr hI hl hd K' hK
        obtain ⟨u16, u17, u18, u19, u20, u21, u22, u23, u24, u25, ha, s0, s1, s2, s3, s4, s5, s6, s7, s8, s9, hO⟩ := hI
        simp only [Act.put, List.setIfInBounds_toArray, List.set_cons_zero, List.set_cons_succ] at ha
        subst ha
        go_simp
        refine hK.out _ _ ⟨_, _, _, _, _, _, _, _, _, _, ?_, s0.keep rfl, Slot.new _ _ _, s2.keep rfl, s3.keep rfl, s4.keep rfl, s5.keep rfl, s6.keep rfl, s7.keep rfl, s8.keep rfl, s9.keep rfl, hO⟩
        simp only [Act.put, List.setIfInBounds_toArray, List.set_cons_zero, List.set_cons_succ]
      · intro l a wr hI hl hd K' hK
        obtain ⟨u16, u17, u18, u19, u20, u21, u22, u23, u24, u25, ha, s0, s1, s2, s3, s4, s5, s6, s7, s8, s9, hO⟩ := hI
        simp only [Act.put, List.setIfInBounds_toArray, List.set_cons_zero, List.set_cons_succ] at ha
        have q0 := s0 (hd 0 (by decide))
        have q1 := s1 (hd 1 (by decide))
        subst ha q0 q1
        go_simp
        refine hK.out _ _ ⟨_, _, _, _, _, _, _, _, _, _, ?_, s0.keep rfl, s1.keep rfl, Slot.new _ _ _, s3.keep rfl, s4.keep rfl, s5.keep rfl, s6.keep rfl, s7.keep rfl, s8.keep rfl, s9.keep rfl, hO⟩
        simp only [Act.put, List.setIfInBounds_toArray, List.set_cons_zero, List.set_cons_succ]
      · intro l a wr hI hl hd K' hK
        obtain ⟨u16, u17, u18, u19, u20, u21, u22, u23, u24, u25, ha, s0, s1, s2, s3, s4, s5, s6, s7, s8, s9, hO⟩ := hI
        simp only [Act.put, List.setIfInBounds_toArray, List.set_cons_zero, List.set_cons_succ] at ha
        have q2 := s2 (hd 2 (by decide))
        subst ha q2
        have hc := HK.out wr hO
        have p0 := hc.1
        clear hc
        go_simp
        refine hK.out _ _ ⟨_, _, _, _, _, _, _, _, _, _, ?_, s0.keep rfl, s1.keep rfl, s2.keep rfl, Slot.new _ _ _, s4.keep rfl, s5.keep rfl, s6.keep rfl, s7.keep rfl, s8.keep rfl, s9.keep rfl, hO⟩
        simp only [Act.put, List.setIfInBounds_toArray, List.set_cons_zero, List.set_cons_succ]
      · intro l a wr hI hl hd K' hK
        obtain ⟨u16, u17, u18, u19, u20, u21, u22, u23, u24, u25, ha, s0, s1, s2, s3, s4, s5, s6, s7, s8, s9, hO⟩ := hI
        simp only [Act.put, List.setIfInBounds_toArray, List.set_cons_zero, List.set_cons_succ] at ha
        subst ha
        go_simp
        refine hK.out _ _ ⟨_, _, _, _, _, _, _, _, _, _, ?_, s0.keep rfl, s1.keep rfl, s2.keep rfl, s3.keep rfl, Slot.new _ _ _, s5.keep rfl, s6.keep rfl, s7.keep rfl, s8.keep rfl, s9.keep rfl, hO⟩
        simp only [Act.put, List.setIfInBounds_toArray, List.set_cons_zero, List.set_cons_succ]
      · intro l a wr hI hl hd K' hK
        obtain ⟨u16, u17, u18, u19, u20, u21, u22, u23, u24, u25, ha, s0, s1, s2, s3, s4, s5, s6, s7, s8, s9, hO⟩ := hI
        simp only [Act.put, List.setIfInBounds_toArray, List.set_cons_zero, List.set_cons_succ] at ha
        subst ha
        go_simp
        refine hK.out _ _ ⟨_, _, _, _, _, _, _, _, _, _, ?_, s0.keep rfl, s1.keep rfl, s2.keep rfl, s3.keep rfl, s4.keep rfl, Slot.new _ _ _, s6.keep rfl, s7.keep rfl, s8.keep rfl, s9.keep rfl, hO⟩
        simp only [Act.put, List.setIfInBounds_toArray, List.set_cons_zero, List.set_cons_succ]
      · intro l a wr hI hl hd K' hK
        obtain ⟨u16, u17, u18, u19, u20, u21, u22, u23, u24, u25, ha, s0, s1, s2, s3, s4, s5, s6, s7, s8, s9, hO⟩ := hI
        simp only [Act.put, List.setIfInBounds_toArray, List.set_cons_zero, List.set_cons_succ] at ha
        have q4 := s4 (hd 4 (by decide))
        have q5 := s5 (hd 5 (by decide))
        subst ha q4 q5
        go_simp
        refine hK.out _ _ ⟨_, _, _, _, _, _, _, _, _, _, ?_, s0.keep rfl, s1.keep rfl, s2.keep rfl, s3.keep rfl, s4.keep rfl, s5.keep rfl, Slot.new _ _ _, s7.keep rfl, s8.keep rfl, s9.keep rfl, hO⟩
        simp only [Act.put, List.setIfInBounds_toArray, List.set_cons_zero, List.set_cons_succ]
      · intro l a wr hI hl hd K' hK
        obtain ⟨u16, u17, u18, u19, u20, u21, u22, u23, u24, u25, ha, s0, s1, s2, s3, s4, s5, s6, s7, s8, s9, hO⟩ := hI
        simp only [Act.put, List.setIfInBounds_toArray, List.set_cons_zero, List.set_cons_succ] at ha
        have q6 := s6 (hd 6 (by decide))
        subst ha q6
        have hc := HK.out wr hO
        have p0 := hc.2.1
        clear hc
        go_simp
        refine hK.out _ _ ⟨_, _, _, _, _, _, _, _, _, _, ?_, s0.keep rfl, s1.keep rfl, s2.keep rfl, s3.keep rfl, s4.keep rfl, s5.keep rfl, s6.keep rfl, Slot.new _ _ _, s8.keep rfl, s9.keep rfl, hO⟩
        simp only [Act.put, List.setIfInBounds_toArray, List.set_cons_zero, List.set_cons_succ]
      · intro l a wr hI hl hd K' hK
        obtain ⟨u16, u17, u18, u19, u20, u21, u22, u23, u24, u25, ha, s0, s1, s2, s3, s4, s5, s6, s7, s8, s9, hO⟩ := hI
        simp only [Act.put, List.setIfInBounds_toArray, List.set_cons_zero, List.set_cons_succ] at ha
        have q3 := s3 (hd 3 (by decide))
        have q7 := s7 (hd 7 (by decide))
        subst ha q3 q7
        go_simp
        refine (held_inv (HNe.out wr) hO).mono ?_
        rintro e w1 ⟨rfl, hO1, hOW⟩
        go_wp2_with fail
        refine hK.out _ _ ⟨_, _, _, _, _, _, _, _, _, _, ?_, s0.keep rfl, s1.keep rfl, s2.keep rfl, s3.keep rfl, s4.keep rfl, s5.keep rfl, s6.keep rfl, s7.keep rfl, Slot.new _ _ _, s9.keep rfl, hO1⟩
        simp only [Act.put, List.setIfInBounds_toArray, List.set_cons_zero, List.set_cons_succ]
      · intro l a wr hI hl hd K' hK
        obtain ⟨u16, u17, u18, u19, u20, u21, u22, u23, u24, u25, ha, s0, s1, s2, s3, s4, s5, s6, s7, s8, s9, hO⟩ := hI
        simp only [Act.put, List.setIfInBounds_toArray, List.set_cons_zero, List.set_cons_succ] at ha
        have q8 := s8 (hd 8 (by decide))
        subst ha q8
        go_simp
        refine hK.out _ _ ⟨_, _, _, _, _, _, _, _, _, _, ?_, s0.keep rfl, s1.keep rfl, s2.keep rfl, s3.keep rfl, s4.keep rfl, s5.keep rfl, s6.keep rfl, s7.keep rfl, s8.keep rfl, Slot.new _ _ _, hO⟩
        simp only [Act.put, List.setIfInBounds_toArray, List.set_cons_zero, List.set_cons_succ]
      · intro l a wc hI hd
        obtain ⟨u16, u17, u18, u19, u20, u21, u22, u23, u24, u25, ha, s0, s1, s2, s3, s4, s5, s6, s7, s8, s9, hO⟩ := hI
        simp only [Act.put, List.setIfInBounds_toArray, List.set_cons_zero, List.set_cons_succ] at ha
        have q0 := s0 (hd 0 (by decide))
        have q1 := s1 (hd 1 (by decide))
        have q2 := s2 (hd 2 (by decide))
        have q3 := s3 (hd 3 (by decide))
        have q4 := s4 (hd 4 (by decide))
        have q5 := s5 (hd 5 (by decide))
        have q6 := s6 (hd 6 (by decide))
        have q7 := s7 (hd 7 (by decide))
        have q8 := s8 (hd 8 (by decide))
        have q9 := s9 (hd 9 (by decide))
        subst ha q0 q1 q2 q3 q4 q5 q6 q7 q8 q9
        clear hd s0 s1 s2 s3 s4 s5 s6 s7 s8 s9
        have HO2 := Lib.hid (HO.out.trans hO (fun _ _ c => c))
        clear hO
        go_wp2
        go_roundw
        case rel => exact ⟨k + 1, by omega, by simp, HO2.out⟩
        case measure => simp [intOf] <;> omega
    · have hkn : ¬ (k : Int) < (n : Int) := by omega
      have HO := Lib.hid hO
      clear hO
      go_wp2
      go_ret
      exact ⟨rfl, HO.out⟩
end Go.Proofs.YtghacjhempmejaaDoor
