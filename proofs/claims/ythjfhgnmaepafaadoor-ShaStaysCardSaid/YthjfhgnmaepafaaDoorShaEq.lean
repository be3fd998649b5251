/-
  Two sums of 32 bytes as '==' compares them; bytes cloned. Conditions: as each says.
-/
import Derived.Test.YthjfhgnmaepafaaDoorShaPad
import Derived.ChangeKeysEq
import Derived.Laws.Cover3
namespace Go.Proofs.YthjfhgnmaepafaaDoor
open Go.RowKit
set_option maxRecDepth 100000
set_option maxHeartbeats 4000000
set_option linter.unusedSimpArgs false
theorem eqItems_bytes (d : Nat) (xs ys : List Nat) (w : World) : ∀ (is : List Nat), (∀ i ∈ is, i < xs.length ∧ i < ys.length) →
    (Op.eqItems (d + 1) 5 1 (xs.map u8v).toArray (ys.map u8v).toArray is).run Tryd.prog w = .ok (is.all (fun i => decide (xs[i]? = ys[i]?))) w
  | [], _ => rfl
  | i :: r, h => by
    obtain ⟨h1, h2⟩ := h i (by simp)
    have ih := eqItems_bytes d xs ys w r (fun j hj => h j (by simp [hj]))
    have p1 : (part 5 (xs.map u8v).toArray (i * 1)).run Tryd.prog w = .ok (u8v xs[i]) w := by
      simp [part, go_sem, h1]
    have p2 : (part 5 (ys.map u8v).toArray (i * 1)).run Tryd.prog w = .ok (u8v ys[i]) w := by
      simp [part, go_sem, h2]
    rw [Op.eqItems, List.all_cons, List.getElem?_eq_getElem h1, List.getElem?_eq_getElem h2]
    simp only [Sem.run_bind, p1, p2, Result.andThen_ok]
    by_cases he : xs[i] = ys[i]
    · simp [Op.equalIn, go_sem, he, ih]
    · simp [Op.equalIn, go_sem, he]
      intro h'; exact absurd (Int.ofNat.inj h') he
theorem equalIn_32 (xs ys : List Nat) (hx : xs.length = 32) (hy : ys.length = 32) (w : World) :
    (Op.equalIn 10000 25 (.agg (xs.map u8v).toArray) (.agg (ys.map u8v).toArray)).run Tryd.prog w = .ok (decide (xs = ys)) w := by
  obtain ⟨i, hi, _, _, _⟩ := info_parts byte_info
  have hc : Tryd.prog.cellsOf 5 = 1 := by kernel_rfl
  rw [run_equalIn_array w 9999 _ _ Tryd.underlying25 hi, hc, eqItems_bytes 9998 xs ys w _ (fun i hi => by rw [hx, hy]; exact ⟨List.mem_range.1 hi, List.mem_range.1 hi⟩)]
  congr 1
  rw [Bool.eq_iff_iff, List.all_eq_true, decide_eq_true_iff]
  constructor
  · intro h
    apply List.ext_getElem?
    intro i
    rcases Nat.lt_or_ge i 32 with h32 | h32
    · simpa using h i (List.mem_range.2 h32)
    · rw [List.getElem?_eq_none (by omega), List.getElem?_eq_none (by omega)]
  · rintro rfl i _; simp
theorem RowT.at {T : TypeId} {B : Nat} {W : World} {v : Value} {xs : List Nat} (h : RowT T u8v B W v xs) : ∃ a cap, v = .slice a xs.length cap ∧ xs.length ≤ cap ∧ BsAt W a xs (fun k => B ≤ k ∧ k < W.heap.size) := by
  obtain ⟨a, cap, hv, hc⟩ := h.shape
  refine ⟨a, cap, hv, hc, fun hp => ?_⟩
  obtain ⟨g, cap', hv', _, hB, hg, hx⟩ := h.form hp
  rw [hv] at hv'
  cases hv'
  exact ⟨g, 0, rfl, ⟨hB, hg⟩, fun j x hj => by rw [Nat.zero_add]; exact hx j x hj⟩
theorem eql_nil (a : Option Addr) (l c : Nat) (w : World) : (binOp .eql 22 (.slice a l c) (.slice none 0 0)).run Tryd.prog w = .ok (.bool a.isNone) w := by
  simp only [binOp]
  simp [run_equal_slice_nil (P := Tryd.prog) w 22 5 a l c Tryd.underlying22]
theorem clone_by (a : Option Addr) (n cap : Nat) (bs : List Nat) (S : Nat → Prop) (w : World) (hb : BsAt w a bs S) (hn : n = bs.length) (hm : n ≤ 5000) :
    Calls Tryd.prog 10 #[.slice a n cap] w fun e w' => ∃ v, e = .returned v ∧ RowB w.heap.size w' v bs ∧ Off (fun _ => False) w w' := by
  cases a with
  | none =>
    obtain rfl : bs = [] := by
      rcases Nat.eq_zero_or_pos bs.length with h | h
      · exact List.eq_nil_of_length_eq_zero h
      · obtain ⟨b, o, h1, _⟩ := hb h
        cases h1
    subst hn
    have he := fun W => eql_nil none 0 cap W
    clear hb hm
    go_enter Tryd.func10, Tryd.ntmps10
    go_wp2
    go_ret
    exact ⟨_, rfl, RowT.nil _, Off.refl _ w⟩
  | some p =>
    obtain ⟨W1, hW1⟩ : ∃ W1, W1 = w.alloc (.cells #[] 5) := ⟨_, rfl⟩
    have hO1 : Off (fun _ => False) w W1 := by rw [hW1]; exact (Off.refl _ w).alloc _
    have r1 : RowB w.heap.size W1 (.slice (some ⟨w.heap.size, 0, none⟩) 0 0) [] := by rw [hW1]; exact World.ownsRow_lit w #[] 0 (Nat.le_refl _) (by decide) rfl
    obtain ⟨v5, w5, hr5, r5, o5⟩ := app_any hO1 r1 (cap := cap) (hb.off hO1 (fun _ _ _ c => c)) hn (by simp; omega)
    rw [List.nil_append] at r5
    have HR5 := Lib.hid hr5
    have HV5 := Lib.hid r5
    have HO5 := Lib.hid o5
    have HW1 := Lib.hid hW1
    have he := fun W => eql_nil (some p) n cap W
    clear hb hn hm hW1 hO1 r1 hr5 r5 o5
    go_enter Tryd.func10, Tryd.ntmps10
    go_wp2_with first | (at_builtin; rw [← HW1.out]; refine Go.Lib.wpList_append_run _ rfl _ _ _ _ rfl _ _ rfl rfl _ _ HR5.out ?_) | fail
    go_ret
    exact ⟨_, rfl, HV5.out, HO5.out⟩
/-- bytes.HasPrefix leaves the world as it is. -/
theorem bprefix_eq {w : World} {a a' : Option Addr} {n c n' c' : Nat} {bs cs : List Nat} {S S' : Nat → Prop} (h : BsAt w a bs S) (hn : n = bs.length) (hc : n ≤ c) (h' : BsAt w a' cs S') (hn' : n' = cs.length) (hp : Lib.hasPrefix (Lib.bytesOf (bs.map (fun x : Nat => (x : Int)))) (Lib.bytesOf (cs.map (fun x : Nat => (x : Int)))) = true) :
    Calls Tryd.prog 19 #[.slice a n c, .slice a' n' c'] w fun e w' => e = .returned (.bool true) ∧ w = w' :=
  (Any.bytes_HasPrefix_all lays116 a a' n c n' c' _ _ w (by simp [hn]) (by simp [hn']) hc (h.bytesIn hn) (h'.bytesIn hn')).mono fun e w' ⟨he, hw⟩ => ⟨by rw [he, hp], hw.symm⟩
end Go.Proofs.YthjfhgnmaepafaaDoor
