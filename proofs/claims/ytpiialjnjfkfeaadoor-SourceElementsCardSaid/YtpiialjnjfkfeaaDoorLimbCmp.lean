/-
  Contracts of limb.IsZero, limb.Equal, limb.Less, limb.Choose and the reference's Less over this seat's translation: the masks of their conditions, and one of two numbers. Conditions: the arguments are numbers of four words.
-/
import Derived.Test.YtpiialjnjfkfeaaDoorLimbRef
import Derived.Test.YtpiialjnjfkfeaaDoorMaskBase
namespace Go.Proofs.YtpiialjnjfkfeaaDoor
open Go.RowKit

/-- Whether a number is 0, whether two numbers are equal, whether the first is less. -/
def zeroN (a : Nat) : Bool := decide (a = 0)
def eqN (a b : Nat) : Bool := decide (a = b)
def lessN (a b : Nat) : Bool := decide (a < b)

theorem wd_zero_all {a : Nat} (ha : a < R256) : zeroB [(wd a 0 : Int), (wd a 1 : Int), (wd a 2 : Int), (wd a 3 : Int)] = zeroN a := by
  have h := num4_wd ha
  unfold zeroB zeroN
  rw [Bool.eq_iff_iff]
  simp only [List.all_cons, List.all_nil, Bool.and_true, Bool.and_eq_true, decide_eq_true_eq]
  unfold num4 at h
  constructor
  · rintro ⟨h0, h1, h2, h3⟩
    have e0 : wd a 0 = 0 := by omega
    have e1 : wd a 1 = 0 := by omega
    have e2 : wd a 2 = 0 := by omega
    have e3 : wd a 3 = 0 := by omega
    rw [← h, e0, e1, e2, e3]; simp
  · intro e
    subst e
    refine ⟨?_, ?_, ?_, ?_⟩ <;> simp [wd, dg]
theorem NumAt.words {w : World} {b n : Nat} (h : NumAt w b n) : Words w (.slice (some ⟨b, 0, none⟩) 4 4) [(wd n 0 : Int), (wd n 1 : Int), (wd n 2 : Int), (wd n 3 : Int)] := by
  refine ⟨_, _, rfl, by simp, ?_, fun _ => ⟨_, _, rfl, ?_⟩⟩
  · intro x hx
    simp at hx
    rcases hx with rfl | rfl | rfl | rfl <;> exact wd_word _ _
  · intro j hj
    have : j = 0 ∨ j = 1 ∨ j = 2 ∨ j = 3 := by simp at hj; omega
    rw [Nat.zero_add]
    rcases this with rfl | rfl | rfl | rfl <;> exact h.cell _ (by omega)

theorem zero_sub {a b : Nat} (ha : a < R256) (hb : b < R256) : zeroN (subV a b % R256) = eqN a b := by
  unfold zeroN eqN subV R256 W64 at *
  simp only [Nat.reducePow] at *
  rw [Bool.eq_iff_iff]
  simp only [decide_eq_true_eq]
  omega
theorem odd_ltN (a b : Nat) : oddB (ltN a b : Int) = lessN a b := by
  unfold oddB ltN lessN; by_cases h : a < b <;> simp [h]
theorem ltN_word (a b : Nat) : Word (ltN a b : Int) := by unfold ltN; split <;> exact ⟨by omega, by omega⟩
theorem r256_pos : 0 < R256 := by decide

/-- One of two numbers by the lowest bit of m. -/
def selN (m : Int) (a b : Nat) : Nat := if oddB m then a else b
theorem sel_word (m : Int) (a b k : Nat) : chooseV (mk (oddB m)) (wd a k : Int) (wd b k : Int) = (wd (selN m a b) k : Int) := by
  rw [chooseV_mk _ (wd_word a k) (wd_word b k)]; unfold selN; split <;> rfl
theorem choose_sel (m : Int) (a b k : Nat) (w : World) :
    Calls Tryd.prog 58 #[.int .u64 (mk (oddB m)), .int .u64 (wd a k : Int), .int .u64 (wd b k : Int)] w fun e w' => e = .returned (.int .u64 (wd (selN m a b) k : Int)) ∧ w = w' := by
  rw [← sel_word]; exact choose_any _ _ _ (mk_word _) (wd_word a k) (wd_word b k) w

/-- What the loop of Choose keeps. -/
structure ChooseAt (w wr : World) (a b s k : Nat) : Prop where
  a : NumAt wr w.heap.size a
  b : NumAt wr (w.heap.size + 1) b
  ret : PartAt wr (w.heap.size + 1 + 1) 0 0
  res : PartAt wr (w.heap.size + 1 + 1 + 1) s k
  off : Off (fun _ => False) w wr
theorem ChooseAt.start (w : World) (a b s : Nat) : ChooseAt w ((((w.alloc (.cells #[.int .u64 (wd a 0 : Int), .int .u64 (wd a 1 : Int), .int .u64 (wd a 2 : Int), .int .u64 (wd a 3 : Int)] 39)).alloc (.cells #[.int .u64 (wd b 0 : Int), .int .u64 (wd b 1 : Int), .int .u64 (wd b 2 : Int), .int .u64 (wd b 3 : Int)] 39)).alloc (.cells #[.int .u64 0, .int .u64 0, .int .u64 0, .int .u64 0] 39)).alloc (.cells #[.int .u64 0, .int .u64 0, .int .u64 0, .int .u64 0] 39)) a b s 0 :=
  ⟨heap_old' (heap_old' (heap_old' (heap_new' rfl _) _) _) _, heap_old' (heap_old' (heap_new' (by simp) _) _) _, heap_old' (heap_new' (by simp) _) _, heap_new' (by simp) _, ((((Off.refl _ w).alloc _).alloc _).alloc _).alloc _⟩
theorem ChooseAt.step {w wr : World} {a b s k : Nat} (h : ChooseAt w wr a b s k) (hk : k < 4) : ChooseAt w (wr.setCell ⟨w.heap.size + 1 + 1 + 1, k, none⟩ (.int .u64 (wd s k : Int))).drew a b s (k + 1) := by
  have far : ∀ j, j ≠ w.heap.size + 1 + 1 + 1 → (wr.setCell ⟨w.heap.size + 1 + 1 + 1, k, none⟩ (.int .u64 (wd s k : Int))).drew.heap[j]? = wr.heap[j]? := fun j hj => Below.heap_setCell _ _ _ _ hj
  exact ⟨(far _ (by omega)).trans h.a, (far _ (by omega)).trans h.b, (far _ (by omega)).trans h.ret, h.res.step hk, (h.off.setCell (fun c => by simp at c; omega) _).drew⟩

attribute [local go_sem ↓] Go.wp_at_zero Go.wp_at_succ
set_option maxRecDepth 100000 in
set_option maxHeartbeats 2000000 in
theorem limb_choose (m : Int) (hm : Word m) (a b : Nat) (w : World) :
    Calls Tryd.prog 52 #[.int .u64 m, V a, V b] w fun e w' => e = .returned (V (selN m a b)) ∧ Off (fun _ => False) w w' := by
  have hF := fun W => frombit_any m hm W
  have hC := fun k W => choose_sel m a b k W
  obtain ⟨c, hc⟩ : ∃ c, c = mk (oddB m) := ⟨_, rfl⟩
  obtain ⟨s, hs⟩ : ∃ s, s = selN m a b := ⟨_, rfl⟩
  simp only [← hc] at hF hC
  simp only [← hs] at hC
  rw [← hs]
  have HF := Lib.hid hF
  have HC := Lib.hid hC
  clear hF hC hc hs hm
  go_enter Tryd.func52, Tryd.ntmps52
  go_wp2_with fail
  refine (HF.out _).mono ?_
  rintro e w1 ⟨rfl, rfl⟩
  go_wp2
  go_loopw [11] (fun i wr => ∃ k : Nat, k ≤ 4 ∧ i = .int .i64 k ∧ ChooseAt w wr a b s k) (fun i _ => 4 - (intOf i).toNat)
  case atStart => exact ⟨0, by omega, rfl, ChooseAt.start w a b s⟩
  case round =>
    obtain ⟨k, hk, rfl, hA⟩ := hrel
    by_cases hlt : k < 4
    · have i1 : decide ((k : Int) < 4) = true := by simp; omega
      have i2 : (k : Int) < 4 := by omega
      have ca := hA.a.cell k hlt
      have cb := hA.b.cell k hlt
      have cr := hA.res.cell hlt
      have q1 := cell_far (u := .int .u64 (wd s k : Int)) (p := ⟨w.heap.size + 1 + 1 + 1, k, none⟩) ca (by simp <;> omega)
      have q2 := cell_far (u := .int .u64 (wd s k : Int)) (p := ⟨w.heap.size + 1 + 1 + 1, k, none⟩) cb (by simp <;> omega)
      have fz := frozen_of_heap hA.res.old k
      have HA := Lib.hid hA
      clear hA
      go_wp2
      go_region_held3 (fun w' => w'.cell? ⟨w.heap.size, k, none⟩ = some (.int .u64 (wd a k : Int)) ∧ w'.cell? ⟨w.heap.size + 1, k, none⟩ = some (.int .u64 (wd b k : Int))) (go_keep) (((go_at_call 58; refine (HC.out k _).mono ?_; rintro e w' ⟨rfl, rfl⟩)))
      go_wp2
      go_roundw
      case rel => exact ⟨k + 1, by omega, by go_num, HA.out.step hlt⟩
      case measure => simp [intOf]; omega
    · obtain rfl : k = 4 := by omega
      obtain ⟨c0, c1, c2, c3⟩ := hA.res.full.four
      obtain ⟨⟨r0, r1, r2, r3⟩, fz⟩ := hA.ret.four
      have HA := Lib.hid hA
      clear hA
      go_wp2
      refine bodyPost_ret (v := V s) (by simp [results, Tryd.results52, go_sem, r0, r1, r2, r3]) rfl ⟨rfl, ?_⟩
      have hn : ∀ j, (⟨w.heap.size + 1 + 1, j, none⟩ : Addr).block < w.heap.size → False := fun j c => by simp at c; omega
      exact (((HA.out.off.setCell (hn 0) _).setCell (hn 1) _).setCell (hn 2) _).setCell (hn 3) _
end Go.Proofs.YtpiialjnjfkfeaaDoor
