/-
  The statements' near: numbers that are very close to each other are near. Condition: their parts differ by at most 2 ^ -21.
-/
import Derived.Test.YtghacjhempmejaaDoorOff
import Derived.Test.YtghacjhempmejaaDoorFltAll
import Derived.Laws.Cover3
namespace Go.Proofs.YtghacjhempmejaaDoor
open Go.RowKit Ieee
theorem p200_is : ((p200 : Nat) : Rat) = 1606938044258990275541962092341162602522202993782792835301376 := rfl
theorem small_word : FR 4517110426252607488 (1 / 1048576) := by
  have h := fr_num (x := 4517110426252607488) (V := 1532495540865888858358347027150309183618739122183602176) (by decide)
  have e : ((1532495540865888858358347027150309183618739122183602176 : Int) : Rat) / (p200 : Nat) = 1 / 1048576 := by
    rw [p200_is, show ((1532495540865888858358347027150309183618739122183602176 : Int) : Rat) = 1532495540865888858358347027150309183618739122183602176 from rfl]; grind
  rw [e] at h; exact h
theorem small_neg : FR 13740482463107383296 (-(1 / 1048576)) := by
  have h := fr_num (x := 13740482463107383296) (V := -1532495540865888858358347027150309183618739122183602176) (by decide)
  have e : ((-1532495540865888858358347027150309183618739122183602176 : Int) : Rat) / (p200 : Nat) = -(1 / 1048576) := by
    rw [p200_is, show ((-1532495540865888858358347027150309183618739122183602176 : Int) : Rat) = -1532495540865888858358347027150309183618739122183602176 from rfl]; grind
  rw [e] at h; exact h
theorem le_order {x y : Nat} {a b : Rat} (hx : FR x a) (hy : FR y b) (h : a ≤ b) : (double.order x y == some .lt || double.order x y == some .eq) = true := by
  rw [fr_order hx hy]
  by_cases h1 : a < b
  · rw [if_pos h1]; rfl
  · rw [if_neg h1, if_pos (by grind)]; rfl
theorem ge_order {x y : Nat} {a b : Rat} (hx : FR x a) (hy : FR y b) (h : b ≤ a) : (double.order x y == some .gt || double.order x y == some .eq) = true := by
  rw [fr_order hx hy, if_neg (by grind)]
  by_cases h1 : a = b
  · rw [if_pos h1]; rfl
  · rw [if_neg h1]; rfl
set_option maxRecDepth 100000 in
set_option maxHeartbeats 4000000 in
theorem near_any {x y u v : Nat} {a b c d : Rat} (h : FC x y a b) (k : FC u v c d) (h1 : Ab (a - c) (1 / 2097152)) (h2 : Ab (b - d) (1 / 2097152)) (w : World) :
    Calls Tryd.prog 15 #[.complex .f64 x y, .complex .f64 u v] w fun e w' => e = .returned (.bool true) ∧ w = w' := by
  have e0 : (2 : Rat) ^ 0 = 1 := rfl
  have e1 : eps 0 = 1 / 9007199254740992 := rfl
  obtain ⟨p, q, e, f, hs, ⟨hp, hq⟩, k1, k2⟩ := fc_sub h k 0 (by decide) (h1.mono (by rw [e0]; grind)) (h2.mono (by rw [e0]; grind))
  rw [e1] at k1 k2
  have hS := fun (W : World) (t : TypeId) => run_complex_sum (P := Tryd.prog) W .sub (.inr rfl) t .f64 x y u v p q hs
  obtain ⟨a1, a2⟩ := h1
  obtain ⟨b1, b2⟩ := h2
  obtain ⟨c1, c2⟩ := k1
  obtain ⟨d1, d2⟩ := k2
  have o1 := le_order hp small_word (by grind)
  have o2 := ge_order hp small_neg (by grind)
  have o3 := le_order hq small_word (by grind)
  have o4 := ge_order hq small_neg (by grind)
  have f1 : FloatKind.f64.format = double := rfl
  rw [← f1] at o1 o2 o3 o4
  clear a1 a2 b1 b2 c1 c2 d1 d2 hp hq hs h k e0 e1 f1
  go_enter Tryd.func15, Tryd.ntmps15
  go_wp2
  go_ret
  exact ⟨rfl, rfl⟩
end Go.Proofs.YtghacjhempmejaaDoor
