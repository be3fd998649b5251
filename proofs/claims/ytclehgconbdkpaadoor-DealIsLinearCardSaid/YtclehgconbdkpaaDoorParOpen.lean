/-
  Arguments of statements, opened: parameters, a share, a list of shares. No condition.
-/
import Derived.Test.YtclehgconbdkpaaDoorParGrp
import Derived.Deep.Slices
import Derived.ProofKit
namespace Go.Proofs.YtclehgconbdkpaaDoor
open Go.RowKit Go.ChangeShapes Go.WideShapes Go.ChangeAt Go.Deep
theorem list_five {α : Type} (l : List α) (h : (⟨l⟩ : Array α).size = 5) : ∃ a b c d e, l = [a, b, c, d, e] := by
  match l, h with
  | [a, b, c, d, e], _ => exact ⟨a, b, c, d, e, rfl⟩
theorem list_four {α : Type} (l : List α) (h : (⟨l⟩ : Array α).size = 4) : ∃ a b c d, l = [a, b, c, d] := by
  match l, h with
  | [a, b, c, d], _ => exact ⟨a, b, c, d, rfl⟩
set_option maxRecDepth 100000 in
theorem open_share {H : Type} {enc : TypeId × Value → H} {W : World} {r : Reach} {base : Nat} {sp : Nat → Bool} {held : Bool} {v : Value} {d : DataW H} {p : List MemPlace}
    (hok : Value.okWide Tryd.prog W r base 69 v) (h : DataW.Trod enc Tryd.prog W 0 sp held 69 v d p) :
    ∃ (s : Sh) (a : Option Addr) (cap : Nat), (s.ok ∧ s.pl.length ≤ cap ∧ VsAt W (.slice a s.pl.length cap) s.pl (fun k => k < W.heap.size)) ∧ v = s.val (.slice a s.pl.length cap) := by
  obtain ⟨cs, rfl, hsz⟩ := okWide_struct Tryd.underlying69 hok
  rw [cells_shr] at hsz
  obtain ⟨l⟩ := cs
  obtain ⟨c0, c1, c2, c3, c4, rfl⟩ := list_five l hsz
  obtain ⟨fuel, hf⟩ := h
  obtain ⟨s, pa, pc, hcs, h1, h2, h3⟩ := share_of_trod hf
  refine ⟨s, pa, pc, ⟨h1, h2, h3⟩, ?_⟩
  have hcs' : [c0, c1, c2, c3, c4] = [.int .i64 s.fd, .int .i64 s.th, .int .i64 s.ix, .int .i64 s.ln, .slice pa s.pl.length pc] := hcs
  unfold Sh.val
  rw [hcs']
theorem cells_pms : Tryd.prog.cellsOf 23 = 4 := by kernel_rfl
set_option maxRecDepth 100000 in
theorem open_params {H : Type} {enc : TypeId × Value → H} {W : World} {r : Reach} {base : Nat} {sp : Nat → Bool} {held : Bool} {v : Value} {d : DataW H} {p : List MemPlace}
    (hok : Value.okWide Tryd.prog W r base 23 v) (h : DataW.Trod enc Tryd.prog W 0 sp held 23 v d p) : ∃ (q : Pms), q.ok ∧ v = q.val := by
  obtain ⟨cs, rfl, hsz⟩ := okWide_struct Tryd.underlying23 hok
  rw [cells_pms] at hsz
  obtain ⟨l⟩ := cs
  obtain ⟨c0, c1, c2, c3, rfl⟩ := list_four l hsz
  obtain ⟨fuel, hf⟩ := h
  have hf' : DataW.trod enc Tryd.prog W 0 sp held fuel 23 [c0, c1, c2, c3] = some (d, p) := hf
  obtain ⟨xs, n, _, _, hl, hlen, hfs⟩ := DataW.trod_struct Tryd.underlying23 hf'
  match xs, hlen with
  | [y0, y1, y2, y3], _ =>
    have g0 : DataW.trod enc Tryd.prog W 0 sp held n 3 ([c0, c1, c2, c3].drop 0 |>.take (Tryd.prog.cellsOf 3)) = [y0, y1, y2, y3][0]? := hfs 0 _ rfl
    have g1 : DataW.trod enc Tryd.prog W 0 sp held n 3 ([c0, c1, c2, c3].drop 1 |>.take (Tryd.prog.cellsOf 3)) = [y0, y1, y2, y3][1]? := hfs 1 _ rfl
    have g2 : DataW.trod enc Tryd.prog W 0 sp held n 3 ([c0, c1, c2, c3].drop 2 |>.take (Tryd.prog.cellsOf 3)) = [y0, y1, y2, y3][2]? := hfs 2 _ rfl
    have g3 : DataW.trod enc Tryd.prog W 0 sp held n 3 ([c0, c1, c2, c3].drop 3 |>.take (Tryd.prog.cellsOf 3)) = [y0, y1, y2, y3][3]? := hfs 3 _ rfl
    rw [cells_i1] at g0 g1 g2 g3
    have t0 : DataW.trod enc Tryd.prog W 0 sp held n 3 [c0] = some y0 := g0
    have t1 : DataW.trod enc Tryd.prog W 0 sp held n 3 [c1] = some y1 := g1
    have t2 : DataW.trod enc Tryd.prog W 0 sp held n 3 [c2] = some y2 := g2
    have t3 : DataW.trod enc Tryd.prog W 0 sp held n 3 [c3] = some y3 := g3
    clear hfs hl g0 g1 g2 g3
    obtain ⟨n0, e0, _, q0⟩ := DataW.trod_int Tryd.underlying3 t0
    obtain ⟨n1, e1, _, q1⟩ := DataW.trod_int Tryd.underlying3 t1
    obtain ⟨n2, e2, _, q2⟩ := DataW.trod_int Tryd.underlying3 t2
    obtain ⟨n3, e3, _, q3⟩ := DataW.trod_int Tryd.underlying3 t3
    simp at e0 e1 e2 e3
    subst e0 e1 e2 e3
    exact ⟨⟨n0, n1, n2, n3⟩, ⟨q0, q1, q2, q3⟩, rfl⟩
end Go.Proofs.YtclehgconbdkpaaDoor
