/-
  The shares that the reference of layer 16 makes, as a list in memory; reduced polynomials have the same values. Conditions: the parameters are correct.
  Shares of a secret are accepted. Plain facts; the conditions are those of correct parameters.
  Arguments of statements, opened: parameters with a secret and random bytes. No condition.
-/
import Derived.Test.YtclehgconbdkpaaDoorDealA
import Derived.Test.YtclehgconbdkpaaDoorDealD
import Derived.Test.YtclehgconbdkpaaDoorParEnd
import Derived.Test.YtclehgconbdkpaaDoorParOpen
import Derived.Test.YtclehgconbdkpaaDoorBytRow
namespace Go.Proofs.YtclehgconbdkpaaDoor
section
open Go.RowKit
set_option maxRecDepth 100000
theorem pv_red (p a : Nat) : ∀ c : List Nat, pv (c.map (· % p)) a % p = pv c a % p
  | [] => rfl
  | x :: r => by
    simp only [List.map_cons, pv]
    exact md_add (Nat.mod_mod _ _) (md_mul rfl (pv_red p a r))
theorem payN_red (p : Nat) (cs : List (List Nat)) (i : Nat) : payN p (cs.map (·.map (· % p))) i = payN p cs i := by
  unfold payN
  rw [List.map_map]
  apply List.map_congr_left
  intro c _
  show fm p (pv (c.map (· % p)) i % p) = _
  rw [pv_red]
theorem polsV_eq (q : Pms) (p : Nat) (sec rnd : List Nat) : polsV q p sec rnd q.cn = (polsN q sec rnd).map (·.map (· % p)) := by
  unfold polsV polsN
  rw [List.map_map]; rfl
theorem shrsN_red (q : Pms) (p : Nat) (sec rnd : List Nat) : shrsN q p (polsV q p sec rnd q.cn) = shrsN q p (polsN q sec rnd) := by
  unfold shrsN shrN
  rw [polsV_eq]
  apply List.map_congr_left
  intro k _
  rw [payN_red]
end
section
theorem shrsN_length (q : Pms) (p : Nat) (cs : List (List Nat)) : (shrsN q p cs).length = q.sh.toNat := by simp [shrsN]
theorem shrsN_get {q : Pms} {p : Nat} {cs : List (List Nat)} {k : Nat} (h : k < q.sh.toNat) : (shrsN q p cs)[k]? = some (shrN q p cs (k + 1)) := by simp [shrsN, h]
theorem fm_lt' {p : Nat} (h1 : 0 < p) (x : Nat) : fm p x < p := by unfold fm; exact Nat.mod_lt _ h1
theorem shrN_zero {q : Pms} (h0 : prN q = 0) {cs : List (List Nat)} (hc : cs.length = q.cn) {i : Nat} (h1 : 1 ≤ i) (h2 : i ≤ 255) : shN (shrN q (modN q.fd) cs i) = 0 := by
  obtain ⟨k, s1, s2, t1, t2, l1, l2⟩ := prN_ok h0
  have hp := modN_pos k
  unfold shN shrN
  dsimp only
  rw [if_neg (fun h => h k), if_neg (by omega), if_neg (by omega), if_neg (by omega), if_neg (fun h => h (by simp [payN, hc, Pms.cn])), if_pos]
  intro x hx
  obtain ⟨c, _, rfl⟩ := List.mem_map.1 hx
  exact fm_lt' (by omega) _
theorem shrs_ok {q : Pms} (h0 : prN q = 0) {cs : List (List Nat)} (hc : cs.length = q.cn) : shsN (shrsN q (modN q.fd) cs) = 0 := by
  obtain ⟨k, s1, s2, t1, t2, l1, l2⟩ := prN_ok h0
  have f1 : firstE (shrsN q (modN q.fd) cs) = 0 := firstE_zero.2 (fun s hs => by
    obtain ⟨i, hi, rfl⟩ := List.mem_map.1 hs
    have := List.mem_range.1 hi
    exact shrN_zero h0 hc (by omega) (by omega))
  have f2 : OneH (shrsN q (modN q.fd) cs) := fun s hs t ht => by
    obtain ⟨i, _, rfl⟩ := List.mem_map.1 hs
    obtain ⟨j, _, rfl⟩ := List.mem_map.1 ht
    exact ⟨rfl, rfl, rfl⟩
  have f3 : (ixs (shrsN q (modN q.fd) cs)).Nodup := nodup_ix.2 (fun j i s t hij hj hi => by
    have h1 := (List.getElem?_eq_some_iff.1 hj).1
    have h2 := (List.getElem?_eq_some_iff.1 hi).1
    rw [shrsN_length] at h1 h2
    rw [shrsN_get h1] at hj
    rw [shrsN_get h2] at hi
    cases hj; cases hi
    show ((j + 1 : Nat) : Int) ≠ ((i + 1 : Nat) : Int)
    omega)
  have f4 : (shrsN q (modN q.fd) cs)[0]? = some (shrN q (modN q.fd) cs 1) := shrsN_get (by omega)
  rw [shsN_end f1 f2 f3 f4, shrsN_length, if_neg]
  show ¬ ((q.sh.toNat : Nat) : Int) < q.th
  omega
end
section
open Go.RowKit Go.ChangeShapes Go.WideShapes Go.ChangeAt Go.Deep
set_option maxRecDepth 100000 in
/-- Four cells that are read as parameters. -/
theorem params_of_trod {H : Type} {enc : TypeId × Value → H} {w : World} {spare : Nat → Bool} {held : Bool} {fuel : Nat} {cs : List Value} {x : DataW H × List MemPlace} (h : DataW.trod enc Tryd.prog w 0 spare held fuel 23 cs = some x) :
    ∃ q : Pms, q.ok ∧ cs = [.int .i64 q.fd, .int .i64 q.th, .int .i64 q.sh, .int .i64 q.ln] := by
  obtain ⟨xs, n, _, _, hl, hlen, hfs⟩ := DataW.trod_struct Tryd.underlying23 h
  rw [cells_pms] at hl
  match cs, hl with
  | [c0, c1, c2, c3], _ =>
    match xs, hlen with
    | [y0, y1, y2, y3], _ =>
      have g0 : DataW.trod enc Tryd.prog w 0 spare held n 3 ([c0, c1, c2, c3].drop 0 |>.take (Tryd.prog.cellsOf 3)) = [y0, y1, y2, y3][0]? := hfs 0 _ rfl
      have g1 : DataW.trod enc Tryd.prog w 0 spare held n 3 ([c0, c1, c2, c3].drop 1 |>.take (Tryd.prog.cellsOf 3)) = [y0, y1, y2, y3][1]? := hfs 1 _ rfl
      have g2 : DataW.trod enc Tryd.prog w 0 spare held n 3 ([c0, c1, c2, c3].drop 2 |>.take (Tryd.prog.cellsOf 3)) = [y0, y1, y2, y3][2]? := hfs 2 _ rfl
      have g3 : DataW.trod enc Tryd.prog w 0 spare held n 3 ([c0, c1, c2, c3].drop 3 |>.take (Tryd.prog.cellsOf 3)) = [y0, y1, y2, y3][3]? := hfs 3 _ rfl
      rw [cells_i1] at g0 g1 g2 g3
      have t0 : DataW.trod enc Tryd.prog w 0 spare held n 3 [c0] = some y0 := g0
      have t1 : DataW.trod enc Tryd.prog w 0 spare held n 3 [c1] = some y1 := g1
      have t2 : DataW.trod enc Tryd.prog w 0 spare held n 3 [c2] = some y2 := g2
      have t3 : DataW.trod enc Tryd.prog w 0 spare held n 3 [c3] = some y3 := g3
      obtain ⟨n0, e0, _, q0⟩ := DataW.trod_int Tryd.underlying3 t0
      obtain ⟨n1, e1, _, q1⟩ := DataW.trod_int Tryd.underlying3 t1
      obtain ⟨n2, e2, _, q2⟩ := DataW.trod_int Tryd.underlying3 t2
      obtain ⟨n3, e3, _, q3⟩ := DataW.trod_int Tryd.underlying3 t3
      simp at e0 e1 e2 e3
      subst e0 e1 e2 e3
      exact ⟨⟨n0, n1, n2, n3⟩, ⟨q0, q1, q2, q3⟩, rfl⟩
theorem list_six {α : Type} (l : List α) (h : (⟨l⟩ : Array α).size = 6) : ∃ a b c d e f, l = [a, b, c, d, e, f] := by
  match l, h with
  | [a, b, c, d, e, f], _ => exact ⟨a, b, c, d, e, f, rfl⟩
theorem cells_sec : Tryd.prog.cellsOf 26 = 6 := by kernel_rfl
theorem cells_by1 : Tryd.prog.cellsOf 24 = 1 := by kernel_rfl
set_option maxRecDepth 100000 in
theorem open_secret {H : Type} {enc : TypeId × Value → H} {W : World} {r : Reach} {base : Nat} {sp : Nat → Bool} {held : Bool} {v : Value} {d : DataW H} {p : List MemPlace}
    (hok : Value.okWide Tryd.prog W r base 26 v) (h : DataW.Trod enc Tryd.prog W 0 sp held 26 v d p) :
    ∃ (q : Pms) (a : Option Addr) (n cap : Nat) (bs : List Nat) (b : Option Addr) (m dap : Nat) (ys : List Nat), (q.ok ∧ n = bs.length ∧ n ≤ cap ∧ Small bs ∧ BsAt W a bs (fun k => k < W.heap.size) ∧ m = ys.length ∧ m ≤ dap ∧ Small ys ∧ BsAt W b ys (fun k => k < W.heap.size)) ∧
      v = .agg #[.int .i64 q.fd, .int .i64 q.th, .int .i64 q.sh, .int .i64 q.ln, .slice a n cap, .slice b m dap] := by
  obtain ⟨cs, rfl, hsz⟩ := okWide_struct Tryd.underlying26 hok
  rw [cells_sec] at hsz
  obtain ⟨l⟩ := cs
  obtain ⟨c0, c1, c2, c3, c4, c5, rfl⟩ := list_six l hsz
  obtain ⟨fuel, hf⟩ := h
  have hf' : DataW.trod enc Tryd.prog W 0 sp held fuel 26 [c0, c1, c2, c3, c4, c5] = some (d, p) := hf
  obtain ⟨xs, n, _, _, hl, hlen, hfs⟩ := DataW.trod_struct Tryd.underlying26 hf'
  match xs, hlen with
  | [y0, y1, y2], _ =>
    have g0 : DataW.trod enc Tryd.prog W 0 sp held n 23 ([c0, c1, c2, c3, c4, c5].drop 0 |>.take (Tryd.prog.cellsOf 23)) = [y0, y1, y2][0]? := hfs 0 _ rfl
    have g1 : DataW.trod enc Tryd.prog W 0 sp held n 24 ([c0, c1, c2, c3, c4, c5].drop 4 |>.take (Tryd.prog.cellsOf 24)) = [y0, y1, y2][1]? := hfs 1 _ rfl
    have g2 : DataW.trod enc Tryd.prog W 0 sp held n 24 ([c0, c1, c2, c3, c4, c5].drop 5 |>.take (Tryd.prog.cellsOf 24)) = [y0, y1, y2][2]? := hfs 2 _ rfl
    rw [cells_pms] at g0
    rw [cells_by1] at g1 g2
    have t0 : DataW.trod enc Tryd.prog W 0 sp held n 23 [c0, c1, c2, c3] = some y0 := g0
    have t1 : DataW.trod enc Tryd.prog W 0 sp held n 24 [c4] = some y1 := g1
    have t2 : DataW.trod enc Tryd.prog W 0 sp held n 24 [c5] = some y2 := g2
    obtain ⟨q, hq, e⟩ := params_of_trod t0
    simp at e
    obtain ⟨rfl, rfl, rfl, rfl⟩ := e
    obtain ⟨a, an, ac, rfl⟩ := slice_of_trod' Tryd.underlying24 t1
    obtain ⟨b, bn, bc, rfl⟩ := slice_of_trod' Tryd.underlying24 t2
    obtain ⟨bs, h1, h2, h3, h4⟩ := bytes_of_trod t1
    obtain ⟨ys, h5, h6, h7, h8⟩ := bytes_of_trod t2
    exact ⟨q, a, an, ac, bs, b, bn, bc, ys, ⟨hq, h1, h2, h3, h4, h5, h6, h7, h8⟩, rfl⟩
end
end Go.Proofs.YtclehgconbdkpaaDoor
