/-
  Sums of polynomials and of payloads in plain terms; rows of three numbers in an array of six; elements put behind a row of elements. No condition.
-/
import Derived.Test.YtclehgconbdkpaaDoorDealEva
import Derived.Test.YtclehgconbdkpaaDoorDealC
import Derived.Test.YtclehgconbdkpaaDoorDealVec6
namespace Go.Proofs.YtclehgconbdkpaaDoor
open Go.RowKit
set_option maxRecDepth 100000
set_option maxHeartbeats 4000000
theorem lin_pay (p : Nat) (a b : List Nat) (i : Nat) : fm p (pv (sumL p a b) i % p) = (fm p (pv a i % p) + fm p (pv b i % p)) % p := by
  rw [pv_sum, fm_mod p (pv a i), fm_mod p (pv b i), fm_add]
/-- The lists of sums. -/
def linL (p : Nat) (A B : List (List Nat)) : List (List Nat) := List.zipWith (sumL p) A B
theorem linL_length (p : Nat) {A B : List (List Nat)} {n : Nat} (h1 : A.length = n) (h2 : B.length = n) : (linL p A B).length = n := by simp [linL, h1, h2]
theorem linL_get {p k : Nat} {A B : List (List Nat)} {a b : List Nat} (h1 : A[k]? = some a) (h2 : B[k]? = some b) : (linL p A B)[k]? = some (sumL p a b) := by
  simp [linL, List.getElem?_zipWith, h1, h2]
theorem linL_snoc {p k : Nat} {A B : List (List Nat)} {a b : List Nat} (h1 : A[k]? = some a) (h2 : B[k]? = some b) : linL p (A.take (k + 1)) (B.take (k + 1)) = linL p (A.take k) (B.take k) ++ [sumL p a b] := by
  have hk := (List.getElem?_eq_some_iff.1 h1).1
  have hk2 := (List.getElem?_eq_some_iff.1 h2).1
  unfold linL
  rw [List.take_add_one, List.take_add_one, h1, h2]
  rw [List.zipWith_append (by rw [List.length_take, List.length_take]; omega)]
  rfl
theorem payN_get {p : Nat} {cs : List (List Nat)} {i c : Nat} {l : List Nat} (h : cs[c]? = some l) : (payN p cs i)[c]? = some (fm p (pv l i % p)) := by
  unfold payN; rw [List.getElem?_map, h]; rfl
theorem sumL_len {p : Nat} {a b : List Nat} {n : Nat} (h1 : a.length = n) (h2 : b.length = n) : (sumL p a b).length = n := by simp [sumL, h1, h2]
theorem sumL_get {p n t x y : Nat} {a b : List Nat} (ha : a.length = n) (hb : b.length = n) (h1 : a[t]? = some x) (h2 : b[t]? = some y) : (sumL p a b)[t]? = some ((x + y) % p) := by
  have ht := (List.getElem?_eq_some_iff.1 h1).1
  unfold sumL
  rw [List.getElem?_map, ha, hb, Nat.max_self, List.getElem?_range (by omega)]
  show some ((a.getD t 0 + b.getD t 0) % p) = _
  rw [List.getD_eq_getElem?_getD, List.getD_eq_getElem?_getD, h1, h2]; rfl
/-- Two rows of three numbers. -/
def rows6 (n0 n1 n2 n3 n4 n5 : Nat) : List (List Nat) := [[n0, n1, n2], [n3, n4, n5]]
theorem rows6_get {n0 n1 n2 n3 n4 n5 k : Nat} (h : k < 2) : ∃ x y z, (rows6 n0 n1 n2 n3 n4 n5)[k]? = some [x, y, z] := by
  have : k = 0 ∨ k = 1 := by omega
  rcases this with rfl | rfl
  · exact ⟨_, _, _, rfl⟩
  · exact ⟨_, _, _, rfl⟩
abbrev V6C (n0 n1 n2 n3 n4 n5 : Nat) : Array Value := #[.int .u64 (wd n0 0 : Int), .int .u64 (wd n0 1 : Int), .int .u64 (wd n0 2 : Int), .int .u64 (wd n0 3 : Int), .int .u64 (wd n1 0 : Int), .int .u64 (wd n1 1 : Int), .int .u64 (wd n1 2 : Int), .int .u64 (wd n1 3 : Int), .int .u64 (wd n2 0 : Int), .int .u64 (wd n2 1 : Int), .int .u64 (wd n2 2 : Int), .int .u64 (wd n2 3 : Int), .int .u64 (wd n3 0 : Int), .int .u64 (wd n3 1 : Int), .int .u64 (wd n3 2 : Int), .int .u64 (wd n3 3 : Int), .int .u64 (wd n4 0 : Int), .int .u64 (wd n4 1 : Int), .int .u64 (wd n4 2 : Int), .int .u64 (wd n4 3 : Int), .int .u64 (wd n5 0 : Int), .int .u64 (wd n5 1 : Int), .int .u64 (wd n5 2 : Int), .int .u64 (wd n5 3 : Int)]
theorem row6_ls {w : World} {b k : Nat} {T : TypeId} {n0 n1 n2 n3 n4 n5 : Nat} {xs : List Nat} (h : w.heap[b]? = some (.cells (V6C n0 n1 n2 n3 n4 n5) T (0, 0))) (hk : (rows6 n0 n1 n2 n3 n4 n5)[k]? = some xs) : Ls w (.slice (some ⟨b, k * 12, none⟩) 3 3) xs ∧ xs.length = 3 := by
  have c := fun j => cell_of_heap h j
  match k, hk with
  | 0, hk =>
    cases hk
    refine ⟨⟨_, 3, rfl, by simp, fun _ => ⟨b, 0, rfl, trivial, fun j x hj => ?_⟩⟩, rfl⟩
    match j, hj with
    | 0, hj => cases hj; exact ⟨c 0, c 1, c 2, c 3⟩
    | 1, hj => cases hj; exact ⟨c 4, c 5, c 6, c 7⟩
    | 2, hj => cases hj; exact ⟨c 8, c 9, c 10, c 11⟩
    | j + 3, hj => simp at hj
  | 1, hk =>
    cases hk
    refine ⟨⟨_, 3, rfl, by simp, fun _ => ⟨b, 12, rfl, trivial, fun j x hj => ?_⟩⟩, rfl⟩
    match j, hj with
    | 0, hj => cases hj; exact ⟨c 12, c 13, c 14, c 15⟩
    | 1, hj => cases hj; exact ⟨c 16, c 17, c 18, c 19⟩
    | 2, hj => cases hj; exact ⟨c 20, c 21, c 22, c 23⟩
    | j + 3, hj => simp at hj
  | k + 2, hk => simp [rows6] at hk
theorem rows6_lt {n0 n1 n2 n3 n4 n5 : Nat} (h : n0 < R256 ∧ n1 < R256 ∧ n2 < R256 ∧ n3 < R256 ∧ n4 < R256 ∧ n5 < R256) : ∀ c ∈ rows6 n0 n1 n2 n3 n4 n5, ∀ x ∈ c, x < R256 := by
  obtain ⟨h0, h1, h2, h3, h4, h5⟩ := h
  intro c hc x hx
  simp only [rows6, List.mem_cons, List.not_mem_nil, or_false] at hc
  rcases hc with rfl | rfl <;> simp only [List.mem_cons, List.not_mem_nil, or_false] at hx <;> rcases hx with rfl | rfl | rfl <;> assumption
/-- The elements of a row of three numbers, in new memory. -/
theorem vals3 {p : Nat} (hp : p < R256) (h1 : 1 < p) (xs : List Nat) (hx : ∀ x ∈ xs, x < R256) (hl : xs.length = 3) (v : Value) (B : Nat) (w : World) (hB : B ≤ w.heap.size) (hV : Ls w v xs) :
    Calls Tryd.prog 19 #[V p, v] w fun e w' => ∃ za zc ea ec, e = .returned (.tuple #[.slice za 3 zc, .slice ea 3 ec]) ∧ w'.ownsRow B 66 4 (.slice ea 3 ec) 3 (flat4 ((xs.map (· % p)).map (fm p))) ∧ Off (fun _ => False) w w' := by
  refine (values_own hp h1 xs hx (by omega) v w hV).mono ?_
  rintro e w' ⟨a, c, a2, c2, rfl, _, h2, hO⟩
  rw [hl] at h2 ⊢
  exact ⟨a, c, a2, c2, rfl, own_below h2 hB, hO⟩
theorem el_info1 : (Tryd.prog.info? 66).map (fun i => (i.zero, i.size, i.bytes)) = some (some (.agg #[.int .u64 0, .int .u64 0, .int .u64 0, .int .u64 0]), 4, 32) := by kernel_rfl
/-- One element put behind a row of elements. -/
theorem app_el {B bz k : Nat} {W : World} {v : Value} {xs : List Nat} {z : Nat} {T : TypeId} (h1 : W.ownsRow B 66 4 v k (flat4 xs)) (hB : B ≤ W.heap.size) (hb : W.heap[bz]? = some (.cells #[.int .u64 (wd z 0 : Int), .int .u64 (wd z 1 : Int), .int .u64 (wd z 2 : Int), .int .u64 (wd z 3 : Int)] T (0, 0))) (hk : k + 1 ≤ 100000) :
    ∃ v' w', (Builtin.append_ #[47, 47] 47 #[v, .slice (some ⟨bz, 0, none⟩) 1 1]).run Tryd.prog W = .ok v' w' ∧ w'.ownsRow B 66 4 v' (k + 1) (flat4 (xs ++ [z])) ∧ W.grownBy w' v.ownBlock := by
  obtain ⟨i0, hi, hz0, hz1, hz2⟩ := info_parts el_info1
  obtain ⟨v', w', hr, ho, hg, _, _⟩ := run_append_own_at (P := Tryd.prog) W B 47 47 66 i0 _ 4 32 Tryd.underlying47 hi hz0 hz1 hz2 rfl (by decide) v k (flat4 xs) h1 ⟨bz, 0, none⟩ 1 1 (words4 z) rfl (words4_at hb) (words4_one z) (by unfold maxLen; omega) (by omega) hB
  refine ⟨v', w', hr, ?_, hg⟩
  rw [flat4_append]
  exact ho
/-- Two rows do not lie in the same block. -/
def Ap (u v : Value) : Prop := ∀ g, u.ownBlock = some g → v.ownBlock ≠ some g
theorem Ap.symm {u v : Value} (h : Ap u v) : Ap v u := fun g hv hu => h g hu hv
theorem Ap.nil (v : Value) : Ap (.slice none 0 0) v := fun g h => by simp [Value.ownBlock] at h
theorem Ap.more {W : World} {u u' v : Value} (h : Ap u v) (hv : ∀ g, v.ownBlock = some g → g < W.heap.size) (hb : u'.ownBlock = u.ownBlock ∨ u'.ownBlock = some W.heap.size) : Ap u' v := fun g hu e => by
  rcases hb with hb | hb
  · exact h g (by rw [← hb]; exact hu) e
  · rw [hb] at hu; cases hu; have := hv _ e; omega
theorem Ap.or {u v : Value} (h : Ap u v) : u.ownBlock = none ∨ u.ownBlock ≠ v.ownBlock := by
  cases hu : u.ownBlock with
  | none => exact .inl rfl
  | some g => exact .inr (fun e => h g hu e.symm)
theorem RowLL.lt {Ti To : TypeId} {B : Nat} {W : World} {v : Value} {zss : List (List Nat)} (h : RowLL Ti To B W v zss) : ∀ g, v.ownBlock = some g → g < W.heap.size := fun g e => by
  obtain ⟨us, k1⟩ := h.row
  exact (World.ownsRow.lt k1 g e).2
/-- Rows of lists are as they were where another row of such lists is appended to. -/
theorem RowLL.keptA {Ti To : TypeId} {B B' n size : Nat} {W W' : World} {v s : Value} {zss : List (List Nat)} {xs : List Value} (h : RowLL Ti To B W v zss) (hg : W.grownBy W' s.ownBlock) (hs : W.ownsRow B' To size s n xs) (h1 : Ti ≠ To) (ha : Ap v s) : RowLL Ti To B W' v zss := by
  obtain ⟨us, k1, k2, k3⟩ := h
  refine ⟨us, k1.kept hg ha.or, k2, fun t u zs hu hz => ?_⟩
  obtain ⟨a, c, e, h4⟩ := k3 t u zs hu hz
  exact ⟨a, c, e, h4.kept hg (rows_apart h4 hs h1)⟩
theorem app_one {B : Nat} {w V : World} {x : Value} {X : List (List Nat)} {u : List Nat} {a : Option Addr} {c : Nat} (hO : Off (fun _ => False) w V) (hB : w.heap.size = B) (hx : RowLL 66 47 B V x X) (hu : V.ownsRow B 66 4 (.slice a 3 c) 3 (flat4 u)) (hl : u.length = 3) (hX : X.length ≤ 10) :
    ∃ x' w1, (Builtin.append_ #[29, 29] 29 #[x, .slice (some ⟨V.heap.size, 0, none⟩) 1 1]).run Tryd.prog (V.alloc (.cells #[.slice a 3 c] 47)) = .ok x' w1 ∧ RowLL 66 47 B w1 x' (X ++ [u]) ∧ Off (fun _ => False) w w1 ∧
      (∀ v, (∀ g, v.ownBlock = some g → g < V.heap.size) → Ap x v → Ap x' v) ∧ (∀ v Y, RowLL 66 47 B V v Y → Ap v x → RowLL 66 47 B w1 v Y) ∧
      (∀ b d ys, V.ownsRow B 66 4 (.slice b 3 d) 3 (flat4 ys) → w1.ownsRow B 66 4 (.slice b 3 d) 3 (flat4 ys)) := by
  have hA : Off (fun _ => False) V (V.alloc (.cells #[.slice a 3 c] 47)) := (Off.refl _ V).alloc _
  have hx1 := hx.off hA (fun _ _ c => c)
  have hbz : (V.alloc (.cells #[.slice a 3 c] 47)).heap[V.heap.size]? = some (.cells #[.slice a 3 c] 47 (0, 0)) := heap_new' rfl _
  obtain ⟨x', w1, hr, h2, hg, hb⟩ := app_lel (bz := V.heap.size) (zs := u) (a := a) (c := c) hx1 (by rw [← hB]; exact Nat.le_trans hO.size hA.size) (by rw [hl]; exact own_offT hu hA (fun _ _ c => c)) (by rw [hl]; exact hbz) (by omega)
  obtain ⟨us, hus⟩ := hx1.row
  refine ⟨x', w1, hr, h2, hx1.off_grown (hO.trans hA (fun _ _ c => c)) (by omega) hg, fun v hv ha => ha.more (W := V.alloc (.cells #[.slice a 3 c] 47)) (fun g e => Nat.lt_of_lt_of_le (hv g e) hA.size) hb, fun v Y hY ha => (hY.off hA (fun _ _ c => c)).keptA hg hus el_ne_els ha, fun b d ys hr2 => ?_⟩
  have h3 := own_offT hr2 hA (fun _ _ c => c)
  exact h3.kept hg (rows_apart h3 hus el_ne_els)
theorem linL_all (p n : Nat) : ∀ (A B : List (List Nat)), (∀ a ∈ A, a.length = n) → (∀ b ∈ B, b.length = n) → ∀ c ∈ linL p A B, c.length = n
  | [], _, _, _, c, h => by simp [linL] at h
  | _ :: _, [], _, _, c, h => by simp [linL] at h
  | a :: A, b :: B, h1, h2, c, h => by
    have e : linL p (a :: A) (b :: B) = sumL p a b :: linL p A B := rfl
    rw [e] at h
    rcases List.mem_cons.1 h with rfl | h
    · exact sumL_len (h1 a (List.mem_cons_self ..)) (h2 b (List.mem_cons_self ..))
    · exact linL_all p n A B (fun x hx => h1 x (List.mem_cons_of_mem _ hx)) (fun x hx => h2 x (List.mem_cons_of_mem _ hx)) c h
/-- Where a share's payload lies. -/
theorem share_at {q : Pms} {P k : Nat} {W : World} {a : Option Addr} {c : Nat} {cs : List (List Nat)} {S : Nat → Prop} (h : ShsAt W (.slice a 4 c) (shrsN q P cs) S) (hg : (shrsN q P cs)[k]? = some (shrN q P cs (k + 1))) (hk : k < 4) (h2 : cs.length = 2) :
    ∃ b off eb eo pc, a = some ⟨b, off, none⟩ ∧ W.cell? ⟨b, off + k * 5 + 4, none⟩ = some (.slice (some ⟨eb, eo, none⟩) 2 pc) ∧ ∀ j x, (payN P cs (k + 1))[j]? = some x → elAt W eb (eo + j * 4) x := by
  obtain ⟨s, b, off, hs, _, ha, _, _, _, _, _, pa, pc, c4, _, hV⟩ := h.at hk
  rw [hg] at hs
  cases hs
  have hl : (shrN q P cs (k + 1)).pl.length = 2 := by show (payN P cs (k + 1)).length = 2; simp [payN, h2]
  rw [hl] at c4 hV
  obtain ⟨x0, hx0⟩ : ∃ x, (payN P cs (k + 1))[0]? = some x := ⟨_, List.getElem?_eq_getElem (by rw [show (payN P cs (k + 1)).length = 2 from hl]; omega)⟩
  obtain ⟨eb, eo, rfl, _, _⟩ := hV.get (show (shrN q P cs (k + 1)).pl[0]? = some x0 from hx0)
  refine ⟨b, off, eb, eo, pc, ha, c4, fun j x hj => ?_⟩
  obtain ⟨_, _, e, _, h4⟩ := hV.get (show (shrN q P cs (k + 1)).pl[j]? = some x from hj)
  cases e
  exact h4
theorem equal4 (z : Nat) (W : World) : (Op.equalIn 10000 51 (.agg #[.int .u64 (wd z 0 : Int), .int .u64 (wd z 1 : Int), .int .u64 (wd z 2 : Int), .int .u64 (wd z 3 : Int)]) (.agg #[.int .u64 (wd z 0 : Int), .int .u64 (wd z 1 : Int), .int .u64 (wd z 2 : Int), .int .u64 (wd z 3 : Int)])).run Tryd.prog W = .ok true W := equalIn_same z W
end Go.Proofs.YtclehgconbdkpaaDoor
