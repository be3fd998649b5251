/-
  The statements' own form and get of layer 8 over this seat's translation. Conditions: the table of fields lies in memory as it was laid; the numbers are numbers of four words.
  Lists of numbers or elements that lie somewhere; the statements' same; the reference's Eval of layer 8. Conditions: the modulus is a number above 1 of four words, the numbers lie below it.
  The reference's Add of layer 8. Conditions: the modulus is a number above 1 of four words, the numbers lie below it, the lists are short.
  The reference's lists of events of layer 8, newly made. Condition: the numbers are small.
-/
import Derived.Test.YtclehgconbdkpaaDoorFieldGrp
import Derived.Test.YtclehgconbdkpaaDoorMontAll
import Derived.Test.YtclehgconbdkpaaDoorPolCore
import Derived.Test.YtclehgconbdkpaaDoorModAll
import Derived.Test.YtclehgconbdkpaaDoorInvTape
import Derived.Test.YtclehgconbdkpaaDoorInvAll
import Derived.Test.YtclehgconbdkpaaDoorElems
import Derived.Test.YtclehgconbdkpaaDoorEvOwn
import Derived.Test.YtclehgconbdkpaaDoorBatPlain
namespace Go.Proofs.YtclehgconbdkpaaDoor
section
open Go.RowKit
attribute [local go_sem ↓] Go.wp_at_zero Go.wp_at_succ
set_option maxHeartbeats 1000000 in
theorem form8_any (p v : Nat) (hp : p < R256) (h1 : 1 < p) (hv : v < R256) (w : World) :
    Calls Tryd.prog 42 #[V p, V v] w fun e w' => e = .returned (V (fm p v)) ∧ Off (fun _ => False) w w' := by
  have FF := Lib.hid (fun W => form_any p v hp h1 hv W)
  obtain ⟨m, hm⟩ : ∃ m, m = fm p v := ⟨_, rfl⟩
  rw [← hm] at FF ⊢
  clear hp h1 hv hm
  go_enter Tryd.func42, Tryd.ntmps42
  go_wp2_with fail
  refine (FF.out _).mono ?_
  rintro e u ⟨rfl, hO⟩
  have hR : u.heap[w.heap.size + 1 + 1]? = some (.cells #[.int .u64 0, .int .u64 0, .int .u64 0, .int .u64 0] 66) := hO.heap (heap_new' (by simp) _) (fun c => c)
  obtain ⟨⟨r0, r1, r2, r3⟩, fz, lt⟩ := zero_cells hR
  have HO := Lib.hid ((((Off.refl _ w).alloc _).alloc _).alloc _ |>.trans hO (fun _ _ c => c))
  clear hR hO
  go_wp2
  refine bodyPost_ret (v := V m) (by simp [results, Tryd.results42, go_sem, r0, r1, r2, r3]) rfl ⟨rfl, ?_⟩
  exact off4 HO.out (by omega) _ _ _ _
end
section
open Go.RowKit
attribute [local go_sem ↓] Go.wp_at_zero Go.wp_at_succ
/-- The slice value v holds the numbers xs, somewhere. -/
def Ls (w : World) (v : Value) (xs : List Nat) : Prop := LsAt w v xs (fun _ => True)
theorem Ls.off {w w' : World} {v : Value} {xs : List Nat} (h : Ls w v xs) (ho : Off (fun _ => False) w w') : Ls w' v xs := LsAt.off h ho (fun _ _ _ c => c)
theorem Ls.lt {w : World} {v : Value} {xs : List Nat} (h : Ls w v xs) : LsAt w v xs (fun k => k < w.heap.size ∧ ¬ False) := LsAt.mono h (fun _ hk _ => ⟨hk, fun c => c⟩)
theorem Ls.of {w : World} {v : Value} {xs : List Nat} {S : Nat → Prop} (h : LsAt w v xs S) : Ls w v xs := h.mono (fun _ _ _ => trivial)
theorem Ls.open {w : World} {v : Value} {xs : List Nat} (h : Ls w v xs) : ∃ a cap, v = .slice a xs.length cap ∧ LsAt w (.slice a xs.length cap) xs (fun k => k < w.heap.size ∧ ¬ False) := by
  have h2 := Ls.lt h
  obtain ⟨a, cap, hv, _⟩ := h
  exact ⟨a, cap, hv, hv ▸ h2⟩
theorem Ls.nil (w : World) : Ls w (.slice none 0 0) [] := ⟨none, 0, rfl, Nat.zero_le _, fun h => by simp at h⟩
theorem Ls.of_nums {w : World} {b cap : Nat} {T : TypeId} {xs : List Nat} (h : NumsAt w b T xs) (hl : xs.length ≤ 100000) (k : Nat) (hk : k ≤ xs.length) : Ls w (.slice (some ⟨b, 0, none⟩) k cap) (xs.take k) := by
  refine ⟨some ⟨b, 0, none⟩, cap, by rw [List.length_take, Nat.min_eq_left hk], by rw [List.length_take]; omega, fun _ => ⟨b, 0, rfl, trivial, fun j x hx => ?_⟩⟩
  rw [List.getElem?_take] at hx
  split at hx
  · have := NumsAt.cell h hx; rw [Nat.zero_add]; exact this
  · cases hx
theorem Ls.of_all {w : World} {b cap : Nat} {T : TypeId} {xs : List Nat} (h : NumsAt w b T xs) (hl : xs.length ≤ 100000) : Ls w (.slice (some ⟨b, 0, none⟩) xs.length cap) xs := by
  have := Ls.of_nums (cap := cap) h hl xs.length (Nat.le_refl _)
  rwa [List.take_length] at this
/-- Slot value u holds the numbers xs once operation i has been carried out. -/
def Lk (l : Nat → Bool) (i : Nat) (u : Value) (w : World) (xs : List Nat) : Prop := l i = true → Ls w u xs
theorem Lk.start (i : Nat) (u : Value) (w : World) (xs : List Nat) : Lk (fun _ => false) i u w xs := fun h => by cases h
theorem Lk.new {l : Nat → Bool} {i : Nat} {u : Value} {w : World} {xs : List Nat} (h : Ls w u xs) : Lk (upd l i) i u w xs := fun _ => h
theorem Lk.keep {l : Nat → Bool} {i : Nat} {u : Value} {w w' : World} {xs : List Nat} (h : Lk l i u w xs) (ho : Off (fun _ => False) w w') {k : Nat} (hk : (k == i) = false) : Lk (upd l k) i u w' xs := fun hl => by
  rw [upd_k l hk] at hl; exact (h hl).off ho
/-- The same, and its block is not the one that operation j makes. -/
def Lx (l : Nat → Bool) (i j : Nat) (u : Value) (b : Nat) (w : World) (xs : List Nat) : Prop := l i = true → LsAt w u xs (fun k => l j = true → k ≠ b)
theorem Lx.start (i j : Nat) (u : Value) (b : Nat) (w : World) (xs : List Nat) : Lx (fun _ => false) i j u b w xs := fun h => by cases h
theorem Lx.new {l : Nat → Bool} {i j : Nat} {u : Value} {b : Nat} {w w' : World} {xs : List Nat} (h : LsAt w' u xs (fun k => w.heap.size ≤ k)) (hb : l j = true → b < w.heap.size) (hij : (i == j) = false) : Lx (upd l i) i j u b w' xs :=
  fun _ => h.mono (fun k _ hk hj => by rw [upd_k l hij] at hj; have := hb hj; omega)
theorem Lx.made {l : Nat → Bool} {i j : Nat} {u : Value} {b : Nat} {w : World} {o : Obj} {xs : List Nat} (h : Lx l i j u b w xs) (hji : (j == i) = false) : Lx (upd l j) i j u w.heap.size (w.alloc o) xs := fun hl => by
  rw [upd_k l hji] at hl
  have h1 : LsAt w u xs (fun k => upd l j j = true → k ≠ w.heap.size) := (h hl).mono (fun k hk _ _ => by omega)
  exact h1.off ((Off.refl (fun _ => False) w).alloc o) (fun _ _ _ c => c)
theorem Lx.stored {l : Nat → Bool} {i j k : Nat} {u : Value} {b : Nat} {w : World} {vs : List Value} {xs : List Nat} (h : Lx l i j u b w xs) (hj : l j = true) (hk : (k == i) = false) (hk2 : (k == j) = false) : Lx (upd l k) i j u b (w.setCells b 0 vs) xs := fun hl => by
  rw [upd_k l hk] at hl
  have h1 : LsAt w u xs (fun c => upd l k j = true → c ≠ b) := (h hl).mono (fun c _ hs _ => hs hj)
  exact h1.off (setCells_off b vs 0 w) (fun c _ hs e => hs (by rw [upd_k l hk2]; exact hj) e)
theorem Lx.keep {l : Nat → Bool} {i j k : Nat} {u : Value} {b : Nat} {w w' : World} {xs : List Nat} (h : Lx l i j u b w xs) (ho : Off (fun _ => False) w w') (hk : (k == i) = false) (hk2 : (k == j) = false) : Lx (upd l k) i j u b w' xs := fun hl => by
  rw [upd_k l hk] at hl
  have h1 : LsAt w u xs (fun c => upd l k j = true → c ≠ b) := (h hl).mono (fun c _ hs hj => hs (by rw [upd_k l hk2] at hj; exact hj))
  exact h1.off ho (fun _ _ _ c => c)
theorem Slot.void {l : Nat → Bool} {i j : Nat} {u v : Value} (h : l j = false) (hk : (i == j) = false) : Slot (upd l i) j u v := fun hl => by
  rw [upd_k l hk, h] at hl; cases hl
theorem Dep.via {l : Nat → Bool} {i s : Nat} (h : Dep l i s) (hs : l s = true) : l i = true := by
  cases hi : l i with
  | true => rfl
  | false => rw [h hi] at hs; cases hs
theorem LsAt.at {w : World} {a : Option Addr} {n cap : Nat} {xs : List Nat} {S : Nat → Prop} (h : LsAt w (.slice a n cap) xs S) {k : Nat} (hk : k < n) : ∃ x b off, xs[k]? = some x ∧ a = some ⟨b, off, none⟩ ∧ elAt w b (off + k * 4) x := by
  obtain ⟨hl, _⟩ := h.len
  have hx : xs[k]? = some xs[k] := List.getElem?_eq_getElem (by omega)
  obtain ⟨b, off, ha, _, hc⟩ := h.get hx
  exact ⟨_, b, off, hx, ha, hc⟩
/-- What the reference's Eval keeps. -/
structure EvW (w W : World) (bp p bx x rb b7 u b8 pw : Nat) : Prop where
  fp : W.heap[bp]? = some (.cells #[.int .u64 (wd p 0 : Int), .int .u64 (wd p 1 : Int), .int .u64 (wd p 2 : Int), .int .u64 (wd p 3 : Int)] 51 (0, 0))
  fx : W.heap[bx]? = some (.cells #[.int .u64 (wd x 0 : Int), .int .u64 (wd x 1 : Int), .int .u64 (wd x 2 : Int), .int .u64 (wd x 3 : Int)] 51 (0, 0))
  fr : W.heap[rb]? = some (.cells #[.int .u64 0, .int .u64 0, .int .u64 0, .int .u64 0] 51 (0, 0))
  fo : W.heap[b7]? = some (.cells #[.int .u64 (wd u 0 : Int), .int .u64 (wd u 1 : Int), .int .u64 (wd u 2 : Int), .int .u64 (wd u 3 : Int)] 51 (0, 0))
  fw : W.heap[b8]? = some (.cells #[.int .u64 (wd pw 0 : Int), .int .u64 (wd pw 1 : Int), .int .u64 (wd pw 2 : Int), .int .u64 (wd pw 3 : Int)] 51 (0, 0))
  off : Off (fun _ => False) w W
set_option maxRecDepth 100000 in
set_option maxHeartbeats 4000000 in
theorem refeval_any {p : Nat} (hp : p < R256) (h1 : 1 < p) (xs : List Nat) (hx : ∀ v ∈ xs, v < p) (x : Nat) (hxp : x < p) (v : Value) (w : World) (hV : Ls w v xs) :
    Calls Tryd.prog 75 #[V p, v, V x] w fun e w' => e = .returned (V (pv xs x % p)) ∧ Off (fun _ => False) w w' := by
  obtain ⟨a, cap, rfl, hL⟩ := hV.open
  clear hV
  obtain ⟨n, hn⟩ : ∃ n, n = xs.length := ⟨_, rfl⟩
  rw [← hn] at hL ⊢
  have HM := Lib.hid (fun a b ha hb W => mod_mul p a b hp h1 ha (Nat.lt_trans hb hp) W : ∀ a b, a < p → b < p → ∀ W, _)
  have HA := Lib.hid (fun a b ha hb W => mod_add p a b hp ha hb W : ∀ a b, a < p → b < p → ∀ W, _)
  obtain ⟨o1, ho1⟩ : ∃ o1, o1 = 1 := ⟨_, rfl⟩
  have HO1 := Lib.hid (fun W => by have h := mod_one W; rw [← ho1] at h; exact h)
  have Ho1 := Lib.hid ho1
  clear ho1
  have HN := Lib.hid hn
  have HL := Lib.hid hL
  have hn2 := hL.len.2
  clear hn hL
  go_enter Tryd.func75, Tryd.ntmps75
  go_wp2_with fail
  refine (HO1.out _).mono ?_
  rintro e u0 ⟨rfl, hO⟩
  have hOa : Off (fun _ => False) w u0 := ((((Off.refl _ w).alloc _).alloc _).alloc _).alloc _ |>.trans hO (fun _ _ c => c)
  have g_p : u0.heap[w.heap.size]? = some (.cells #[.int .u64 (wd p 0 : Int), .int .u64 (wd p 1 : Int), .int .u64 (wd p 2 : Int), .int .u64 (wd p 3 : Int)] 51) := hO.heap (heap_old' (heap_old' (heap_old' (heap_new' rfl _) _) _) _) (fun c => c)
  have g_x : u0.heap[w.heap.size + 1]? = some (.cells #[.int .u64 (wd x 0 : Int), .int .u64 (wd x 1 : Int), .int .u64 (wd x 2 : Int), .int .u64 (wd x 3 : Int)] 51) := hO.heap (heap_old' (heap_old' (heap_new' (by simp) _) _) _) (fun c => c)
  have g_r : u0.heap[w.heap.size + 1 + 1]? = some (.cells #[.int .u64 0, .int .u64 0, .int .u64 0, .int .u64 0] 51) := hO.heap (heap_old' (heap_new' (by simp) _) _) (fun c => c)
  have g_o : u0.heap[w.heap.size + 1 + 1 + 1]? = some (.cells #[.int .u64 0, .int .u64 0, .int .u64 0, .int .u64 0] 51) := hO.heap (heap_new' (by simp) _) (fun c => c)
  obtain ⟨b7, hb7⟩ : ∃ b7, b7 = w.heap.size + 1 + 1 + 1 := ⟨_, rfl⟩
  obtain ⟨rb, hrb⟩ : ∃ rb, rb = w.heap.size + 1 + 1 := ⟨_, rfl⟩
  obtain ⟨bx, hbx⟩ : ∃ bx, bx = w.heap.size + 1 := ⟨_, rfl⟩
  obtain ⟨bp, hbp⟩ : ∃ bp, bp = w.heap.size := ⟨_, rfl⟩
  have hlt := heap_lt g_o
  obtain ⟨b8, hb8⟩ : ∃ b8, b8 = u0.heap.size := ⟨_, rfl⟩
  have HB := Lib.hid (show bp = w.heap.size ∧ bx = w.heap.size + 1 ∧ rb = w.heap.size + 2 ∧ b7 = w.heap.size + 3 ∧ w.heap.size + 3 < b8 by omega)
  rw [← hb7] at g_o
  rw [← hrb] at g_r
  rw [← hbx] at g_x
  rw [← hbp] at g_p
  have HI := Lib.hid (show ∀ W, W = u0.alloc (.cells #[.int .u64 (wd o1 0 : Int), .int .u64 (wd o1 1 : Int), .int .u64 (wd o1 2 : Int), .int .u64 (wd o1 3 : Int)] 51) → EvW w W bp p bx x rb b7 (sg (fun i => xs.getD i 0) 0 x % p) b8 (x ^ 0 % p) from by
    rintro W rfl
    have h0 : sg (fun i => xs.getD i 0) 0 x % p = 0 := Nat.zero_mod _
    have h1' : x ^ 0 % p = o1 := by rw [Nat.pow_zero, Nat.mod_eq_of_lt h1, Ho1.out]
    rw [h0, h1']
    refine ⟨heap_old' g_p _, heap_old' g_x _, heap_old' g_r _, by simp only [wd_zero]; exact heap_old' g_o _, ?_, hOa.alloc _⟩
    rw [hb8]; exact heap_new' rfl _)
  clear hO hOa g_p g_x g_r g_o
  go_wp2_with fail
  rw [← hb8, ← hb7, ← hrb, ← hbx, ← hbp]
  clear hb7 hrb hbx hbp hlt hb8
  go_loopw [9] (fun i wr => ∃ k : Nat, k ≤ n ∧ i = .int .i64 (k : Int) ∧ EvW w wr bp p bx x rb b7 (sg (fun i => xs.getD i 0) k x % p) b8 (x ^ k % p)) (fun i _ => n - (intOf i).toNat)
  case atStart => exact ⟨0, Nat.zero_le _, rfl, HI.out _ rfl⟩
  case round =>
    obtain ⟨k, hk, rfl, hE⟩ := hrel
    by_cases hlt : k < n
    · obtain ⟨c, b, off, hck, rfl, c0, c1, c2, c3⟩ := (HL.out.off hE.off (fun _ _ _ c => c)).at hlt
      have hcp : c < p := hx c (List.mem_of_getElem? hck)
      have hfc : xs.getD k 0 = c := by rw [List.getD_eq_getElem?_getD, hck]; rfl
      obtain ⟨u, hu⟩ : ∃ u, u = sg (fun i => xs.getD i 0) k x % p := ⟨_, rfl⟩
      obtain ⟨pw, hpw⟩ : ∃ pw, pw = x ^ k % p := ⟨_, rfl⟩
      have hup : u < p := by rw [hu]; exact Nat.mod_lt _ (by omega)
      have hpp : pw < p := by rw [hpw]; exact Nat.mod_lt _ (by omega)
      obtain ⟨m, hm⟩ : ∃ m, m = c * pw % p := ⟨_, rfl⟩
      obtain ⟨z, hz⟩ : ∃ z, z = (u + m) % p := ⟨_, rfl⟩
      obtain ⟨p2, hp2⟩ : ∃ p2, p2 = pw * x % p := ⟨_, rfl⟩
      have hmp : m < p := by rw [hm]; exact Nat.mod_lt _ (by omega)
      have HMu := Lib.hid (show ∀ W, Calls Tryd.prog 68 #[V p, V c, V pw] W fun e w' => e = .returned (V m) ∧ Off (fun _ => False) W w' from fun W => by rw [hm]; exact HM.out c pw hcp hpp W)
      have HAd := Lib.hid (show ∀ W, Calls Tryd.prog 29 #[V p, V u, V m] W fun e w' => e = .returned (V z) ∧ Off (fun _ => False) W w' from fun W => by rw [hz]; exact HA.out u m hup hmp W)
      have HM2 := Lib.hid (show ∀ W, Calls Tryd.prog 68 #[V p, V pw, V x] W fun e w' => e = .returned (V p2) ∧ Off (fun _ => False) W w' from fun W => by rw [hp2]; exact HM.out pw x hpp hxp W)
      have HZ := Lib.hid (show z = sg (fun i => xs.getD i 0) (k + 1) x % p by rw [hz, hm, hpw, hu, ← sg_step, hfc])
      have HP2 := Lib.hid (show p2 = x ^ (k + 1) % p by rw [hp2, hpw, pow_step])
      rw [← hu, ← hpw] at hE
      obtain ⟨W1, hW1⟩ : ∃ W1, W1 = wr := ⟨_, rfl⟩
      have HE := Lib.hid hE
      have HPr := Lib.hid hE.fo
      have HK : Hid (∀ W', Off (fun k => k = b7) wr W' → (W'.cell? ⟨bp, 0, none⟩ = some (.int .u64 (wd p 0 : Int)) ∧ W'.cell? ⟨bp, 1, none⟩ = some (.int .u64 (wd p 1 : Int)) ∧ W'.cell? ⟨bp, 2, none⟩ = some (.int .u64 (wd p 2 : Int)) ∧ W'.cell? ⟨bp, 3, none⟩ = some (.int .u64 (wd p 3 : Int))) ∧ (W'.cell? ⟨b8, 0, none⟩ = some (.int .u64 (wd pw 0 : Int)) ∧ W'.cell? ⟨b8, 1, none⟩ = some (.int .u64 (wd pw 1 : Int)) ∧ W'.cell? ⟨b8, 2, none⟩ = some (.int .u64 (wd pw 2 : Int)) ∧ W'.cell? ⟨b8, 3, none⟩ = some (.int .u64 (wd pw 3 : Int))) ∧ (W'.cell? ⟨b, off + k * 4, none⟩ = some (.int .u64 (wd c 0 : Int)) ∧ W'.cell? ⟨b, off + k * 4 + 1, none⟩ = some (.int .u64 (wd c 1 : Int)) ∧ W'.cell? ⟨b, off + k * 4 + 2, none⟩ = some (.int .u64 (wd c 2 : Int)) ∧ W'.cell? ⟨b, off + k * 4 + 3, none⟩ = some (.int .u64 (wd c 3 : Int))) ∧ Off (fun k => k = b7) wr W') := Lib.hid (fun W' h => by
        have hb := HB.out
        have hbn : b ≠ b7 := fun e => by
          have := (HL.out.at hlt); obtain ⟨_, b2, off2, _, e2, d0, _⟩ := this
          cases e2; have := World.block_lt_of_cell? w _ d0; simp at this; omega
        exact ⟨cells4 (h.heap hE.fp (by omega)), cells4 (h.heap hE.fw (by omega)), ⟨h.cell c0 hbn, h.cell c1 hbn, h.cell c2 hbn, h.cell c3 hbn⟩, h⟩)
      have hkn : (k : Int) < (n : Int) := by omega
      have hwk : IntKind.i64.wrap ((k : Int) + 1) = (k : Int) + 1 := by rw [IntKind.wrap_i64]; omega
      clear hE hW1 W1 hck hcp hfc hu hpw hup hpp hm hz hp2 hmp c0 c1 c2 c3 HM HA
      go_upto_region 6 with fail
      refine wp_region_inv (fun a0 l a' w' => ∃ (u17 : Value) (u18 : Value) (u19 : Value) (u20 : Value) (u21 : Value) (u22 : Value) (u23 : Value) (u24 : Value) (u25 : Value) (u26 : Value), a' = (Act.put (Act.put (Act.put (Act.put (Act.put (Act.put (Act.put (Act.put (Act.put (Act.put a0 (some 17) u17) (some 18) u18) (some 19) u19) (some 20) u20) (some 21) u21) (some 22) u22) (some 23) u23) (some 24) u24) (some 25) u25) (some 26) u26) ∧ Slot l 0 u17 (V p) ∧ Slot l 1 u18 (V u) ∧ Slot l 2 u19 (V p) ∧ Slot l 3 u20 (.slice (some ⟨b, off, none⟩) n cap) ∧ Slot l 4 u21 (.int .i64 (k : Int)) ∧ Slot l 5 u22 (.pointer (some ⟨b, off + k * 4, none⟩)) ∧ Slot l 6 u23 (V c) ∧ Slot l 7 u24 (V pw) ∧ Slot l 8 u25 (V m) ∧ Slot l 9 u26 (V z) ∧ Old l 10 b7 wr w' (.cells #[.int .u64 (wd u 0 : Int), .int .u64 (wd u 1 : Int), .int .u64 (wd u 2 : Int), .int .u64 (wd u 3 : Int)] 51) (.cells #[.int .u64 (wd z 0 : Int), .int .u64 (wd z 1 : Int), .int .u64 (wd z 2 : Int), .int .u64 (wd z 3 : Int)] 51) ∧ Dep l 1 10 ∧ Off (fun k => k = b7) wr w') (by kernel_rfl) (by kernel_rfl) ?_ ⟨?_, ?_, ?_, ?_, ?_, ?_, ?_, ?_, ?_, ?_, ?_, trivial⟩ ?_
      · refine ⟨?z17, ?z18, ?z19, ?z20, ?z21, ?z22, ?z23, ?z24, ?z25, ?z26, ?fr, Slot.start _ _ _, Slot.start _ _ _, Slot.start _ _ _, Slot.start _ _ _, Slot.start _ _ _, Slot.start _ _ _, Slot.start _ _ _, Slot.start _ _ _, Slot.start _ _ _, Slot.start _ _ _, Old.start HPr.out _ _, Dep.start _ _, (Off.refl _ wr).drew⟩
        case fr => first | (simp only [Act.put, List.setIfInBounds_toArray, List.set_cons_zero, List.set_cons_succ]; rfl) | simp only [Act.put, List.setIfInBounds_toArray, List.set_cons_zero, List.set_cons_succ]
      · intro l a wr hI hl hd K' hK
        obtain ⟨u17, u18, u19, u20, u21, u22, u23, u24, u25, u26, ha, s0, s1, s2, s3, s4, s5, s6, s7, s8, s9, O0, P1_10, hO⟩ := hI
        simp only [Act.put, List.setIfInBounds_toArray, List.set_cons_zero, List.set_cons_succ] at ha
        subst ha
        have hc := HK.out wr hO
        have p0 := hc.1.1
        have p1 := hc.1.2.1
        have p2 := hc.1.2.2.1
        have p3 := hc.1.2.2.2
        clear hc
        go_simp
        refine hK.out _ _ ⟨_, _, _, _, _, _, _, _, _, _, ?_, Slot.new _ _ _, s1.keep rfl, s2.keep rfl, s3.keep rfl, s4.keep rfl, s5.keep rfl, s6.keep rfl, s7.keep rfl, s8.keep rfl, s9.keep rfl, O0.keep (Off.refl _ wr) rfl, P1_10.keep rfl, hO⟩
        simp only [Act.put, List.setIfInBounds_toArray, List.set_cons_zero, List.set_cons_succ]
      · intro l a wr hI hl hd K' hK
        obtain ⟨u17, u18, u19, u20, u21, u22, u23, u24, u25, u26, ha, s0, s1, s2, s3, s4, s5, s6, s7, s8, s9, O0, P1_10, hO⟩ := hI
        simp only [Act.put, List.setIfInBounds_toArray, List.set_cons_zero, List.set_cons_succ] at ha
        subst ha
        have hZ := O0.was (P1_10 hl)
        obtain ⟨p0, p1, p2, p3⟩ := cells4 hZ
        clear hZ
        go_simp
        refine hK.out _ _ ⟨_, _, _, _, _, _, _, _, _, _, ?_, s0.keep rfl, Slot.new _ _ _, s2.keep rfl, s3.keep rfl, s4.keep rfl, s5.keep rfl, s6.keep rfl, s7.keep rfl, s8.keep rfl, s9.keep rfl, O0.keep (Off.refl _ wr) rfl, P1_10.keep rfl, hO⟩
        simp only [Act.put, List.setIfInBounds_toArray, List.set_cons_zero, List.set_cons_succ]
      · intro l a wr hI hl hd K' hK
        obtain ⟨u17, u18, u19, u20, u21, u22, u23, u24, u25, u26, ha, s0, s1, s2, s3, s4, s5, s6, s7, s8, s9, O0, P1_10, hO⟩ := hI
        simp only [Act.put, List.setIfInBounds_toArray, List.set_cons_zero, List.set_cons_succ] at ha
        subst ha
        have hc := HK.out wr hO
        have p0 := hc.1.1
        have p1 := hc.1.2.1
        have p2 := hc.1.2.2.1
        have p3 := hc.1.2.2.2
        clear hc
        go_simp
        refine hK.out _ _ ⟨_, _, _, _, _, _, _, _, _, _, ?_, s0.keep rfl, s1.keep rfl, Slot.new _ _ _, s3.keep rfl, s4.keep rfl, s5.keep rfl, s6.keep rfl, s7.keep rfl, s8.keep rfl, s9.keep rfl, O0.keep (Off.refl _ wr) rfl, P1_10.keep rfl, hO⟩
        simp only [Act.put, List.setIfInBounds_toArray, List.set_cons_zero, List.set_cons_succ]
      · intro l a wr hI hl hd K' hK
        obtain ⟨u17, u18, u19, u20, u21, u22, u23, u24, u25, u26, ha, s0, s1, s2, s3, s4, s5, s6, s7, s8, s9, O0, P1_10, hO⟩ := hI
        simp only [Act.put, List.setIfInBounds_toArray, List.set_cons_zero, List.set_cons_succ] at ha
        subst ha
        go_simp
        refine hK.out _ _ ⟨_, _, _, _, _, _, _, _, _, _, ?_, s0.keep rfl, s1.keep rfl, s2.keep rfl, Slot.new _ _ _, s4.keep rfl, s5.keep rfl, s6.keep rfl, s7.keep rfl, s8.keep rfl, s9.keep rfl, O0.keep (Off.refl _ wr) rfl, P1_10.keep rfl, hO⟩
        simp only [Act.put, List.setIfInBounds_toArray, List.set_cons_zero, List.set_cons_succ]
      · intro l a wr hI hl hd K' hK
        obtain ⟨u17, u18, u19, u20, u21, u22, u23, u24, u25, u26, ha, s0, s1, s2, s3, s4, s5, s6, s7, s8, s9, O0, P1_10, hO⟩ := hI
        simp only [Act.put, List.setIfInBounds_toArray, List.set_cons_zero, List.set_cons_succ] at ha
        subst ha
        go_simp
        refine hK.out _ _ ⟨_, _, _, _, _, _, _, _, _, _, ?_, s0.keep rfl, s1.keep rfl, s2.keep rfl, s3.keep rfl, Slot.new _ _ _, s5.keep rfl, s6.keep rfl, s7.keep rfl, s8.keep rfl, s9.keep rfl, O0.keep (Off.refl _ wr) rfl, P1_10.keep rfl, hO⟩
        simp only [Act.put, List.setIfInBounds_toArray, List.set_cons_zero, List.set_cons_succ]
      · intro l a wr hI hl hd K' hK
        obtain ⟨u17, u18, u19, u20, u21, u22, u23, u24, u25, u26, ha, s0, s1, s2, s3, s4, s5, s6, s7, s8, s9, O0, P1_10, hO⟩ := hI
        simp only [Act.put, List.setIfInBounds_toArray, List.set_cons_zero, List.set_cons_succ] at ha
        have q3 := s3 (hd 3 (by decide))
        have q4 := s4 (hd 4 (by decide))
        subst ha q3 q4
        go_simp
        refine hK.out _ _ ⟨_, _, _, _, _, _, _, _, _, _, ?_, s0.keep rfl, s1.keep rfl, s2.keep rfl, s3.keep rfl, s4.keep rfl, Slot.new _ _ _, s6.keep rfl, s7.keep rfl, s8.keep rfl, s9.keep rfl, O0.keep (Off.refl _ wr) rfl, P1_10.keep rfl, hO⟩
        simp only [Act.put, List.setIfInBounds_toArray, List.set_cons_zero, List.set_cons_succ]
      · intro l a wr hI hl hd K' hK
        obtain ⟨u17, u18, u19, u20, u21, u22, u23, u24, u25, u26, ha, s0, s1, s2, s3, s4, s5, s6, s7, s8, s9, O0, P1_10, hO⟩ := hI
        simp only [Act.put, List.setIfInBounds_toArray, List.set_cons_zero, List.set_cons_succ] at ha
        have q5 := s5 (hd 5 (by decide))
        subst ha q5
        have hc := HK.out wr hO
        have p0 := hc.2.2.1.1
        have p1 := hc.2.2.1.2.1
        have p2 := hc.2.2.1.2.2.1
        have p3 := hc.2.2.1.2.2.2
        clear hc
        go_simp
        refine hK.out _ _ ⟨_, _, _, _, _, _, _, _, _, _, ?_, s0.keep rfl, s1.keep rfl, s2.keep rfl, s3.keep rfl, s4.keep rfl, s5.keep rfl, Slot.new _ _ _, s7.keep rfl, s8.keep rfl, s9.keep rfl, O0.keep (Off.refl _ wr) rfl, P1_10.keep rfl, hO⟩
        simp only [Act.put, List.setIfInBounds_toArray, List.set_cons_zero, List.set_cons_succ]
      · intro l a wr hI hl hd K' hK
        obtain ⟨u17, u18, u19, u20, u21, u22, u23, u24, u25, u26, ha, s0, s1, s2, s3, s4, s5, s6, s7, s8, s9, O0, P1_10, hO⟩ := hI
        simp only [Act.put, List.setIfInBounds_toArray, List.set_cons_zero, List.set_cons_succ] at ha
        subst ha
        have hc := HK.out wr hO
        have p0 := hc.2.1.1
        have p1 := hc.2.1.2.1
        have p2 := hc.2.1.2.2.1
        have p3 := hc.2.1.2.2.2
        clear hc
        go_simp
        refine hK.out _ _ ⟨_, _, _, _, _, _, _, _, _, _, ?_, s0.keep rfl, s1.keep rfl, s2.keep rfl, s3.keep rfl, s4.keep rfl, s5.keep rfl, s6.keep rfl, Slot.new _ _ _, s8.keep rfl, s9.keep rfl, O0.keep (Off.refl _ wr) rfl, P1_10.keep rfl, hO⟩
        simp only [Act.put, List.setIfInBounds_toArray, List.set_cons_zero, List.set_cons_succ]
      · intro l a wr hI hl hd K' hK
        obtain ⟨u17, u18, u19, u20, u21, u22, u23, u24, u25, u26, ha, s0, s1, s2, s3, s4, s5, s6, s7, s8, s9, O0, P1_10, hO⟩ := hI
        simp only [Act.put, List.setIfInBounds_toArray, List.set_cons_zero, List.set_cons_succ] at ha
        have q2 := s2 (hd 2 (by decide))
        have q6 := s6 (hd 6 (by decide))
        have q7 := s7 (hd 7 (by decide))
        subst ha q2 q6 q7
        go_simp
        refine (held_inv (HMu.out wr) hO).mono ?_
        rintro e w1 ⟨rfl, hO1, hOW⟩
        go_wp2_with fail
        refine hK.out _ _ ⟨_, _, _, _, _, _, _, _, _, _, ?_, s0.keep rfl, s1.keep rfl, s2.keep rfl, s3.keep rfl, s4.keep rfl, s5.keep rfl, s6.keep rfl, s7.keep rfl, Slot.new _ _ _, s9.keep rfl, O0.keep hOW rfl, P1_10.keep rfl, hO1⟩
        simp only [Act.put, List.setIfInBounds_toArray, List.set_cons_zero, List.set_cons_succ]
      · intro l a wr hI hl hd K' hK
        obtain ⟨u17, u18, u19, u20, u21, u22, u23, u24, u25, u26, ha, s0, s1, s2, s3, s4, s5, s6, s7, s8, s9, O0, P1_10, hO⟩ := hI
        simp only [Act.put, List.setIfInBounds_toArray, List.set_cons_zero, List.set_cons_succ] at ha
        have q0 := s0 (hd 0 (by decide))
        have q1 := s1 (hd 1 (by decide))
        have q8 := s8 (hd 8 (by decide))
        subst ha q0 q1 q8
        go_simp
        refine (held_inv (HAd.out wr) hO).mono ?_
        rintro e w1 ⟨rfl, hO1, hOW⟩
        go_wp2_with fail
        refine hK.out _ _ ⟨_, _, _, _, _, _, _, _, _, _, ?_, s0.keep rfl, s1.keep rfl, s2.keep rfl, s3.keep rfl, s4.keep rfl, s5.keep rfl, s6.keep rfl, s7.keep rfl, s8.keep rfl, Slot.new _ _ _, O0.keep hOW rfl, P1_10.keep rfl, hO1⟩
        simp only [Act.put, List.setIfInBounds_toArray, List.set_cons_zero, List.set_cons_succ]
      · intro l a wr hI hl hd K' hK
        obtain ⟨u17, u18, u19, u20, u21, u22, u23, u24, u25, u26, ha, s0, s1, s2, s3, s4, s5, s6, s7, s8, s9, O0, P1_10, hO⟩ := hI
        simp only [Act.put, List.setIfInBounds_toArray, List.set_cons_zero, List.set_cons_succ] at ha
        have q9 := s9 (hd 9 (by decide))
        subst ha q9
        have hZ := (O0.was hl)
        obtain ⟨m0, m1, m2, m3⟩ := cells4 hZ
        have fz := fun j => frozen_of_heap hZ j
        have lt := heap_lt hZ
        clear hZ
        go_simp
        refine hK.out _ _ ⟨_, _, _, _, _, _, _, _, _, _, ?_, s0.keep rfl, s1.keep rfl, s2.keep rfl, s3.keep rfl, s4.keep rfl, s5.keep rfl, s6.keep rfl, s7.keep rfl, s8.keep rfl, s9.keep rfl, O0.put hl rfl, Dep.at (hd 1 (by decide)), setCells_in hO (fun _ => rfl) [.int .u64 (wd z 0 : Int), .int .u64 (wd z 1 : Int), .int .u64 (wd z 2 : Int), .int .u64 (wd z 3 : Int)]⟩
        simp only [Act.put, List.setIfInBounds_toArray, List.set_cons_zero, List.set_cons_succ]
      · intro l a wc hI hd
        obtain ⟨u17, u18, u19, u20, u21, u22, u23, u24, u25, u26, ha, s0, s1, s2, s3, s4, s5, s6, s7, s8, s9, O0, P1_10, hO⟩ := hI
        simp only [Act.put, List.setIfInBounds_toArray, List.set_cons_zero, List.set_cons_succ] at ha
        have q0 := s0 (hd 0 (by decide))
        have q1 := s1 (hd 1 (by decide))
        have q2 := s2 (hd 2 (by decide))
        have q3 := s3 (hd 3 (by decide))
        have q4 := s4 (hd 4 (by decide))
        have q5 := s5 (hd 5 (by decide))
        have q6 := s6 (hd 6 (by decide))
        have q7 := s7 (hd 7 (by decide))
        have q8 := s8 (hd 8 (by decide))
        have q9 := s9 (hd 9 (by decide))
        have r0 : wc.heap[b7]? = some (.cells #[.int .u64 (wd z 0 : Int), .int .u64 (wd z 1 : Int), .int .u64 (wd z 2 : Int), .int .u64 (wd z 3 : Int)] 51) := O0.now (hd 10 (by decide))
        subst ha q0 q1 q2 q3 q4 q5 q6 q7 q8 q9
        clear hd s0 s1 s2 s3 s4 s5 s6 s7 s8 s9 O0 P1_10
        have hb := HB.out
        have q1 := hO.heap HE.out.fp (by omega)
        have q2 := hO.heap HE.out.fx (by omega)
        have q3 := hO.heap HE.out.fr (by omega)
        have q4 := hO.heap HE.out.fw (by omega)
        obtain ⟨p0, p1, p2', p3⟩ := cells4 q1
        obtain ⟨x0, x1, x2, x3⟩ := cells4 q2
        obtain ⟨w0, w1, w2, w3⟩ := cells4 q4
        have hO5 := HE.out.off.trans hO (fun k hk e => by omega)
        have Q1 := Lib.hid q1
        have Q2 := Lib.hid q2
        have Q3 := Lib.hid q3
        have Q4 := Lib.hid q4
        have R0 := Lib.hid r0
        have HO5 := Lib.hid hO5
        clear q1 q2 q3 q4 r0 hO hO5 hb
        go_wp2_with fail
        clear p0 p1 p2' p3 x0 x1 x2 x3 w0 w1 w2 w3
        refine (HM2.out _).mono ?_
        rintro e u2 ⟨rfl, hO6⟩
        have s4 := hO6.heap Q4.out (fun c => c)
        obtain ⟨m0, m1, m2, m3⟩ := cells4 s4
        have fz := fun j => frozen_of_heap s4 j
        have lt := heap_lt s4
        have HO6 := Lib.hid hO6
        have S4 := Lib.hid s4
        clear hO6 s4
        go_wp2_with fail
        go_roundw
        case rel =>
          have hO7 : Off (fun k => k = b8) u2 (u2.setCells b8 0 (words4 p2)) := setCells_off b8 (words4 p2) 0 u2
          refine ⟨k + 1, by omega, by simp, ?_⟩
          rw [← HZ.out, ← HP2.out]
          have hb := HB.out
          exact ⟨hO7.heap (HO6.out.heap Q1.out (fun c => c)) (by omega), hO7.heap (HO6.out.heap Q2.out (fun c => c)) (by omega), hO7.heap (HO6.out.heap Q3.out (fun c => c)) (by omega), hO7.heap (HO6.out.heap R0.out (fun c => c)) (by omega), setCells_at (vs := words4 p2) S4.out rfl, (HO5.out.trans HO6.out (fun _ _ c => c)).trans hO7 (fun k hk e => by omega)⟩
        case measure => simp [intOf] <;> omega
    · obtain rfl : k = n := by omega
      have hv : sg (fun i => xs.getD i 0) k x % p = pv xs x % p := by rw [pv_sg xs x (Nat.le_refl _), HN.out]
      rw [hv] at hE
      obtain ⟨z, hz⟩ : ∃ z, z = pv xs x % p := ⟨_, rfl⟩
      rw [← hz] at hE
      have HZ := Lib.hid hz
      obtain ⟨o0, o1, o2, o3⟩ := cells4 hE.fo
      obtain ⟨m0, m1, m2, m3⟩ := cells4 hE.fr
      have fz := fun j => frozen_of_heap hE.fr j
      have lt := heap_lt hE.fr
      have HE := Lib.hid hE
      clear hE hz hv
      go_wp2_with fail
      refine bodyPost_ret (v := V z) (by simp [results, Tryd.results75, go_sem, m0, m1, m2, m3]) rfl ⟨by rw [HZ.out], ?_⟩
      exact off4 HE.out.off (by have hb := HB.out; omega) _ _ _ _
end
section
open Go.RowKit
attribute [local go_sem ↓] Go.wp_at_zero Go.wp_at_succ
theorem vec_info : (Tryd.prog.info? 51).map (fun i => (i.zero, i.size, i.bytes)) = some (some (.agg #[.int .u64 0, .int .u64 0, .int .u64 0, .int .u64 0]), 4, 32) := by kernel_rfl
theorem run_make_vec (n : Nat) (hn : n ≤ 100000) (w : World) : (Instr.makeSlice 46 (.int .i64 (n : Int)) (.int .i64 (n : Int))).run Tryd.prog w = .ok (.slice (some ⟨w.heap.size, 0, none⟩) n n) (w.alloc (.cells (flat4 (List.replicate n 0)).toArray 51)) := by
  obtain ⟨i0, hi, hz0, hz1, hz2⟩ := info_parts vec_info
  have := run_make (P := Tryd.prog) w 46 51 i0 _ Tryd.underlying46 hi hz0 .i64 .i64 (n : Int) (n : Int) (by omega) (Int.le_refl _) (by rw [hz2]; omega) (by omega)
  rw [hz1, show (Value.agg #[.int .u64 0, .int .u64 0, .int .u64 0, .int .u64 0]).cells = #[.int .u64 0, .int .u64 0, .int .u64 0, .int .u64 0] from rfl] at this
  rw [← made_zero4]
  simpa using this
/-- The list of f's values. -/
def fL (f : Nat → Nat) (n : Nat) : List Nat := (List.range n).map f
theorem fL_length (f : Nat → Nat) (n : Nat) : (fL f n).length = n := by simp [fL]
theorem fL_get (f : Nat → Nat) {n k : Nat} (h : k < n) : (fL f n)[k]? = some (f k) := by unfold fL; rw [List.getElem?_map, List.getElem?_range h]; rfl
theorem fL_set (f : Nat → Nat) (n k v : Nat) : (fL f n).set k v = fL (fun j => if j = k then v else f j) n := by
  apply List.ext_getElem?
  intro j
  by_cases hk : k < n
  · by_cases hj : j = k
    · subst hj
      rw [List.getElem?_set_self (by rw [fL_length]; exact hk), fL_get _ hk, if_pos rfl]
    · rw [List.getElem?_set_ne (fun e => hj e.symm)]
      by_cases hjn : j < n
      · rw [fL_get _ hjn, fL_get _ hjn, if_neg hj]
      · rw [List.getElem?_eq_none (by rw [fL_length]; omega), List.getElem?_eq_none (by rw [fL_length]; omega)]
  · rw [List.set_eq_of_length_le (by rw [fL_length]; omega)]
    by_cases hjn : j < n
    · rw [fL_get _ hjn, fL_get _ hjn, if_neg (by omega)]
    · rw [List.getElem?_eq_none (by rw [fL_length]; omega), List.getElem?_eq_none (by rw [fL_length]; omega)]
theorem fL_congr {f g : Nat → Nat} {n : Nat} (h : ∀ j, j < n → f j = g j) : fL f n = fL g n := by
  unfold fL; exact List.map_congr_left (fun j hj => h j (List.mem_range.1 hj))
theorem fL_zero (n : Nat) : fL (fun _ => 0) n = List.replicate n 0 := by unfold fL; simp [List.map_const']
end
section
open Go.RowKit
def upE (n : Nat) : List Ev := (List.range n).map (fun j : Nat => ((2 : Int), (j : Int), (0 : Int)))
theorem upE_next (k : Nat) : upE (k + 1) = upE k ++ [((2 : Int), (k : Int), (0 : Int))] := by simp [upE, List.range_succ]
theorem upE_length (n : Nat) : (upE n).length = n := by simp [upE]
theorem coefU_up (n : Nat) : coefU n (List.range n) = upE n := by
  unfold coefU upE
  exact List.map_congr_left (fun j hj => by rw [Nat.mod_eq_of_lt (List.mem_range.1 hj)])
theorem coefD_next (n k : Nat) : coefD n (List.range (k + 1)) = coefD n (List.range k) ++ [((2 : Int), ((n - 1 - k : Nat) : Int), (0 : Int))] := by rw [List.range_succ, coefD_snoc]
def rowE (i m : Nat) : List Ev := (List.range m).map (fun y : Nat => ((3 : Int), (i : Int), (y : Int)))
theorem rowE_next (i k : Nat) : rowE i (k + 1) = rowE i k ++ [((3 : Int), (i : Int), (k : Int))] := by simp [rowE, List.range_succ]
def prE (m : Nat) : Nat → List Ev
  | 0 => []
  | i + 1 => prE m i ++ rowE i m
theorem prE_length (m : Nat) : ∀ i, (prE m i).length = i * m
  | 0 => by simp [prE]
  | i + 1 => by simp [prE, prE_length m i, rowE, Nat.add_mul]
set_option maxHeartbeats 4000000 in
set_option maxRecDepth 100000 in
theorem down_any (n : Nat) (hn2 : n ≤ 10000) (w : World) :
    Calls Tryd.prog 50 #[.int .i64 2, .int .i64 (n : Int)] w fun e w' => ∃ v, e = .returned v ∧ w'.ownsRow w.heap.size 102 3 v n (flat (coefD n (List.range n))) ∧ Off (fun _ => False) w w' := by
  obtain ⟨i0, hi, hz0, hz1, hz2⟩ := info_parts ev_info
  have hwn : IntKind.i64.wrap ((n : Int) - 1) = (n : Int) - 1 := by rw [IntKind.wrap_i64]; omega
  go_enter Tryd.func50, Tryd.ntmps50
  go_wp2
  go_loopw [5, 6] (fun v i wr => ∃ k : Nat, k ≤ n ∧ i = .int .i64 ((n : Int) - 1 - (k : Int)) ∧ (∃ a c, v = .slice a k c ∧ wr.ownsRow w.heap.size 102 3 v k (flat (coefD n (List.range k)))) ∧ Off (fun _ => False) w wr) (fun _ i _ => (intOf i + 1).toNat)
  case atStart => exact ⟨0, Nat.zero_le _, by simp, ⟨none, 0, rfl, World.ownsRow_nil _ _ _ _⟩, Off.refl _ w⟩
  case round =>
    obtain ⟨k, hk, rfl, ⟨va, vc, rfl, hown⟩, hO⟩ := hrel
    by_cases hlt : k < n
    · obtain ⟨d, hd⟩ : ∃ d, d = n - 1 - k := ⟨_, rfl⟩
      have hij : (n : Int) - 1 - (k : Int) = (d : Int) := by omega
      have hge : decide ((0 : Int) ≤ (d : Int)) = true := by simp
      have hwd : IntKind.i64.wrap ((d : Int) - 1) = (d : Int) - 1 := by rw [IntKind.wrap_i64]; omega
      have HNx := Lib.hid (show (d : Int) - 1 = (n : Int) - 1 - ((k + 1 : Nat) : Int) by omega)
      have HF := Lib.hid (show flat (coefD n (List.range k)) ++ flat [((2 : Int), (d : Int), (0 : Int))] = flat (coefD n (List.range (k + 1))) by rw [← flat_append, coefD_next, hd])
      rw [hij]
      have H3 := Lib.hid hown
      have HO := Lib.hid hO
      clear hown hO hij hd hwn
      go_wp2_with (at_builtin; refine wpList_append_own _ rfl _ _ 60 rfl w.heap.size 102 i0 _ 3 24 Tryd.underlying60 hi hz0 hz1 hz2 rfl (by decide) _ k _ rfl (H3.out.alloc _) ⟨wr.heap.size, 0, none⟩ 1 1 (flat [((2 : Int), (d : Int), (0 : Int))]) rfl rfl ?q1 (flat_one _) ?q2 ?q3 ?q4 ?_)
      case q1 =>
        intro j u hj
        have : j = 0 ∨ j = 1 ∨ j = 2 := by
          have := (List.getElem?_eq_some_iff.1 hj).1
          simp [flat] at this; omega
        rcases this with rfl | rfl | rfl <;> simp [flat] at hj <;> subst hj <;> simp [go_sem]
      case q2 => unfold maxLen; omega
      case q3 => omega
      case q4 => have := HO.out.size; simp; omega
      intro v' w1 hown' hgrow hnil
      obtain ⟨g', cap', rfl⟩ := ownsRow_succ hown'
      have hO1 : Off (fun _ => False) w w1 := grown_off (HO.out.alloc _) (Nat.le_refl _) (H3.out.alloc _) hgrow
      have HO1 := Lib.hid hO1
      have HW1 := Lib.hid hown'
      clear hown' hgrow hnil hO1
      go_wp2
      go_roundw
      case rel => exact ⟨k + 1, by omega, by rw [HNx.out], ⟨_, _, rfl, by rw [← HF.out]; exact HW1.out⟩, HO1.out⟩
      case measure => have := HNx.out; simp [intOf] <;> omega
    · obtain rfl : k = n := by omega
      have hge : decide ((0 : Int) ≤ (k : Int) - 1 - (k : Int)) = false := by simp; omega
      have H5 := Lib.hid hown
      have HO5 := Lib.hid hO
      clear hown hO
      go_wp2
      go_ret
      exact ⟨_, rfl, H5.out, HO5.out⟩
end
end Go.Proofs.YtclehgconbdkpaaDoor
