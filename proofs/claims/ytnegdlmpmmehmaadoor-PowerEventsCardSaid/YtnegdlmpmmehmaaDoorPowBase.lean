/-
  The contracts of the reference's halve and Value of layer 5 over this seat's translation: half of a number modulo an odd p; the value of a Montgomery form, by 256 halvings. Conditions: p is odd and satisfies what the fields' moduli do; the number lies below it.
  The statements' own form and get of layer 6 over this seat's translation, and the contracts of package power with the nil tape. Conditions: the table of fields lies in memory as it was laid; the numbers are numbers of four words.
  The examples of layer 6's chapter hold: the function 'alive' of its statements returns true and changes nothing that lay in memory before. Condition: the table of fields lies in memory as it was laid.
-/
import Derived.Test.YtnegdlmpmmehmaaDoorPowPlain
import Derived.Test.YtnegdlmpmmehmaaDoorModSum
import Derived.Test.YtnegdlmpmmehmaaDoorNums
import Derived.Test.YtnegdlmpmmehmaaDoorPowLists
import Derived.Test.YtnegdlmpmmehmaaDoorFieldGet
import Derived.Test.YtnegdlmpmmehmaaDoorMontRef
import Derived.Test.YtnegdlmpmmehmaaDoorInvSel
namespace Go.Proofs.YtnegdlmpmmehmaaDoor
section
open Go.RowKit
attribute [local go_sem ↓] Go.wp_at_zero Go.wp_at_succ

theorem wd_half (s k : Nat) : wd (s / 2) k = wd s k / 2 + wd s (k + 1) % 2 * 9223372036854775808 := by
  unfold wd dg
  have e1 : s / 2 / W64 ^ k = s / W64 ^ k / 2 := by rw [Nat.div_div_eq_div_mul, Nat.mul_comm, ← Nat.div_div_eq_div_mul]
  have e2 : s / W64 ^ (k + 1) = s / W64 ^ k / W64 := by rw [Nat.pow_succ, Nat.div_div_eq_div_mul]
  rw [e1, e2]
  generalize s / W64 ^ k = q
  unfold W64
  omega
theorem top_half {s : Nat} (h : s < 2 * R256) : s / R256 = wd s (3 + 1) % 2 := by
  unfold wd dg W64 R256 W64 at *
  simp only [Nat.reducePow, Nat.reduceAdd] at *
  omega
theorem setCells_size (b : Nat) : ∀ (vs : List Value) (o : Nat) (w : World), (w.setCells b o vs).heap.size = w.heap.size
  | [], _, _ => rfl
  | v :: vs, o, w => by
    show ((w.setCell ⟨b, o, none⟩ v).setCells b (o + 1) vs).heap.size = _
    rw [setCells_size b vs (o + 1)]
    simp
/-- What the loop of halve keeps: the number's words, the result's first k words. -/
structure HalfAt (w wr : World) (s rb k : Nat) : Prop where
  a : NumAt wr (w.heap.size + 1) s
  ret : PartAt wr (w.heap.size + 1 + 1) 0 0
  res : PartAt wr rb (s / 2) k
  lt : w.heap.size + 1 + 1 < rb
  off : Off (fun _ => False) w wr
theorem HalfAt.step {w wr : World} {s rb k : Nat} (h : HalfAt w wr s rb k) (hk : k < 4) : HalfAt w (wr.setCell ⟨rb, k, none⟩ (.int .u64 (wd (s / 2) k : Int))) s rb (k + 1) := by
  have hl := h.lt
  have ho : Off (fun b => b = rb) wr (wr.setCell ⟨rb, k, none⟩ (.int .u64 (wd (s / 2) k : Int))) := (Off.refl (fun b => b = rb) wr).setCell (p := ⟨rb, k, none⟩) (fun _ => rfl) _
  exact ⟨ho.heap h.a (by omega), ho.heap h.ret (by omega), h.res.step hk, hl, h.off.trans ho (fun b hb e => by omega)⟩
set_option maxRecDepth 100000 in
set_option maxHeartbeats 4000000 in
theorem halve_any (p a : Nat) (hp : p < R256) (ha : a < R256) (w : World) :
    Calls Tryd.prog 36 #[V p, V a] w fun e w' => e = .returned (V (hvV p a)) ∧ Off (fun _ => False) w w' := by
  have HSu := Lib.hid (fun W => mod_sum a p ha hp W)
  have hpar : (wd a 0 : Int) % 2 = ((a % 2 : Nat) : Int) := by
    have : wd a 0 % 2 = a % 2 := by unfold wd dg W64; rw [Nat.pow_zero, Nat.div_one]; omega
    omega
  obtain ⟨b1, hb1⟩ : ∃ b1, b1 = w.heap.size + 1 := ⟨_, rfl⟩
  by_cases hodd : a % 2 = 1
  · have HV := Lib.hid (show hvV p a = (a + p) / 2 by unfold hvV; rw [if_pos hodd])
    have hp2 : (wd a 0 : Int) % 2 = 1 := by omega
    obtain ⟨s, hs⟩ : ∃ s, s = a + p := ⟨_, rfl⟩
    rw [← hs] at HSu HV
    obtain ⟨top, htop⟩ : ∃ top, top = s / R256 := ⟨_, rfl⟩
    rw [← htop] at HSu
    have HTop := Lib.hid (show top = wd s (3 + 1) % 2 by rw [htop]; exact top_half (by omega))
    have hcells := cells4 (show ((w.alloc (.cells #[.int .u64 (wd p 0 : Int), .int .u64 (wd p 1 : Int), .int .u64 (wd p 2 : Int), .int .u64 (wd p 3 : Int)] 23)).alloc (.cells #[.int .u64 (wd a 0 : Int), .int .u64 (wd a 1 : Int), .int .u64 (wd a 2 : Int), .int .u64 (wd a 3 : Int)] 23)).heap[w.heap.size + 1]? = some (.cells #[.int .u64 (wd a 0 : Int), .int .u64 (wd a 1 : Int), .int .u64 (wd a 2 : Int), .int .u64 (wd a 3 : Int)] 23) from heap_new' (by simp) _)
    clear hpar hodd hs htop hp ha hb1
    go_enter Tryd.func36, Tryd.ntmps36
    go_wp2_with fail
    refine (HSu.out _).mono ?_
    rintro e u1 ⟨rfl, hO1⟩
    have hA1 : u1.heap[w.heap.size + 1]? = some (.cells #[.int .u64 (wd a 0 : Int), .int .u64 (wd a 1 : Int), .int .u64 (wd a 2 : Int), .int .u64 (wd a 3 : Int)] 23) := hO1.heap (heap_old' (heap_new' (by simp) _) _) (fun c => c)
    have hR1 : u1.heap[w.heap.size + 1 + 1]? = some (.cells #[.int .u64 0, .int .u64 0, .int .u64 0, .int .u64 0] 23) := hO1.heap (heap_new' (by simp) _) (fun c => c)
    obtain ⟨m0, m1, m2, m3⟩ := cells4 hA1
    have fz := fun j => frozen_of_heap hA1 j
    have lt := heap_lt hA1
    obtain ⟨rb, hrb⟩ : ∃ rb, rb = u1.heap.size := ⟨_, rfl⟩
    have hsz := heap_lt hR1
    have hO2 : Off (fun k => k = w.heap.size + 1) u1 (u1.setCells (w.heap.size + 1) 0 (words4 s)) := setCells_off (w.heap.size + 1) (words4 s) 0 u1
    have HS := Lib.hid (show HalfAt w ((u1.setCells (w.heap.size + 1) 0 (words4 s)).alloc (.cells #[.int .u64 0, .int .u64 0, .int .u64 0, .int .u64 0] 23)) s rb 0 from
      ⟨heap_old' (setCells_at (vs := words4 s) hA1 rfl) _, heap_old' (hO2.heap hR1 (by omega)) _, heap_new' (by rw [hrb, setCells_size]) _, by omega,
        ((((((Off.refl _ w).alloc _).alloc _).alloc _).trans hO1 (fun _ _ c => c)).trans hO2 (fun k hk e => by omega)).alloc _⟩)
    clear hA1 hR1 hO1 hO2 hcells
    go_wp2_with fail
    rw [← hrb]
    clear m0 m1 m2 m3 fz lt hrb hsz
    go_loopw [7] (fun i wr => ∃ k : Nat, k ≤ 4 ∧ i = .int .i64 (k : Int) ∧ HalfAt w wr s rb k) (fun i _ => 4 - (intOf i).toNat)
    case atStart => exact ⟨0, by omega, rfl, HS.out⟩
    case round =>
      obtain ⟨k, hk, rfl, hA⟩ := hrel
      by_cases hlt : k < 4
      · obtain ⟨x, hx⟩ : ∃ x, x = wd s k := ⟨_, rfl⟩
        obtain ⟨y, hy⟩ : ∃ y, y = wd s (k + 1) := ⟨_, rfl⟩
        have hxl : x < 18446744073709551616 := by rw [hx]; exact wd_lt s k
        have hyl : y < 18446744073709551616 := by rw [hy]; exact wd_lt s (k + 1)
        have hh := wd_half s k
        rw [← hx, ← hy] at hh
        have c0 : wr.cell? ⟨w.heap.size + 1, k, none⟩ = some (.int .u64 (x : Int)) := by rw [hx]; exact hA.a.cell k hlt
        have cr := hA.res.cell hlt
        have fz := frozen_of_heap hA.res.old k
        have ltr := heap_lt hA.res.old
        obtain ⟨c, hc⟩ : ∃ c, c = y % 2 := ⟨_, rfl⟩
        obtain ⟨d, hd⟩ : ∃ d, d = x / 2 := ⟨_, rfl⟩
        obtain ⟨e, he⟩ : ∃ e, e = c * 9223372036854775808 := ⟨_, rfl⟩
        obtain ⟨t, ht⟩ : ∃ t, t = d + e := ⟨_, rfl⟩
        have HD := Lib.hid (show (t : Int) = (wd (s / 2) k : Int) by rw [hh]; omega)
        have w1 : IntKind.u64.wrap ((c : Int) * 9223372036854775808) = (e : Int) := by rw [IntKind.wrap_u64]; omega
        have w2 : IntKind.u64.wrap ((d : Int) + (e : Int)) = (t : Int) := by rw [IntKind.wrap_u64]; omega
        have w3 : IntKind.u64.wrap (d : Int) = (d : Int) := by rw [IntKind.wrap_u64]; omega
        have q1 : (x : Int) / 2 = (d : Int) := by omega
        have q2 : (y : Int) % 2 = (c : Int) := by omega
        have hk4 : (k : Int) < 4 := by omega
        have HA := Lib.hid hA
        by_cases h3 : k < 3
        · have c1 : wr.cell? ⟨w.heap.size + 1, k + 1, none⟩ = some (.int .u64 (y : Int)) := by rw [hy]; exact hA.a.cell (k + 1) (by omega)
          have hk3 : (k : Int) < 3 := by omega
          have hk5 : (k : Int) + 1 < 4 := by omega
          have hk6 : (0 : Int) ≤ (k : Int) + 1 := by omega
          have hwr : IntKind.i64.wrap ((k : Int) + 1) = (k : Int) + 1 := by rw [IntKind.wrap_i64]; omega
          have HS2 := Lib.hid (show HalfAt w (wr.setCell ⟨rb, k, none⟩ (.int .u64 (t : Int))) s rb (k + 1) by rw [HD.out]; exact HA.out.step hlt)
          clear hA hx hy hh hc hd he ht hxl hyl
          go_wp2
          go_roundw
          case rel => exact ⟨k + 1, by omega, by simp, HS2.out⟩
          case measure => simp [intOf] <;> omega
        · obtain rfl : k = 3 := by omega
          have HS2 := Lib.hid (show HalfAt w (wr.setCell ⟨rb, 3, none⟩ (.int .u64 (t : Int))) s rb (3 + 1) by rw [HD.out]; exact HA.out.step hlt)
          have htp : top = c := by rw [hc, hy]; exact HTop.out
          subst htp
          clear hA hx hy hh hc hd he ht hxl hyl q2
          go_wp2
          go_roundw
          case rel => exact ⟨4, by omega, by simp, HS2.out⟩
          case measure => simp [intOf] <;> omega
      · obtain rfl : k = 4 := by omega
        obtain ⟨c0, c1, c2, c3⟩ := hA.res.full.four
        obtain ⟨⟨r0, r1, r2, r3⟩, fz⟩ := hA.ret.four
        have ltt := heap_lt hA.ret.old
        have HA := Lib.hid hA
        clear hA
        go_wp2
        refine bodyPost_ret (v := V (s / 2)) (by simp [results, Tryd.results36, go_sem, r0, r1, r2, r3]) rfl ⟨by rw [HV.out], ?_⟩
        exact off4 HA.out.off (by omega) _ _ _ _
  · have HV := Lib.hid (show hvV p a = a / 2 by unfold hvV; rw [if_neg hodd]; rfl)
    have hp2 : (wd a 0 : Int) % 2 = 0 := by omega
    obtain ⟨s, hs⟩ : ∃ s, s = a := ⟨_, rfl⟩
    have HTop := Lib.hid (show (0 : Nat) = wd s (3 + 1) % 2 by
      have e : s / R256 = 0 := Nat.div_eq_of_lt (by omega)
      rw [← top_half (by omega), e])
    subst hs
    obtain ⟨rb, hrb⟩ : ∃ rb, rb = w.heap.size + 1 + 1 + 1 := ⟨_, rfl⟩
    have HS := Lib.hid (show HalfAt w ((((w.alloc (.cells #[.int .u64 (wd p 0 : Int), .int .u64 (wd p 1 : Int), .int .u64 (wd p 2 : Int), .int .u64 (wd p 3 : Int)] 23)).alloc (.cells #[.int .u64 (wd s 0 : Int), .int .u64 (wd s 1 : Int), .int .u64 (wd s 2 : Int), .int .u64 (wd s 3 : Int)] 23)).alloc (.cells #[.int .u64 0, .int .u64 0, .int .u64 0, .int .u64 0] 23)).alloc (.cells #[.int .u64 0, .int .u64 0, .int .u64 0, .int .u64 0] 23)) s rb 0 from
      ⟨heap_old' (heap_old' (heap_new' (by simp) _) _) _, heap_old' (heap_new' (by simp) _) _, heap_new' (by rw [hrb]; simp) _, by omega, ((((Off.refl _ w).alloc _).alloc _).alloc _).alloc _⟩)
    clear hpar hodd hp ha hb1
    go_enter Tryd.func36, Tryd.ntmps36
    go_wp2_with fail
    rw [← hrb]
    clear hrb
    go_loopw [7] (fun i wr => ∃ k : Nat, k ≤ 4 ∧ i = .int .i64 (k : Int) ∧ HalfAt w wr s rb k) (fun i _ => 4 - (intOf i).toNat)
    case atStart => exact ⟨0, by omega, rfl, HS.out⟩
    case round =>
      obtain ⟨k, hk, rfl, hA⟩ := hrel
      by_cases hlt : k < 4
      · obtain ⟨x, hx⟩ : ∃ x, x = wd s k := ⟨_, rfl⟩
        obtain ⟨y, hy⟩ : ∃ y, y = wd s (k + 1) := ⟨_, rfl⟩
        have hxl : x < 18446744073709551616 := by rw [hx]; exact wd_lt s k
        have hyl : y < 18446744073709551616 := by rw [hy]; exact wd_lt s (k + 1)
        have hh := wd_half s k
        rw [← hx, ← hy] at hh
        have c0 : wr.cell? ⟨w.heap.size + 1, k, none⟩ = some (.int .u64 (x : Int)) := by rw [hx]; exact hA.a.cell k hlt
        have cr := hA.res.cell hlt
        have fz := frozen_of_heap hA.res.old k
        have ltr := heap_lt hA.res.old
        obtain ⟨c, hc⟩ : ∃ c, c = y % 2 := ⟨_, rfl⟩
        obtain ⟨d, hd⟩ : ∃ d, d = x / 2 := ⟨_, rfl⟩
        obtain ⟨e, he⟩ : ∃ e, e = c * 9223372036854775808 := ⟨_, rfl⟩
        obtain ⟨t, ht⟩ : ∃ t, t = d + e := ⟨_, rfl⟩
        have HD := Lib.hid (show (t : Int) = (wd (s / 2) k : Int) by rw [hh]; omega)
        have w1 : IntKind.u64.wrap ((c : Int) * 9223372036854775808) = (e : Int) := by rw [IntKind.wrap_u64]; omega
        have w2 : IntKind.u64.wrap ((d : Int) + (e : Int)) = (t : Int) := by rw [IntKind.wrap_u64]; omega
        have w3 : IntKind.u64.wrap (d : Int) = (d : Int) := by rw [IntKind.wrap_u64]; omega
        have q1 : (x : Int) / 2 = (d : Int) := by omega
        have q2 : (y : Int) % 2 = (c : Int) := by omega
        have hk4 : (k : Int) < 4 := by omega
        have HA := Lib.hid hA
        by_cases h3 : k < 3
        · have c1 : wr.cell? ⟨w.heap.size + 1, k + 1, none⟩ = some (.int .u64 (y : Int)) := by rw [hy]; exact hA.a.cell (k + 1) (by omega)
          have hk3 : (k : Int) < 3 := by omega
          have hk5 : (k : Int) + 1 < 4 := by omega
          have hk6 : (0 : Int) ≤ (k : Int) + 1 := by omega
          have hwr : IntKind.i64.wrap ((k : Int) + 1) = (k : Int) + 1 := by rw [IntKind.wrap_i64]; omega
          have HS2 := Lib.hid (show HalfAt w (wr.setCell ⟨rb, k, none⟩ (.int .u64 (t : Int))) s rb (k + 1) by rw [HD.out]; exact HA.out.step hlt)
          clear hA hx hy hh hc hd he ht hxl hyl
          go_wp2
          go_roundw
          case rel => exact ⟨k + 1, by omega, by simp, HS2.out⟩
          case measure => simp [intOf] <;> omega
        · obtain rfl : k = 3 := by omega
          have hc0 : c = 0 := by rw [hc, hy, ← HTop.out]
          have htd : t = d := by rw [ht, he, hc0, Nat.zero_mul, Nat.add_zero]
          rw [htd] at HD
          have HS2 := Lib.hid (show HalfAt w (wr.setCell ⟨rb, 3, none⟩ (.int .u64 (d : Int))) s rb (3 + 1) by rw [HD.out]; exact HA.out.step hlt)
          clear w1 w2 htd hc0
          clear hA hx hy hh hc hd he ht hxl hyl q2
          go_wp2
          go_roundw
          case rel => exact ⟨4, by omega, by simp, HS2.out⟩
          case measure => simp [intOf] <;> omega
      · obtain rfl : k = 4 := by omega
        obtain ⟨c0, c1, c2, c3⟩ := hA.res.full.four
        obtain ⟨⟨r0, r1, r2, r3⟩, fz⟩ := hA.ret.four
        have ltt := heap_lt hA.ret.old
        have HA := Lib.hid hA
        clear hA
        go_wp2
        refine bodyPost_ret (v := V (s / 2)) (by simp [results, Tryd.results36, go_sem, r0, r1, r2, r3]) rfl ⟨by rw [HV.out], ?_⟩
        exact off4 HA.out.off (by omega) _ _ _ _
/-- What the loop of Value keeps. -/
structure ValAt (w wr : World) (p u : Nat) : Prop where
  p : wr.heap[w.heap.size]? = some (.cells #[.int .u64 (wd p 0 : Int), .int .u64 (wd p 1 : Int), .int .u64 (wd p 2 : Int), .int .u64 (wd p 3 : Int)] 23)
  v : wr.heap[w.heap.size + 1]? = some (.cells #[.int .u64 (wd u 0 : Int), .int .u64 (wd u 1 : Int), .int .u64 (wd u 2 : Int), .int .u64 (wd u 3 : Int)] 23)
  ret : wr.heap[w.heap.size + 1 + 1]? = some (.cells #[.int .u64 0, .int .u64 0, .int .u64 0, .int .u64 0] 23)
  off : Off (fun _ => False) w wr
set_option maxRecDepth 100000 in
set_option maxHeartbeats 4000000 in
theorem value_any (p a : Nat) (hm : Mp p) (ho : p % 2 = 1) (ha : a < p) (w : World) :
    Calls Tryd.prog 15 #[V p, V a] w fun e w' => e = .returned (V (mm p a 1)) ∧ Off (fun _ => False) w w' := by
  have HH := Lib.hid (fun k W => halve_any p (hvs p a k) hm.lt (Nat.lt_trans (hvs_lt ha k) hm.lt) W)
  have HV := Lib.hid (hvs_value hm ho ha)
  have HI := Lib.hid (show ValAt w (((w.alloc (.cells #[.int .u64 (wd p 0 : Int), .int .u64 (wd p 1 : Int), .int .u64 (wd p 2 : Int), .int .u64 (wd p 3 : Int)] 23)).alloc (.cells #[.int .u64 (wd a 0 : Int), .int .u64 (wd a 1 : Int), .int .u64 (wd a 2 : Int), .int .u64 (wd a 3 : Int)] 23)).alloc (.cells #[.int .u64 0, .int .u64 0, .int .u64 0, .int .u64 0] 23)) p (hvs p a 0) from
    ⟨heap_old' (heap_old' (heap_new' rfl _) _) _, heap_old' (heap_new' (by simp) _) _, heap_new' (by simp) _, (((Off.refl _ w).alloc _).alloc _).alloc _⟩)
  clear hm ho ha
  go_enter Tryd.func15, Tryd.ntmps15
  go_wp2_with fail
  go_loopw [5] (fun i wr => ∃ k : Nat, k ≤ 256 ∧ i = .int .i64 (k : Int) ∧ ValAt w wr p (hvs p a k)) (fun i _ => 256 - (intOf i).toNat)
  case atStart => exact ⟨0, by omega, rfl, HI.out⟩
  case round =>
    obtain ⟨k, hk, rfl, hA⟩ := hrel
    by_cases hlt : k < 256
    · obtain ⟨u, hu⟩ : ∃ u, u = hvs p a k := ⟨_, rfl⟩
      obtain ⟨z, hz⟩ : ∃ z, z = hvV p u := ⟨_, rfl⟩
      rw [← hu] at hA
      have HHk := Lib.hid (fun W => HH.out k W)
      rw [← hu, ← hz] at HHk
      have HZ := Lib.hid (show hvs p a (k + 1) = z by rw [hz, hu]; rfl)
      have HA := Lib.hid hA
      obtain ⟨p0, p1, p2, p3⟩ := cells4 hA.p
      obtain ⟨v0, v1, v2, v3⟩ := cells4 hA.v
      have hkI : (k : Int) < 256 := by omega
      have hwr : IntKind.i64.wrap ((k : Int) + 1) = (k : Int) + 1 := by rw [IntKind.wrap_i64]; omega
      clear hA hu hz
      go_wp2_with fail
      refine (HHk.out _).mono ?_
      rintro e W1 ⟨rfl, hO1⟩
      clear p0 p1 p2 p3 v0 v1 v2 v3
      have hv := hO1.heap HA.out.v (fun c => c)
      obtain ⟨m0, m1, m2, m3⟩ := cells4 hv
      have fz := fun j => frozen_of_heap hv j
      have lt := heap_lt hv
      have ho := setCells_off (w.heap.size + 1) (words4 z) 0 W1
      have HA2 := Lib.hid (show ValAt w (W1.setCells (w.heap.size + 1) 0 (words4 z)) p (hvs p a (k + 1)) by
        rw [HZ.out]
        exact ⟨ho.heap (hO1.heap HA.out.p (fun c => c)) (by omega), setCells_at hv rfl, ho.heap (hO1.heap HA.out.ret (fun c => c)) (by omega), (HA.out.off.trans hO1 (fun _ _ c => c)).trans ho (fun b hb e => by omega)⟩)
      clear hv ho hO1
      go_wp2
      go_roundw
      case rel => exact ⟨k + 1, by omega, by simp, HA2.out⟩
      case measure => simp [intOf] <;> omega
    · obtain rfl : k = 256 := by omega
      rw [HV.out] at hA
      obtain ⟨z, hz⟩ : ∃ z, z = mm p a 1 := ⟨_, rfl⟩
      rw [← hz] at hA
      have HZ := Lib.hid hz
      obtain ⟨v0, v1, v2, v3⟩ := cells4 hA.v
      obtain ⟨⟨r0, r1, r2, r3⟩, fz, lt⟩ := zero_cells hA.ret
      have HA := Lib.hid hA
      clear hA hz
      go_wp2
      refine bodyPost_ret (v := V z) (by simp [results, Tryd.results15, go_sem, r0, r1, r2, r3]) rfl ⟨by rw [HZ.out], ?_⟩
      exact off4 HA.out.off (by omega) _ _ _ _
end
section
open Go.RowKit
attribute [local go_sem ↓] Go.wp_at_zero Go.wp_at_succ
set_option maxHeartbeats 1000000 in
theorem form6_any (p v : Nat) (hp : p < R256) (h1 : 1 < p) (hv : v < R256) (w : World) :
    Calls Tryd.prog 13 #[V p, V v] w fun e w' => e = .returned (V (fm p v)) ∧ Off (fun _ => False) w w' := by
  have FF := Lib.hid (fun W => form_any p v hp h1 hv W)
  obtain ⟨m, hm⟩ : ∃ m, m = fm p v := ⟨_, rfl⟩
  rw [← hm] at FF ⊢
  clear hp h1 hv hm
  go_enter Tryd.func13, Tryd.ntmps13
  go_wp2_with fail
  refine (FF.out _).mono ?_
  rintro e u ⟨rfl, hO⟩
  have hR : u.heap[w.heap.size + 1 + 1]? = some (.cells #[.int .u64 0, .int .u64 0, .int .u64 0, .int .u64 0] 24) := hO.heap (heap_new' (by simp) _) (fun c => c)
  obtain ⟨⟨r0, r1, r2, r3⟩, fz, lt⟩ := zero_cells hR
  have HO := Lib.hid ((((Off.refl _ w).alloc _).alloc _).alloc _ |>.trans hO (fun _ _ c => c))
  clear hR hO
  go_wp2
  refine bodyPost_ret (v := V m) (by simp [results, Tryd.results13, go_sem, r0, r1, r2, r3]) rfl ⟨rfl, ?_⟩
  exact off4 HO.out (by omega) _ _ _ _
set_option maxRecDepth 100000 in
set_option maxHeartbeats 4000000 in
theorem get6_any (t : Bool) {id : Int} {p i r s : Nat} (hF : Fld id p i r s) (hid : id = idB t) (w : World) (hT : TabAt w) :
    Calls Tryd.prog 9 #[.bool t] w fun e w' => e = .returned (.tuple #[FV id p i r s, V p]) ∧ Off (fun _ => False) w w' := by
  have qI := fun W => id_any t W
  rw [← hid] at qI
  have qG := fun W hT => fget_in id p hF.mp.lt hF.mp.one hF.mod W hT
  rw [← hF.ss, ← hF.ii, ← hF.rr] at qG
  have qM := fun W => mod_modulus id W
  rw [hF.mod] at qM
  have FI := Lib.hid qI
  have FG := Lib.hid qG
  have FM := Lib.hid qM
  have HT := Lib.hid hT
  clear qI qG qM hF hid hT
  go_enter Tryd.func9, Tryd.ntmps9
  go_wp2_with fail
  refine (FI.out _).mono ?_
  rintro e u0 ⟨rfl, hO0⟩
  have hA0 : Off (fun _ => False) w u0 := ((Off.refl _ w).alloc _).alloc _ |>.trans hO0 (fun _ _ c => c)
  have H0 := Lib.hid (show u0.heap[w.heap.size]? = some (.cells #[.int .i64 0, .int .u64 0, .int .u64 0, .int .u64 0, .int .u64 0, .int .u64 0, .int .u64 0, .int .u64 0, .int .u64 0, .int .u64 0, .int .u64 0, .int .u64 0, .int .u64 0, .int .u64 0] 26) from hO0.heap (heap_old' (heap_new' rfl _) _) (fun c => c))
  have H1 := Lib.hid (show u0.heap[w.heap.size + 1]? = some (.cells #[.int .u64 0, .int .u64 0, .int .u64 0, .int .u64 0] 23) from hO0.heap (heap_new' (by simp) _) (fun c => c))
  have HT0 := Lib.hid (HT.out.off hA0)
  have HO0 := Lib.hid hA0
  clear hA0 hO0 HT
  go_wp2_with fail
  refine (FG.out _ HT0.out).mono ?_
  rintro e u1 ⟨rfl, hO1⟩
  obtain ⟨W1, hW1⟩ : ∃ W1, W1 = u1.alloc (.cells #[.int .i64 id, .int .u64 (wd p 0 : Int), .int .u64 (wd p 1 : Int), .int .u64 (wd p 2 : Int), .int .u64 (wd p 3 : Int), .int .u64 (i : Int), .int .u64 (wd r 0 : Int), .int .u64 (wd r 1 : Int), .int .u64 (wd r 2 : Int), .int .u64 (wd r 3 : Int), .int .u64 (wd s 0 : Int), .int .u64 (wd s 1 : Int), .int .u64 (wd s 2 : Int), .int .u64 (wd s 3 : Int)] 26) := ⟨_, rfl⟩
  have hOW : Off (fun _ => False) u1 W1 := by rw [hW1]; exact (Off.refl _ u1).alloc _
  have HR0 := Lib.hid (hOW.heap (hO1.heap H0.out (fun c => c)) (fun c => c))
  have HR1 := Lib.hid (hOW.heap (hO1.heap H1.out (fun c => c)) (fun c => c))
  have hFn : W1.heap[u1.heap.size]? = some (.cells #[.int .i64 id, .int .u64 (wd p 0 : Int), .int .u64 (wd p 1 : Int), .int .u64 (wd p 2 : Int), .int .u64 (wd p 3 : Int), .int .u64 (i : Int), .int .u64 (wd r 0 : Int), .int .u64 (wd r 1 : Int), .int .u64 (wd r 2 : Int), .int .u64 (wd r 3 : Int), .int .u64 (wd s 0 : Int), .int .u64 (wd s 1 : Int), .int .u64 (wd s 2 : Int), .int .u64 (wd s 3 : Int)] 26) := by rw [hW1]; exact heap_new' rfl _
  have l1 := heap_lt (hO1.heap H1.out (fun c => c))
  have h01 : w.heap.size ≠ w.heap.size + 1 := by omega
  have HK : Hid (∀ W, Off (fun k => k = w.heap.size ∨ k = (w.heap.size + 1)) W1 W → (W.cell? ⟨u1.heap.size, 0, none⟩ = some (.int .i64 id) ∧ W.cell? ⟨u1.heap.size, 1, none⟩ = some (.int .u64 (wd p 0 : Int)) ∧ W.cell? ⟨u1.heap.size, 2, none⟩ = some (.int .u64 (wd p 1 : Int)) ∧ W.cell? ⟨u1.heap.size, 3, none⟩ = some (.int .u64 (wd p 2 : Int)) ∧ W.cell? ⟨u1.heap.size, 4, none⟩ = some (.int .u64 (wd p 3 : Int)) ∧ W.cell? ⟨u1.heap.size, 5, none⟩ = some (.int .u64 (i : Int)) ∧ W.cell? ⟨u1.heap.size, 6, none⟩ = some (.int .u64 (wd r 0 : Int)) ∧ W.cell? ⟨u1.heap.size, 7, none⟩ = some (.int .u64 (wd r 1 : Int)) ∧ W.cell? ⟨u1.heap.size, 8, none⟩ = some (.int .u64 (wd r 2 : Int)) ∧ W.cell? ⟨u1.heap.size, 9, none⟩ = some (.int .u64 (wd r 3 : Int)) ∧ W.cell? ⟨u1.heap.size, 10, none⟩ = some (.int .u64 (wd s 0 : Int)) ∧ W.cell? ⟨u1.heap.size, 11, none⟩ = some (.int .u64 (wd s 1 : Int)) ∧ W.cell? ⟨u1.heap.size, 12, none⟩ = some (.int .u64 (wd s 2 : Int)) ∧ W.cell? ⟨u1.heap.size, 13, none⟩ = some (.int .u64 (wd s 3 : Int))) ∧ Off (fun k => k = w.heap.size ∨ k = (w.heap.size + 1)) W1 W) := Lib.hid (fun W h => ⟨fv_cells (h.heap hFn (by omega)), h⟩)
  have HOf := Lib.hid ((HO0.out.trans hO1 (fun _ _ c => c)).trans hOW (fun _ _ c => c))
  have HW1 := Lib.hid hW1
  clear hO1 hOW hFn hW1 H0 H1 HT0 HO0 FG
  go_upto_region 2 with fail
  rw [← HW1.out]
  refine wp_region_inv (fun a0 l a' w' => ∃ (u12 : Value) (u13 : Value) (u14 : Value) (u15 : Value), a' = (Act.put (Act.put (Act.put (Act.put a0 (some 12) u12) (some 13) u13) (some 14) u14) (some 15) u15) ∧ Slot l 0 u12 (FV id p i r s) ∧ Slot l 1 u13 (.bool t) ∧ Slot l 2 u14 (.int .i64 id) ∧ Slot l 3 u15 (V p) ∧ Old l 4 w.heap.size W1 w' (.cells #[.int .i64 0, .int .u64 0, .int .u64 0, .int .u64 0, .int .u64 0, .int .u64 0, .int .u64 0, .int .u64 0, .int .u64 0, .int .u64 0, .int .u64 0, .int .u64 0, .int .u64 0, .int .u64 0] 26) (.cells #[.int .i64 id, .int .u64 (wd p 0 : Int), .int .u64 (wd p 1 : Int), .int .u64 (wd p 2 : Int), .int .u64 (wd p 3 : Int), .int .u64 (i : Int), .int .u64 (wd r 0 : Int), .int .u64 (wd r 1 : Int), .int .u64 (wd r 2 : Int), .int .u64 (wd r 3 : Int), .int .u64 (wd s 0 : Int), .int .u64 (wd s 1 : Int), .int .u64 (wd s 2 : Int), .int .u64 (wd s 3 : Int)] 26) ∧ Old l 5 (w.heap.size + 1) W1 w' (.cells #[.int .u64 0, .int .u64 0, .int .u64 0, .int .u64 0] 23) (.cells #[.int .u64 (wd p 0 : Int), .int .u64 (wd p 1 : Int), .int .u64 (wd p 2 : Int), .int .u64 (wd p 3 : Int)] 23) ∧ Off (fun k => k = w.heap.size ∨ k = (w.heap.size + 1)) W1 w') (by kernel_rfl) (by kernel_rfl) ?_ ⟨?_, ?_, ?_, ?_, ?_, ?_, trivial⟩ ?_
  · refine ⟨?z12, ?z13, ?z14, ?z15, ?fr, Slot.start _ _ _, Slot.start _ _ _, Slot.start _ _ _, Slot.start _ _ _, Old.start HR0.out _ _, Old.start HR1.out _ _, (Off.refl _ W1).drew⟩
    case fr => first | (simp only [Act.put, List.setIfInBounds_toArray, List.set_cons_zero, List.set_cons_succ]; rfl) | simp only [Act.put, List.setIfInBounds_toArray, List.set_cons_zero, List.set_cons_succ]
  · intro l a wr hI hl hd K' hK
    obtain ⟨u12, u13, u14, u15, ha, s0, s1, s2, s3, O0, O1, hO⟩ := hI
    simp only [Act.put, List.setIfInBounds_toArray, List.set_cons_zero, List.set_cons_succ] at ha
    subst ha
    have hc := HK.out wr hO
    have p0 := hc.1.1
    have p1 := hc.1.2.1
    have p2 := hc.1.2.2.1
    have p3 := hc.1.2.2.2.1
    have p4 := hc.1.2.2.2.2.1
    have p5 := hc.1.2.2.2.2.2.1
    have p6 := hc.1.2.2.2.2.2.2.1
    have p7 := hc.1.2.2.2.2.2.2.2.1
    have p8 := hc.1.2.2.2.2.2.2.2.2.1
    have p9 := hc.1.2.2.2.2.2.2.2.2.2.1
    have p10 := hc.1.2.2.2.2.2.2.2.2.2.2.1
    have p11 := hc.1.2.2.2.2.2.2.2.2.2.2.2.1
    have p12 := hc.1.2.2.2.2.2.2.2.2.2.2.2.2.1
    have p13 := hc.1.2.2.2.2.2.2.2.2.2.2.2.2.2
    clear hc
    go_simp
    refine hK.out _ _ ⟨_, _, _, _, ?_, Slot.new _ _ _, s1.keep rfl, s2.keep rfl, s3.keep rfl, O0.keep (Off.refl _ wr) rfl, O1.keep (Off.refl _ wr) rfl, hO⟩
    simp only [Act.put, List.setIfInBounds_toArray, List.set_cons_zero, List.set_cons_succ]
  · intro l a wr hI hl hd K' hK
    obtain ⟨u12, u13, u14, u15, ha, s0, s1, s2, s3, O0, O1, hO⟩ := hI
    simp only [Act.put, List.setIfInBounds_toArray, List.set_cons_zero, List.set_cons_succ] at ha
    subst ha
    go_simp
    refine hK.out _ _ ⟨_, _, _, _, ?_, s0.keep rfl, Slot.new _ _ _, s2.keep rfl, s3.keep rfl, O0.keep (Off.refl _ wr) rfl, O1.keep (Off.refl _ wr) rfl, hO⟩
    simp only [Act.put, List.setIfInBounds_toArray, List.set_cons_zero, List.set_cons_succ]
  · intro l a wr hI hl hd K' hK
    obtain ⟨u12, u13, u14, u15, ha, s0, s1, s2, s3, O0, O1, hO⟩ := hI
    simp only [Act.put, List.setIfInBounds_toArray, List.set_cons_zero, List.set_cons_succ] at ha
    have q1 := s1 (hd 1 (by decide))
    subst ha q1
    go_simp
    refine (held_inv (FI.out wr) hO).mono ?_
    rintro e w1 ⟨rfl, hO1, hOW⟩
    go_wp2_with fail
    refine hK.out _ _ ⟨_, _, _, _, ?_, s0.keep rfl, s1.keep rfl, Slot.new _ _ _, s3.keep rfl, O0.keep hOW rfl, O1.keep hOW rfl, hO1⟩
    simp only [Act.put, List.setIfInBounds_toArray, List.set_cons_zero, List.set_cons_succ]
  · intro l a wr hI hl hd K' hK
    obtain ⟨u12, u13, u14, u15, ha, s0, s1, s2, s3, O0, O1, hO⟩ := hI
    simp only [Act.put, List.setIfInBounds_toArray, List.set_cons_zero, List.set_cons_succ] at ha
    have q2 := s2 (hd 2 (by decide))
    subst ha q2
    go_simp
    refine (held_inv (FM.out wr) hO).mono ?_
    rintro e w1 ⟨rfl, hO1, hOW⟩
    go_wp2_with fail
    refine hK.out _ _ ⟨_, _, _, _, ?_, s0.keep rfl, s1.keep rfl, s2.keep rfl, Slot.new _ _ _, O0.keep hOW rfl, O1.keep hOW rfl, hO1⟩
    simp only [Act.put, List.setIfInBounds_toArray, List.set_cons_zero, List.set_cons_succ]
  · intro l a wr hI hl hd K' hK
    obtain ⟨u12, u13, u14, u15, ha, s0, s1, s2, s3, O0, O1, hO⟩ := hI
    simp only [Act.put, List.setIfInBounds_toArray, List.set_cons_zero, List.set_cons_succ] at ha
    have q0 := s0 (hd 0 (by decide))
    subst ha q0
    have fz := fun j => frozen_of_heap (O0.was hl) j
    have lt := heap_lt (O0.was hl)
    have hc := fv_cells (O0.was hl)
    have m0 := hc.1
    have m1 := hc.2.1
    have m2 := hc.2.2.1
    have m3 := hc.2.2.2.1
    have m4 := hc.2.2.2.2.1
    have m5 := hc.2.2.2.2.2.1
    have m6 := hc.2.2.2.2.2.2.1
    have m7 := hc.2.2.2.2.2.2.2.1
    have m8 := hc.2.2.2.2.2.2.2.2.1
    have m9 := hc.2.2.2.2.2.2.2.2.2.1
    have m10 := hc.2.2.2.2.2.2.2.2.2.2.1
    have m11 := hc.2.2.2.2.2.2.2.2.2.2.2.1
    have m12 := hc.2.2.2.2.2.2.2.2.2.2.2.2.1
    have m13 := hc.2.2.2.2.2.2.2.2.2.2.2.2.2
    clear hc
    go_simp
    refine hK.out _ _ ⟨_, _, _, _, ?_, s0.keep rfl, s1.keep rfl, s2.keep rfl, s3.keep rfl, O0.put hl rfl, O1.far (vs := [.int .i64 id, .int .u64 (wd p 0 : Int), .int .u64 (wd p 1 : Int), .int .u64 (wd p 2 : Int), .int .u64 (wd p 3 : Int), .int .u64 (i : Int), .int .u64 (wd r 0 : Int), .int .u64 (wd r 1 : Int), .int .u64 (wd r 2 : Int), .int .u64 (wd r 3 : Int), .int .u64 (wd s 0 : Int), .int .u64 (wd s 1 : Int), .int .u64 (wd s 2 : Int), .int .u64 (wd s 3 : Int)]) rfl (Ne.symm h01), setCells_in hO (fun _ => .inl rfl) [.int .i64 id, .int .u64 (wd p 0 : Int), .int .u64 (wd p 1 : Int), .int .u64 (wd p 2 : Int), .int .u64 (wd p 3 : Int), .int .u64 (i : Int), .int .u64 (wd r 0 : Int), .int .u64 (wd r 1 : Int), .int .u64 (wd r 2 : Int), .int .u64 (wd r 3 : Int), .int .u64 (wd s 0 : Int), .int .u64 (wd s 1 : Int), .int .u64 (wd s 2 : Int), .int .u64 (wd s 3 : Int)]⟩
    simp only [Act.put, List.setIfInBounds_toArray, List.set_cons_zero, List.set_cons_succ]
  · intro l a wr hI hl hd K' hK
    obtain ⟨u12, u13, u14, u15, ha, s0, s1, s2, s3, O0, O1, hO⟩ := hI
    simp only [Act.put, List.setIfInBounds_toArray, List.set_cons_zero, List.set_cons_succ] at ha
    have q3 := s3 (hd 3 (by decide))
    subst ha q3
    obtain ⟨⟨m0, m1, m2, m3⟩, fz, lt⟩ := zero_cells (O1.was hl)
    go_simp
    refine hK.out _ _ ⟨_, _, _, _, ?_, s0.keep rfl, s1.keep rfl, s2.keep rfl, s3.keep rfl, O0.far (vs := [.int .u64 (wd p 0 : Int), .int .u64 (wd p 1 : Int), .int .u64 (wd p 2 : Int), .int .u64 (wd p 3 : Int)]) rfl h01, O1.put hl rfl, setCells_in hO (fun _ => .inr (rfl)) [.int .u64 (wd p 0 : Int), .int .u64 (wd p 1 : Int), .int .u64 (wd p 2 : Int), .int .u64 (wd p 3 : Int)]⟩
    simp only [Act.put, List.setIfInBounds_toArray, List.set_cons_zero, List.set_cons_succ]
  · intro l a wc hI hd
    obtain ⟨u12, u13, u14, u15, ha, s0, s1, s2, s3, O0, O1, hO⟩ := hI
    simp only [Act.put, List.setIfInBounds_toArray, List.set_cons_zero, List.set_cons_succ] at ha
    have q0 := s0 (hd 0 (by decide))
    have q1 := s1 (hd 1 (by decide))
    have q2 := s2 (hd 2 (by decide))
    have q3 := s3 (hd 3 (by decide))
    have r0 : wc.heap[w.heap.size]? = some (.cells #[.int .i64 id, .int .u64 (wd p 0 : Int), .int .u64 (wd p 1 : Int), .int .u64 (wd p 2 : Int), .int .u64 (wd p 3 : Int), .int .u64 (i : Int), .int .u64 (wd r 0 : Int), .int .u64 (wd r 1 : Int), .int .u64 (wd r 2 : Int), .int .u64 (wd r 3 : Int), .int .u64 (wd s 0 : Int), .int .u64 (wd s 1 : Int), .int .u64 (wd s 2 : Int), .int .u64 (wd s 3 : Int)] 26) := O0.now (hd 4 (by decide))
    have r1 : wc.heap[(w.heap.size + 1)]? = some (.cells #[.int .u64 (wd p 0 : Int), .int .u64 (wd p 1 : Int), .int .u64 (wd p 2 : Int), .int .u64 (wd p 3 : Int)] 23) := O1.now (hd 5 (by decide))
    subst ha q0 q1 q2 q3
    clear hd s0 s1 s2 s3 O0 O1
    obtain ⟨f0, f1, f2, f3, f4, f5, f6, f7, f8, f9, f10, f11, f12, f13⟩ := fv_cells r0
    obtain ⟨g0, g1, g2, g3⟩ := cells4 r1
    have HOg := Lib.hid (HOf.out.trans hO (fun k hk e => by rcases e with e | e <;> omega))
    clear r0 r1 hO
    go_wp2
    exact bodyPost_ret (v := .tuple #[FV id p i r s, V p]) (by simp [results, Tryd.results9, go_sem, f0, f1, f2, f3, f4, f5, f6, f7, f8, f9, f10, f11, f12, f13, g0, g1, g2, g3]) rfl ⟨rfl, HOg.out⟩
theorem pow_nil {id : Int} {p i r s : Nat} (hF : Fld id p i r s) (v e : Nat) (he : e < R256) (w : World) :
    Calls Tryd.prog 12 #[.pointer none, FV id p i r s, V (fm p v), V e] w fun x w' => x = .returned (V (fm p (v ^ e % p))) ∧ Off (fun _ => False) w w' :=
  (pow_any hF v e he none [] (fun _ => False) w (Tp.none w) (by simp)).mono fun _ _ ⟨h1, _, h3⟩ => ⟨h1, h3⟩
theorem inverse_nil {id : Int} {p i r s : Nat} (hF : Fld id p i r s) (v : Nat) (w : World) :
    Calls Tryd.prog 16 #[.pointer none, FV id p i r s, V (fm p v)] w fun x w' => x = .returned (V (fm p (v ^ (p - 2) % p))) ∧ Off (fun _ => False) w w' :=
  (inverse_any hF v none [] (fun _ => False) w (Tp.none w) (by simp)).mono fun _ _ ⟨h1, _, h3⟩ => ⟨h1, h3⟩
theorem equalIn_elem_num {a b : Nat} (ha : a < R256) (hb : b < R256) (w : World) : (Op.equalIn 10000 24 (V a) (V b)).run Tryd.prog w = .ok (eqN a b) w := by
  rw [← four_eq ha hb]; exact equalIn_elem _ _ _ _ _ _ _ _ w
theorem fld_more {id : Int} {p i r s : Nat} (hF : Fld id p i r s) : p % 2 = 1 ∧ Fer p ∧ 2 < p := by
  rcases modN_of hF.mp.one hF.mod with ⟨_, rfl⟩ | ⟨_, rfl⟩
  · exact ⟨by decide +kernel, fermat_p1, by decide +kernel⟩
  · exact ⟨by decide +kernel, fermat_p2, by decide +kernel⟩
/-- The words of an odd number and of the one before. -/
theorem pred_words {p : Nat} (ho : p % 2 = 1) : (wd p 0 : Int) - 1 = (wd (p - 1) 0 : Int) ∧ wd p 1 = wd (p - 1) 1 ∧ wd p 2 = wd (p - 1) 2 ∧ wd p 3 = wd (p - 1) 3 := by
  have hw : ∀ k, wd p (k + 1) = wd (p - 1) (k + 1) := fun k => by
    unfold wd dg
    have e : ∀ n, n / W64 ^ (k + 1) = n / W64 / W64 ^ k := fun n => by rw [Nat.pow_succ, Nat.mul_comm, ← Nat.div_div_eq_div_mul]
    rw [e, e]
    have : p / W64 = (p - 1) / W64 := by unfold W64; omega
    rw [this]
  refine ⟨?_, hw 0, hw 1, hw 2⟩
  unfold wd dg W64
  rw [Nat.pow_zero, Nat.div_one, Nat.div_one]
  omega
/-- Batch at whatever list: where it is empty, the result is nil. -/
theorem batch_any {id : Int} {p i r s : Nat} (hF : Fld id p i r s) (vs : List Nat) (hv : ∀ v ∈ vs, v < p) (n cap : Nat) (a : Option Addr) (hn : n = vs.length) (hn2 : n ≤ 10000) (q : Option Addr) (es : List Ev) (S Sl : Nat → Prop) (w : World)
    (hL : LsAt w (.slice a n cap) (vs.map (fm p)) Sl) (hSl : ∀ b, Sl b → b < w.heap.size ∧ ¬ S b) (hS : Tp w q es S) (hl : es.length ≤ 10000) :
    Calls Tryd.prog 18 #[.pointer q, FV id p i r s, .slice a n cap] w fun x w' => ∃ a' cap', x = .returned (.slice a' n cap') ∧ LsAt w' (.slice a' n cap') ((batL p vs).map (fm p)) (fun k => w.heap.size ≤ k) ∧ Noted w.heap.size q es (batE n) S w' ∧ Off S w w' := by
  by_cases h0 : n = 0
  · subst h0
    refine (batch_nil cap a q w).mono ?_
    rintro x w' ⟨rfl, hO⟩
    have e : vs = [] := List.eq_nil_of_length_eq_zero hn.symm
    subst e
    exact ⟨none, 0, rfl, ⟨none, 0, rfl, by simp [batL], fun h => by simp [batL] at h⟩, by rw [show batE 0 = [] from rfl]; exact (hS.off0 hO).noted _, hO.mono (fun _ _ c => c.elim)⟩
  · refine (batch_some hF vs hv n cap a hn (by omega) hn2 q es S Sl w hL hSl hS hl).mono ?_
    rintro x w' ⟨b, rfl, hb, hN, hNt, hO⟩
    refine ⟨some ⟨b, 0, none⟩, n, rfl, ⟨some ⟨b, 0, none⟩, n, by rw [List.length_map, batL_length, hn], by rw [List.length_map, batL_length]; omega, fun _ => ⟨b, 0, rfl, hb, fun j x hx => ?_⟩⟩, hNt, hO⟩
    obtain ⟨c0, c1, c2, c3⟩ := NumsAt.cell hN hx
    unfold elAt
    rw [Nat.zero_add]
    exact ⟨c0, c1, c2, c3⟩
end
section
open Go.RowKit
attribute [local go_sem ↓] Go.wp_at_zero Go.wp_at_succ
theorem half_lit : V ((P1 + 1) / 2) = .agg #[.int .u64 18446744073709551607, .int .u64 18446744073709551615, .int .u64 18446744073709551615, .int .u64 4611686018427387903] := by kernel_rfl
theorem half_p1 : 2 ^ (P1 - 2) % P1 = (P1 + 1) / 2 := by
  have h := inv_mul (p := P1) p1_one fermat_p1 (x := 2) (by decide +kernel)
  have hl : 2 ^ (P1 - 2) % P1 < P1 := Nat.mod_lt _ (by decide)
  have ho : P1 % 2 = 1 := by decide +kernel
  have h3 : 3 < P1 := by decide +kernel
  generalize 2 ^ (P1 - 2) % P1 = y at h hl
  generalize P1 = q at *
  have hd := Nat.div_add_mod (2 * y) q
  rw [h] at hd
  have hq : 2 * y / q < 2 := by
    rw [Nat.div_lt_iff_lt_mul (by omega)]; omega
  generalize 2 * y / q = k at hd hq
  have : k = 0 ∨ k = 1 := by omega
  rcases this with rfl | rfl <;> omega
theorem ten_pow : 2 ^ 10 % P1 = 1024 := by decide +kernel
set_option maxRecDepth 100000 in
set_option maxHeartbeats 4000000 in
theorem alive6_any (w : World) (hT : TabAt w) : Calls Tryd.prog 11 #[] w fun e w' => e = .returned (.bool true) ∧ Off (fun _ => False) w w' := by
  have hF := fld1
  have q0 := fun W hT => get6_any false hF rfl W hT
  have q2 := fun W => form6_any P1 2 p1_lt p1_one (by decide) W
  have q3 := fun W => form6_any P1 1024 p1_lt p1_one (by decide) W
  have qh := fun W => form6_any P1 ((P1 + 1) / 2) p1_lt p1_one (by decide +kernel) W
  have qp := fun W => pow_nil hF 2 10 (by decide) W
  have qi := fun W => inverse_nil hF 2 W
  have qb := fun W B (hB : W.heap[B]? = some (.cells (flat4 (List.replicate 2 0)).toArray 24 (0, 0))) => (batch_some hF [0, 0] (fun v hv => by simp at hv; subst hv; decide) 2 2 (some ⟨B, 0, none⟩) rfl (by omega) (by omega) none [] (fun _ => False) (fun k => k = B) W
    ⟨some ⟨B, 0, none⟩, 2, rfl, by simp, fun _ => ⟨B, 0, rfl, rfl, fun j x hx => by
      have e : ([0, 0] : List Nat).map (fm P1) = List.replicate 2 0 := by simp [fm_zero, List.replicate]
      rw [e] at hx
      obtain ⟨c0, c1, c2, c3⟩ := NumsAt.cell hB hx
      unfold elAt
      rw [Nat.zero_add]
      exact ⟨c0, c1, c2, c3⟩⟩⟩ (fun b hb => ⟨by subst hb; exact heap_lt hB, fun c => c⟩) (Tp.none W) (by simp)).mono fun _ _ ⟨b, h1, _, _, _, h5⟩ => (And.intro ⟨b, h1⟩ h5 : (∃ b, _ = Ending.returned (.slice (some ⟨b, 0, none⟩) 2 2)) ∧ Off (fun _ => False) W _)
  rw [ten_pow] at qp
  rw [half_p1] at qi
  simp only [half_lit, lit_small 2 (by decide), lit_small 1024 (by decide), lit_small 10 (by decide)] at q2 q3 qh qp
  obtain ⟨f2, h2⟩ : ∃ j, j = fm P1 2 := ⟨_, rfl⟩
  obtain ⟨f3, h3⟩ : ∃ j, j = fm P1 1024 := ⟨_, rfl⟩
  obtain ⟨fh, hh⟩ : ∃ j, j = fm P1 ((P1 + 1) / 2) := ⟨_, rfl⟩
  rw [← h2] at q2 qp qi
  rw [← h3] at q3 qp
  rw [← hh] at qh qi
  obtain ⟨i, hi⟩ : ∃ i, i = negInv (wd P1 0) := ⟨_, rfl⟩
  obtain ⟨s, hs⟩ : ∃ s, s = radV P1 256 * radV P1 256 % P1 := ⟨_, rfl⟩
  obtain ⟨r, hr⟩ : ∃ r, r = radV P1 256 := ⟨_, rfl⟩
  obtain ⟨p, hp⟩ : ∃ p, p = P1 := ⟨_, rfl⟩
  obtain ⟨id, hid⟩ : ∃ id : Int, id = 1 := ⟨_, rfl⟩
  simp only [← hs] at q0 qp qi qb
  simp only [← hi, ← hr] at q0 qp qi qb
  simp only [← hp] at q0 q2 q3 qh qp qi qb
  rw [show (1 : Int) = id from hid.symm] at q0 qp qi qb
  have FG := Lib.hid q0
  have F2 := Lib.hid q2
  have F3 := Lib.hid q3
  have FH := Lib.hid qh
  have FP := Lib.hid qp
  have FI := Lib.hid qi
  have FB := Lib.hid qb
  have e1 : ∀ W, (Op.equalIn 10000 24 (V f3) (V f3)).run Tryd.prog W = .ok true W := fun W => by rw [equalIn_elem]; simp
  have e2 : ∀ W, (Op.equalIn 10000 24 (V fh) (V fh)).run Tryd.prog W = .ok true W := fun W => by rw [equalIn_elem]; simp
  have hmk : ∀ w, (Instr.makeSlice 38 (.int .i64 2) (.int .i64 2)).run Tryd.prog w = .ok (.slice (some ⟨w.heap.size, 0, none⟩) 2 2) (w.alloc (.cells (flat4 (List.replicate 2 0)).toArray 24)) := fun w => run_make_el 2 (by omega) w
  have HT := Lib.hid hT
  clear q0 q2 q3 qh qp qi qb h2 h3 hh hi hs hr hp hid hF hT
  go_enter Tryd.func11, Tryd.ntmps11
  go_wp2_with fail
  refine (FG.out _ HT.out).mono ?_
  rintro e u1 ⟨rfl, hO1⟩
  obtain ⟨W9, hW9⟩ : ∃ W9, W9 = ((u1.alloc (.cells #[.int .i64 id, .int .u64 (wd p 0 : Int), .int .u64 (wd p 1 : Int), .int .u64 (wd p 2 : Int), .int .u64 (wd p 3 : Int), .int .u64 (i : Int), .int .u64 (wd r 0 : Int), .int .u64 (wd r 1 : Int), .int .u64 (wd r 2 : Int), .int .u64 (wd r 3 : Int), .int .u64 (wd s 0 : Int), .int .u64 (wd s 1 : Int), .int .u64 (wd s 2 : Int), .int .u64 (wd s 3 : Int)] 26)).alloc (.cells #[.int .u64 (wd p 0 : Int), .int .u64 (wd p 1 : Int), .int .u64 (wd p 2 : Int), .int .u64 (wd p 3 : Int)] 23)).alloc (.cells #[.int .u64 18446744073709551607, .int .u64 18446744073709551615, .int .u64 18446744073709551615, .int .u64 4611686018427387903] 23) := ⟨_, rfl⟩
  have hOW : Off (fun _ => False) u1 W9 := by rw [hW9]; exact (((Off.refl _ u1).alloc _).alloc _).alloc _
  have hf : W9.heap[u1.heap.size]? = some (.cells #[.int .i64 id, .int .u64 (wd p 0 : Int), .int .u64 (wd p 1 : Int), .int .u64 (wd p 2 : Int), .int .u64 (wd p 3 : Int), .int .u64 (i : Int), .int .u64 (wd r 0 : Int), .int .u64 (wd r 1 : Int), .int .u64 (wd r 2 : Int), .int .u64 (wd r 3 : Int), .int .u64 (wd s 0 : Int), .int .u64 (wd s 1 : Int), .int .u64 (wd s 2 : Int), .int .u64 (wd s 3 : Int)] 26) := by rw [hW9]; exact heap_old' (heap_old' (heap_new' rfl _) _) _
  have hp : W9.heap[u1.heap.size + 1]? = some (.cells #[.int .u64 (wd p 0 : Int), .int .u64 (wd p 1 : Int), .int .u64 (wd p 2 : Int), .int .u64 (wd p 3 : Int)] 23) := by rw [hW9]; exact heap_old' (heap_new' (by simp) _) _
  have hh : W9.heap[u1.heap.size + 1 + 1]? = some (.cells #[.int .u64 18446744073709551607, .int .u64 18446744073709551615, .int .u64 18446744073709551615, .int .u64 4611686018427387903] 23) := by rw [hW9]; exact heap_new' (by simp) _
  have HK9 : Hid (∀ W, Off (fun _ => False) W9 W → (W.cell? ⟨u1.heap.size, 0, none⟩ = some (.int .i64 id) ∧ W.cell? ⟨u1.heap.size, 1, none⟩ = some (.int .u64 (wd p 0 : Int)) ∧ W.cell? ⟨u1.heap.size, 2, none⟩ = some (.int .u64 (wd p 1 : Int)) ∧ W.cell? ⟨u1.heap.size, 3, none⟩ = some (.int .u64 (wd p 2 : Int)) ∧ W.cell? ⟨u1.heap.size, 4, none⟩ = some (.int .u64 (wd p 3 : Int)) ∧ W.cell? ⟨u1.heap.size, 5, none⟩ = some (.int .u64 (i : Int)) ∧ W.cell? ⟨u1.heap.size, 6, none⟩ = some (.int .u64 (wd r 0 : Int)) ∧ W.cell? ⟨u1.heap.size, 7, none⟩ = some (.int .u64 (wd r 1 : Int)) ∧ W.cell? ⟨u1.heap.size, 8, none⟩ = some (.int .u64 (wd r 2 : Int)) ∧ W.cell? ⟨u1.heap.size, 9, none⟩ = some (.int .u64 (wd r 3 : Int)) ∧ W.cell? ⟨u1.heap.size, 10, none⟩ = some (.int .u64 (wd s 0 : Int)) ∧ W.cell? ⟨u1.heap.size, 11, none⟩ = some (.int .u64 (wd s 1 : Int)) ∧ W.cell? ⟨u1.heap.size, 12, none⟩ = some (.int .u64 (wd s 2 : Int)) ∧ W.cell? ⟨u1.heap.size, 13, none⟩ = some (.int .u64 (wd s 3 : Int))) ∧ (W.cell? ⟨u1.heap.size + 1, 0, none⟩ = some (.int .u64 (wd p 0 : Int)) ∧ W.cell? ⟨u1.heap.size + 1, 1, none⟩ = some (.int .u64 (wd p 1 : Int)) ∧ W.cell? ⟨u1.heap.size + 1, 2, none⟩ = some (.int .u64 (wd p 2 : Int)) ∧ W.cell? ⟨u1.heap.size + 1, 3, none⟩ = some (.int .u64 (wd p 3 : Int))) ∧ (W.cell? ⟨u1.heap.size + 1 + 1, 0, none⟩ = some (.int .u64 18446744073709551607) ∧ W.cell? ⟨u1.heap.size + 1 + 1, 1, none⟩ = some (.int .u64 18446744073709551615) ∧ W.cell? ⟨u1.heap.size + 1 + 1, 2, none⟩ = some (.int .u64 18446744073709551615) ∧ W.cell? ⟨u1.heap.size + 1 + 1, 3, none⟩ = some (.int .u64 4611686018427387903)) ∧ Off (fun _ => False) W9 W) := Lib.hid (fun W h => ⟨fv_cells (h.heap hf (fun c => c)), cells4 (h.heap hp (fun c => c)), cells4 (h.heap hh (fun c => c)), h⟩)
  have HO := Lib.hid (hO1.trans hOW (fun _ _ c => c))
  have HW9 := Lib.hid hW9
  clear hO1 hOW hf hp hh hW9 FG HT
  go_upto_region 3 with fail
  rw [← HW9.out]
  try simp only [List.append_eq, List.cons_append, List.nil_append]
  obtain ⟨x9, hx⟩ : ∃ x : Value, x = FV id p i r s := ⟨_, rfl⟩
  have X9 := Lib.hid hx
  clear hx
  obtain ⟨x10, hx⟩ : ∃ x : Value, x = V p := ⟨_, rfl⟩
  have X10 := Lib.hid hx
  clear hx
  obtain ⟨x11, hx⟩ : ∃ x : Value, x = .agg #[.int .u64 2, .int .u64 0, .int .u64 0, .int .u64 0] := ⟨_, rfl⟩
  have X11 := Lib.hid hx
  clear hx
  obtain ⟨x12, hx⟩ : ∃ x : Value, x = V f2 := ⟨_, rfl⟩
  have X12 := Lib.hid hx
  clear hx
  obtain ⟨x13, hx⟩ : ∃ x : Value, x = .agg #[.int .u64 10, .int .u64 0, .int .u64 0, .int .u64 0] := ⟨_, rfl⟩
  have X13 := Lib.hid hx
  clear hx
  obtain ⟨x14, hx⟩ : ∃ x : Value, x = V f3 := ⟨_, rfl⟩
  have X14 := Lib.hid hx
  clear hx
  obtain ⟨x15, hx⟩ : ∃ x : Value, x = V p := ⟨_, rfl⟩
  have X15 := Lib.hid hx
  clear hx
  obtain ⟨x16, hx⟩ : ∃ x : Value, x = .agg #[.int .u64 1024, .int .u64 0, .int .u64 0, .int .u64 0] := ⟨_, rfl⟩
  have X16 := Lib.hid hx
  clear hx
  obtain ⟨x17, hx⟩ : ∃ x : Value, x = V f3 := ⟨_, rfl⟩
  have X17 := Lib.hid hx
  clear hx
  obtain ⟨x18, hx⟩ : ∃ x : Value, x = .bool true := ⟨_, rfl⟩
  have X18 := Lib.hid hx
  clear hx
  obtain ⟨x19, hx⟩ : ∃ x : Value, x = .bool true := ⟨_, rfl⟩
  have X19 := Lib.hid hx
  clear hx
  obtain ⟨x20, hx⟩ : ∃ x : Value, x = FV id p i r s := ⟨_, rfl⟩
  have X20 := Lib.hid hx
  clear hx
  obtain ⟨x21, hx⟩ : ∃ x : Value, x = V p := ⟨_, rfl⟩
  have X21 := Lib.hid hx
  clear hx
  obtain ⟨x22, hx⟩ : ∃ x : Value, x = .agg #[.int .u64 2, .int .u64 0, .int .u64 0, .int .u64 0] := ⟨_, rfl⟩
  have X22 := Lib.hid hx
  clear hx
  obtain ⟨x23, hx⟩ : ∃ x : Value, x = V f2 := ⟨_, rfl⟩
  have X23 := Lib.hid hx
  clear hx
  obtain ⟨x24, hx⟩ : ∃ x : Value, x = V fh := ⟨_, rfl⟩
  have X24 := Lib.hid hx
  clear hx
  obtain ⟨x25, hx⟩ : ∃ x : Value, x = V p := ⟨_, rfl⟩
  have X25 := Lib.hid hx
  clear hx
  obtain ⟨x26, hx⟩ : ∃ x : Value, x = .agg #[.int .u64 18446744073709551607, .int .u64 18446744073709551615, .int .u64 18446744073709551615, .int .u64 4611686018427387903] := ⟨_, rfl⟩
  have X26 := Lib.hid hx
  clear hx
  obtain ⟨x27, hx⟩ : ∃ x : Value, x = V fh := ⟨_, rfl⟩
  have X27 := Lib.hid hx
  clear hx
  obtain ⟨x28, hx⟩ : ∃ x : Value, x = .bool true := ⟨_, rfl⟩
  have X28 := Lib.hid hx
  clear hx
  obtain ⟨x29, hx⟩ : ∃ x : Value, x = .bool true := ⟨_, rfl⟩
  have X29 := Lib.hid hx
  clear hx
  obtain ⟨x30, hx⟩ : ∃ x : Value, x = .bool true := ⟨_, rfl⟩
  have X30 := Lib.hid hx
  clear hx
  obtain ⟨x31, hx⟩ : ∃ x : Value, x = FV id p i r s := ⟨_, rfl⟩
  have X31 := Lib.hid hx
  clear hx
  obtain ⟨x34, hx⟩ : ∃ x : Value, x = .int .i64 2 := ⟨_, rfl⟩
  have X34 := Lib.hid hx
  clear hx
  obtain ⟨x35, hx⟩ : ∃ x : Value, x = .bool true := ⟨_, rfl⟩
  have X35 := Lib.hid hx
  clear hx
  obtain ⟨x36, hx⟩ : ∃ x : Value, x = .bool true := ⟨_, rfl⟩
  have X36 := Lib.hid hx
  clear hx
  obtain ⟨x0, hx⟩ : ∃ x : Value, x = .bool true := ⟨_, rfl⟩
  have X0 := Lib.hid hx
  clear hx
  refine wp_region_inv (fun a0 l a' w' => ∃ (B : Nat) (B2 : Nat), a' = (Act.put (fill a0 9 [sel (l 0) x9 undef, sel (l 1) x10 undef, sel (l 2) x11 undef, sel (l 3) x12 undef, sel (l 4) x13 undef, sel (l 5) x14 undef, sel (l 6) x15 undef, sel (l 7) x16 undef, sel (l 8) x17 undef, sel (l 9) x18 undef, sel (l 10) x19 undef, sel (l 11) x20 undef, sel (l 12) x21 undef, sel (l 13) x22 undef, sel (l 14) x23 undef, sel (l 15) x24 undef, sel (l 16) x25 undef, sel (l 17) x26 undef, sel (l 18) x27 undef, sel (l 19) x28 undef, sel (l 20) x29 undef, sel (l 21) x30 undef, sel (l 22) x31 undef, sel (l 23) (.slice (some ⟨B, 0, none⟩) 2 2) undef, sel (l 24) (.slice (some ⟨B2, 0, none⟩) 2 2) undef, sel (l 25) x34 undef, sel (l 26) x35 undef, sel (l 27) x36 undef]) (some 0) (sel (l 28) x0 (.bool false))) ∧ (l 23 = true → w'.heap[B]? = some (.cells (flat4 (List.replicate 2 0)).toArray 24 (0, 0))) ∧ Off (fun _ => False) W9 w') (by kernel_rfl) (by kernel_rfl) ?_ ⟨?_, ?_, ?_, ?_, ?_, ?_, ?_, ?_, ?_, ?_, ?_, ?_, ?_, ?_, ?_, ?_, ?_, ?_, ?_, ?_, ?_, ?_, ?_, ?_, ?_, ?_, ?_, ?_, ?_, trivial⟩ ?_
  · refine ⟨0, 0, ?_, (fun h => by cases h), (Off.refl _ W9).drew⟩
    simp only [fill_eq, List.take_succ_cons, List.take_zero, List.cons_append, List.nil_append, Act.put, List.setIfInBounds_toArray, List.set_cons_zero, sel_start]
  · as_aux_lemma =>
      rintro l a wr ⟨B, B2, ha, hM, hO⟩ hl hd K' hK
      have hx := X9.out; subst hx
      simp only [fill_eq, List.take_succ_cons, List.take_zero, List.cons_append, List.nil_append, Act.put, List.setIfInBounds_toArray, List.set_cons_zero] at ha
      subst ha
      have hc := HK9.out wr hO
      have p0 := hc.1.1
      have p1 := hc.1.2.1
      have p2 := hc.1.2.2.1
      have p3 := hc.1.2.2.2.1
      have p4 := hc.1.2.2.2.2.1
      have p5 := hc.1.2.2.2.2.2.1
      have p6 := hc.1.2.2.2.2.2.2.1
      have p7 := hc.1.2.2.2.2.2.2.2.1
      have p8 := hc.1.2.2.2.2.2.2.2.2.1
      have p9 := hc.1.2.2.2.2.2.2.2.2.2.1
      have p10 := hc.1.2.2.2.2.2.2.2.2.2.2.1
      have p11 := hc.1.2.2.2.2.2.2.2.2.2.2.2.1
      have p12 := hc.1.2.2.2.2.2.2.2.2.2.2.2.2.1
      have p13 := hc.1.2.2.2.2.2.2.2.2.2.2.2.2.2
      clear hc
      rw [if_pos (by rfl)]
      go_simp
      refine hK.out _ _ ⟨B, B2, ?_, (fun h => hM (by rw [upd_ne _ (by decide)] at h; exact h)), hO⟩
      simp only [fill_eq, List.take_succ_cons, List.take_zero, List.cons_append, List.nil_append, Act.put, List.setIfInBounds_toArray, List.set_cons_zero, sel_new]
      rfl
  · as_aux_lemma =>
      rintro l a wr ⟨B, B2, ha, hM, hO⟩ hl hd K' hK
      have hx := X10.out; subst hx
      simp only [fill_eq, List.take_succ_cons, List.take_zero, List.cons_append, List.nil_append, Act.put, List.setIfInBounds_toArray, List.set_cons_zero] at ha
      subst ha
      have hc := HK9.out wr hO
      have p0 := hc.2.1.1
      have p1 := hc.2.1.2.1
      have p2 := hc.2.1.2.2.1
      have p3 := hc.2.1.2.2.2
      clear hc
      rw [if_pos (by rfl)]
      go_simp
      refine hK.out _ _ ⟨B, B2, ?_, (fun h => hM (by rw [upd_ne _ (by decide)] at h; exact h)), hO⟩
      simp only [fill_eq, List.take_succ_cons, List.take_zero, List.cons_append, List.nil_append, Act.put, List.setIfInBounds_toArray, List.set_cons_zero, sel_new]
      rfl
  · as_aux_lemma =>
      rintro l a wr ⟨B, B2, ha, hM, hO⟩ hl hd K' hK
      have hx := X11.out; subst hx
      simp only [fill_eq, List.take_succ_cons, List.take_zero, List.cons_append, List.nil_append, Act.put, List.setIfInBounds_toArray, List.set_cons_zero] at ha
      subst ha
      rw [if_pos (by rfl)]
      go_simp
      refine hK.out _ _ ⟨B, B2, ?_, (fun h => hM (by rw [upd_ne _ (by decide)] at h; exact h)), hO⟩
      simp only [fill_eq, List.take_succ_cons, List.take_zero, List.cons_append, List.nil_append, Act.put, List.setIfInBounds_toArray, List.set_cons_zero, sel_new]
      rfl
  · as_aux_lemma =>
      rintro l a wr ⟨B, B2, ha, hM, hO⟩ hl hd K' hK
      have d1 := hd 1 (by decide)
      have d2 := hd 2 (by decide)
      have hx := X10.out; subst hx
      have hx := X11.out; subst hx
      have hx := X12.out; subst hx
      simp only [fill_eq, List.take_succ_cons, List.take_zero, List.cons_append, List.nil_append, Act.put, List.setIfInBounds_toArray, List.set_cons_zero, sel_of d1, sel_of d2] at ha
      subst ha
      rw [if_pos (by rfl)]
      go_simp
      refine (held_inv (F2.out wr) hO).mono ?_
      rintro e w1 ⟨rfl, hO1, hOW⟩
      go_wp2_with fail
      refine hK.out _ _ ⟨B, B2, ?_, (fun h => hOW.heap (hM (by rw [upd_ne _ (by decide)] at h; exact h)) (fun c => c)), hO1⟩
      simp only [fill_eq, List.take_succ_cons, List.take_zero, List.cons_append, List.nil_append, Act.put, List.setIfInBounds_toArray, List.set_cons_zero, sel_new, sel_dep d1, sel_dep d2]
      rfl
  · as_aux_lemma =>
      rintro l a wr ⟨B, B2, ha, hM, hO⟩ hl hd K' hK
      have hx := X13.out; subst hx
      simp only [fill_eq, List.take_succ_cons, List.take_zero, List.cons_append, List.nil_append, Act.put, List.setIfInBounds_toArray, List.set_cons_zero] at ha
      subst ha
      rw [if_pos (by rfl)]
      go_simp
      refine hK.out _ _ ⟨B, B2, ?_, (fun h => hM (by rw [upd_ne _ (by decide)] at h; exact h)), hO⟩
      simp only [fill_eq, List.take_succ_cons, List.take_zero, List.cons_append, List.nil_append, Act.put, List.setIfInBounds_toArray, List.set_cons_zero, sel_new]
      rfl
  · as_aux_lemma =>
      rintro l a wr ⟨B, B2, ha, hM, hO⟩ hl hd K' hK
      have d0 := hd 0 (by decide)
      have d3 := hd 3 (by decide)
      have d4 := hd 4 (by decide)
      have hx := X9.out; subst hx
      have hx := X12.out; subst hx
      have hx := X13.out; subst hx
      have hx := X14.out; subst hx
      simp only [fill_eq, List.take_succ_cons, List.take_zero, List.cons_append, List.nil_append, Act.put, List.setIfInBounds_toArray, List.set_cons_zero, sel_of d0, sel_of d3, sel_of d4] at ha
      subst ha
      rw [if_pos (by rfl)]
      go_simp
      refine (held_inv (FP.out wr) hO).mono ?_
      rintro e w1 ⟨rfl, hO1, hOW⟩
      go_wp2_with fail
      refine hK.out _ _ ⟨B, B2, ?_, (fun h => hOW.heap (hM (by rw [upd_ne _ (by decide)] at h; exact h)) (fun c => c)), hO1⟩
      simp only [fill_eq, List.take_succ_cons, List.take_zero, List.cons_append, List.nil_append, Act.put, List.setIfInBounds_toArray, List.set_cons_zero, sel_new, sel_dep d0, sel_dep d3, sel_dep d4]
      rfl
  · as_aux_lemma =>
      rintro l a wr ⟨B, B2, ha, hM, hO⟩ hl hd K' hK
      have hx := X15.out; subst hx
      simp only [fill_eq, List.take_succ_cons, List.take_zero, List.cons_append, List.nil_append, Act.put, List.setIfInBounds_toArray, List.set_cons_zero] at ha
      subst ha
      have hc := HK9.out wr hO
      have p0 := hc.2.1.1
      have p1 := hc.2.1.2.1
      have p2 := hc.2.1.2.2.1
      have p3 := hc.2.1.2.2.2
      clear hc
      rw [if_pos (by rfl)]
      go_simp
      refine hK.out _ _ ⟨B, B2, ?_, (fun h => hM (by rw [upd_ne _ (by decide)] at h; exact h)), hO⟩
      simp only [fill_eq, List.take_succ_cons, List.take_zero, List.cons_append, List.nil_append, Act.put, List.setIfInBounds_toArray, List.set_cons_zero, sel_new]
      rfl
  · as_aux_lemma =>
      rintro l a wr ⟨B, B2, ha, hM, hO⟩ hl hd K' hK
      have hx := X16.out; subst hx
      simp only [fill_eq, List.take_succ_cons, List.take_zero, List.cons_append, List.nil_append, Act.put, List.setIfInBounds_toArray, List.set_cons_zero] at ha
      subst ha
      rw [if_pos (by rfl)]
      go_simp
      refine hK.out _ _ ⟨B, B2, ?_, (fun h => hM (by rw [upd_ne _ (by decide)] at h; exact h)), hO⟩
      simp only [fill_eq, List.take_succ_cons, List.take_zero, List.cons_append, List.nil_append, Act.put, List.setIfInBounds_toArray, List.set_cons_zero, sel_new]
      rfl
  · as_aux_lemma =>
      rintro l a wr ⟨B, B2, ha, hM, hO⟩ hl hd K' hK
      have d6 := hd 6 (by decide)
      have d7 := hd 7 (by decide)
      have hx := X15.out; subst hx
      have hx := X16.out; subst hx
      have hx := X17.out; subst hx
      simp only [fill_eq, List.take_succ_cons, List.take_zero, List.cons_append, List.nil_append, Act.put, List.setIfInBounds_toArray, List.set_cons_zero, sel_of d6, sel_of d7] at ha
      subst ha
      rw [if_pos (by rfl)]
      go_simp
      refine (held_inv (F3.out wr) hO).mono ?_
      rintro e w1 ⟨rfl, hO1, hOW⟩
      go_wp2_with fail
      refine hK.out _ _ ⟨B, B2, ?_, (fun h => hOW.heap (hM (by rw [upd_ne _ (by decide)] at h; exact h)) (fun c => c)), hO1⟩
      simp only [fill_eq, List.take_succ_cons, List.take_zero, List.cons_append, List.nil_append, Act.put, List.setIfInBounds_toArray, List.set_cons_zero, sel_new, sel_dep d6, sel_dep d7]
      rfl
  · as_aux_lemma =>
      rintro l a wr ⟨B, B2, ha, hM, hO⟩ hl hd K' hK
      have d5 := hd 5 (by decide)
      have d8 := hd 8 (by decide)
      have hx := X14.out; subst hx
      have hx := X17.out; subst hx
      have hx := X18.out; subst hx
      simp only [fill_eq, List.take_succ_cons, List.take_zero, List.cons_append, List.nil_append, Act.put, List.setIfInBounds_toArray, List.set_cons_zero, sel_of d5, sel_of d8] at ha
      subst ha
      rw [if_pos (by rfl)]
      go_simp
      refine hK.out _ _ ⟨B, B2, ?_, (fun h => hM (by rw [upd_ne _ (by decide)] at h; exact h)), hO⟩
      simp only [fill_eq, List.take_succ_cons, List.take_zero, List.cons_append, List.nil_append, Act.put, List.setIfInBounds_toArray, List.set_cons_zero, sel_new, sel_dep d5, sel_dep d8]
      rfl
  · as_aux_lemma =>
      rintro l a wr ⟨B, B2, ha, hM, hO⟩ hl hd K' hK
      have d9 := hd 9 (by decide)
      have hx := X18.out; subst hx
      have hx := X19.out; subst hx
      simp only [fill_eq, List.take_succ_cons, List.take_zero, List.cons_append, List.nil_append, Act.put, List.setIfInBounds_toArray, List.set_cons_zero, sel_of d9] at ha
      subst ha
      rw [if_pos (by rfl)]
      go_simp
      refine hK.out _ _ ⟨B, B2, ?_, (fun h => hM (by rw [upd_ne _ (by decide)] at h; exact h)), hO⟩
      simp only [fill_eq, List.take_succ_cons, List.take_zero, List.cons_append, List.nil_append, Act.put, List.setIfInBounds_toArray, List.set_cons_zero, sel_new, sel_dep d9]
      rfl
  · as_aux_lemma =>
      rintro l a wr ⟨B, B2, ha, hM, hO⟩ hl hd K' hK
      have d10 := hd 10 (by decide)
      have hx := X19.out; subst hx
      have hx := X20.out; subst hx
      simp only [fill_eq, List.take_succ_cons, List.take_zero, List.cons_append, List.nil_append, Act.put, List.setIfInBounds_toArray, List.set_cons_zero, sel_of d10] at ha
      subst ha
      have hc := HK9.out wr hO
      have p0 := hc.1.1
      have p1 := hc.1.2.1
      have p2 := hc.1.2.2.1
      have p3 := hc.1.2.2.2.1
      have p4 := hc.1.2.2.2.2.1
      have p5 := hc.1.2.2.2.2.2.1
      have p6 := hc.1.2.2.2.2.2.2.1
      have p7 := hc.1.2.2.2.2.2.2.2.1
      have p8 := hc.1.2.2.2.2.2.2.2.2.1
      have p9 := hc.1.2.2.2.2.2.2.2.2.2.1
      have p10 := hc.1.2.2.2.2.2.2.2.2.2.2.1
      have p11 := hc.1.2.2.2.2.2.2.2.2.2.2.2.1
      have p12 := hc.1.2.2.2.2.2.2.2.2.2.2.2.2.1
      have p13 := hc.1.2.2.2.2.2.2.2.2.2.2.2.2.2
      clear hc
      rw [if_pos (by rfl)]
      go_simp
      refine hK.out _ _ ⟨B, B2, ?_, (fun h => hM (by rw [upd_ne _ (by decide)] at h; exact h)), hO⟩
      simp only [fill_eq, List.take_succ_cons, List.take_zero, List.cons_append, List.nil_append, Act.put, List.setIfInBounds_toArray, List.set_cons_zero, sel_new, sel_dep d10]
      rfl
  · as_aux_lemma =>
      rintro l a wr ⟨B, B2, ha, hM, hO⟩ hl hd K' hK
      have d10 := hd 10 (by decide)
      have hx := X19.out; subst hx
      have hx := X21.out; subst hx
      simp only [fill_eq, List.take_succ_cons, List.take_zero, List.cons_append, List.nil_append, Act.put, List.setIfInBounds_toArray, List.set_cons_zero, sel_of d10] at ha
      subst ha
      have hc := HK9.out wr hO
      have p0 := hc.2.1.1
      have p1 := hc.2.1.2.1
      have p2 := hc.2.1.2.2.1
      have p3 := hc.2.1.2.2.2
      clear hc
      rw [if_pos (by rfl)]
      go_simp
      refine hK.out _ _ ⟨B, B2, ?_, (fun h => hM (by rw [upd_ne _ (by decide)] at h; exact h)), hO⟩
      simp only [fill_eq, List.take_succ_cons, List.take_zero, List.cons_append, List.nil_append, Act.put, List.setIfInBounds_toArray, List.set_cons_zero, sel_new, sel_dep d10]
      rfl
  · as_aux_lemma =>
      rintro l a wr ⟨B, B2, ha, hM, hO⟩ hl hd K' hK
      have d10 := hd 10 (by decide)
      have hx := X19.out; subst hx
      have hx := X22.out; subst hx
      simp only [fill_eq, List.take_succ_cons, List.take_zero, List.cons_append, List.nil_append, Act.put, List.setIfInBounds_toArray, List.set_cons_zero, sel_of d10] at ha
      subst ha
      rw [if_pos (by rfl)]
      go_simp
      refine hK.out _ _ ⟨B, B2, ?_, (fun h => hM (by rw [upd_ne _ (by decide)] at h; exact h)), hO⟩
      simp only [fill_eq, List.take_succ_cons, List.take_zero, List.cons_append, List.nil_append, Act.put, List.setIfInBounds_toArray, List.set_cons_zero, sel_new, sel_dep d10]
      rfl
  · as_aux_lemma =>
      rintro l a wr ⟨B, B2, ha, hM, hO⟩ hl hd K' hK
      have d10 := hd 10 (by decide)
      have d12 := hd 12 (by decide)
      have d13 := hd 13 (by decide)
      have hx := X19.out; subst hx
      have hx := X21.out; subst hx
      have hx := X22.out; subst hx
      have hx := X23.out; subst hx
      simp only [fill_eq, List.take_succ_cons, List.take_zero, List.cons_append, List.nil_append, Act.put, List.setIfInBounds_toArray, List.set_cons_zero, sel_of d10, sel_of d12, sel_of d13] at ha
      subst ha
      rw [if_pos (by rfl)]
      go_simp
      refine (held_inv (F2.out wr) hO).mono ?_
      rintro e w1 ⟨rfl, hO1, hOW⟩
      go_wp2_with fail
      refine hK.out _ _ ⟨B, B2, ?_, (fun h => hOW.heap (hM (by rw [upd_ne _ (by decide)] at h; exact h)) (fun c => c)), hO1⟩
      simp only [fill_eq, List.take_succ_cons, List.take_zero, List.cons_append, List.nil_append, Act.put, List.setIfInBounds_toArray, List.set_cons_zero, sel_new, sel_dep d10, sel_dep d12, sel_dep d13]
      rfl
  · as_aux_lemma =>
      rintro l a wr ⟨B, B2, ha, hM, hO⟩ hl hd K' hK
      have d10 := hd 10 (by decide)
      have d11 := hd 11 (by decide)
      have d14 := hd 14 (by decide)
      have hx := X19.out; subst hx
      have hx := X20.out; subst hx
      have hx := X23.out; subst hx
      have hx := X24.out; subst hx
      simp only [fill_eq, List.take_succ_cons, List.take_zero, List.cons_append, List.nil_append, Act.put, List.setIfInBounds_toArray, List.set_cons_zero, sel_of d10, sel_of d11, sel_of d14] at ha
      subst ha
      rw [if_pos (by rfl)]
      go_simp
      refine (held_inv (FI.out wr) hO).mono ?_
      rintro e w1 ⟨rfl, hO1, hOW⟩
      go_wp2_with fail
      refine hK.out _ _ ⟨B, B2, ?_, (fun h => hOW.heap (hM (by rw [upd_ne _ (by decide)] at h; exact h)) (fun c => c)), hO1⟩
      simp only [fill_eq, List.take_succ_cons, List.take_zero, List.cons_append, List.nil_append, Act.put, List.setIfInBounds_toArray, List.set_cons_zero, sel_new, sel_dep d10, sel_dep d11, sel_dep d14]
      rfl
  · as_aux_lemma =>
      rintro l a wr ⟨B, B2, ha, hM, hO⟩ hl hd K' hK
      have d10 := hd 10 (by decide)
      have hx := X19.out; subst hx
      have hx := X25.out; subst hx
      simp only [fill_eq, List.take_succ_cons, List.take_zero, List.cons_append, List.nil_append, Act.put, List.setIfInBounds_toArray, List.set_cons_zero, sel_of d10] at ha
      subst ha
      have hc := HK9.out wr hO
      have p0 := hc.2.1.1
      have p1 := hc.2.1.2.1
      have p2 := hc.2.1.2.2.1
      have p3 := hc.2.1.2.2.2
      clear hc
      rw [if_pos (by rfl)]
      go_simp
      refine hK.out _ _ ⟨B, B2, ?_, (fun h => hM (by rw [upd_ne _ (by decide)] at h; exact h)), hO⟩
      simp only [fill_eq, List.take_succ_cons, List.take_zero, List.cons_append, List.nil_append, Act.put, List.setIfInBounds_toArray, List.set_cons_zero, sel_new, sel_dep d10]
      rfl
  · as_aux_lemma =>
      rintro l a wr ⟨B, B2, ha, hM, hO⟩ hl hd K' hK
      have d10 := hd 10 (by decide)
      have hx := X19.out; subst hx
      have hx := X26.out; subst hx
      simp only [fill_eq, List.take_succ_cons, List.take_zero, List.cons_append, List.nil_append, Act.put, List.setIfInBounds_toArray, List.set_cons_zero, sel_of d10] at ha
      subst ha
      have hc := HK9.out wr hO
      have p0 := hc.2.2.1.1
      have p1 := hc.2.2.1.2.1
      have p2 := hc.2.2.1.2.2.1
      have p3 := hc.2.2.1.2.2.2
      clear hc
      rw [if_pos (by rfl)]
      go_simp
      refine hK.out _ _ ⟨B, B2, ?_, (fun h => hM (by rw [upd_ne _ (by decide)] at h; exact h)), hO⟩
      simp only [fill_eq, List.take_succ_cons, List.take_zero, List.cons_append, List.nil_append, Act.put, List.setIfInBounds_toArray, List.set_cons_zero, sel_new, sel_dep d10]
      rfl
  · as_aux_lemma =>
      rintro l a wr ⟨B, B2, ha, hM, hO⟩ hl hd K' hK
      have d10 := hd 10 (by decide)
      have d16 := hd 16 (by decide)
      have d17 := hd 17 (by decide)
      have hx := X19.out; subst hx
      have hx := X25.out; subst hx
      have hx := X26.out; subst hx
      have hx := X27.out; subst hx
      simp only [fill_eq, List.take_succ_cons, List.take_zero, List.cons_append, List.nil_append, Act.put, List.setIfInBounds_toArray, List.set_cons_zero, sel_of d10, sel_of d16, sel_of d17] at ha
      subst ha
      rw [if_pos (by rfl)]
      go_simp
      refine (held_inv (FH.out wr) hO).mono ?_
      rintro e w1 ⟨rfl, hO1, hOW⟩
      go_wp2_with fail
      refine hK.out _ _ ⟨B, B2, ?_, (fun h => hOW.heap (hM (by rw [upd_ne _ (by decide)] at h; exact h)) (fun c => c)), hO1⟩
      simp only [fill_eq, List.take_succ_cons, List.take_zero, List.cons_append, List.nil_append, Act.put, List.setIfInBounds_toArray, List.set_cons_zero, sel_new, sel_dep d10, sel_dep d16, sel_dep d17]
      rfl
  · as_aux_lemma =>
      rintro l a wr ⟨B, B2, ha, hM, hO⟩ hl hd K' hK
      have d10 := hd 10 (by decide)
      have d15 := hd 15 (by decide)
      have d18 := hd 18 (by decide)
      have hx := X19.out; subst hx
      have hx := X24.out; subst hx
      have hx := X27.out; subst hx
      have hx := X28.out; subst hx
      simp only [fill_eq, List.take_succ_cons, List.take_zero, List.cons_append, List.nil_append, Act.put, List.setIfInBounds_toArray, List.set_cons_zero, sel_of d10, sel_of d15, sel_of d18] at ha
      subst ha
      rw [if_pos (by rfl)]
      go_simp
      refine hK.out _ _ ⟨B, B2, ?_, (fun h => hM (by rw [upd_ne _ (by decide)] at h; exact h)), hO⟩
      simp only [fill_eq, List.take_succ_cons, List.take_zero, List.cons_append, List.nil_append, Act.put, List.setIfInBounds_toArray, List.set_cons_zero, sel_new, sel_dep d10, sel_dep d15, sel_dep d18]
      rfl
  · as_aux_lemma =>
      rintro l a wr ⟨B, B2, ha, hM, hO⟩ hl hd K' hK
      have d10 := hd 10 (by decide)
      have d19 := hd 19 (by decide)
      have hx := X19.out; subst hx
      have hx := X28.out; subst hx
      have hx := X29.out; subst hx
      simp only [fill_eq, List.take_succ_cons, List.take_zero, List.cons_append, List.nil_append, Act.put, List.setIfInBounds_toArray, List.set_cons_zero, sel_of d10, sel_of d19] at ha
      subst ha
      rw [if_pos (by rfl)]
      go_simp
      refine hK.out _ _ ⟨B, B2, ?_, (fun h => hM (by rw [upd_ne _ (by decide)] at h; exact h)), hO⟩
      simp only [fill_eq, List.take_succ_cons, List.take_zero, List.cons_append, List.nil_append, Act.put, List.setIfInBounds_toArray, List.set_cons_zero, sel_new, sel_dep d10, sel_dep d19]
      rfl
  · as_aux_lemma =>
      rintro l a wr ⟨B, B2, ha, hM, hO⟩ hl hd K' hK
      have d20 := hd 20 (by decide)
      have hx := X29.out; subst hx
      have hx := X30.out; subst hx
      simp only [fill_eq, List.take_succ_cons, List.take_zero, List.cons_append, List.nil_append, Act.put, List.setIfInBounds_toArray, List.set_cons_zero, sel_of d20] at ha
      subst ha
      rw [if_pos (by rfl)]
      go_simp
      refine hK.out _ _ ⟨B, B2, ?_, (fun h => hM (by rw [upd_ne _ (by decide)] at h; exact h)), hO⟩
      simp only [fill_eq, List.take_succ_cons, List.take_zero, List.cons_append, List.nil_append, Act.put, List.setIfInBounds_toArray, List.set_cons_zero, sel_new, sel_dep d20]
      rfl
  · as_aux_lemma =>
      rintro l a wr ⟨B, B2, ha, hM, hO⟩ hl hd K' hK
      have d21 := hd 21 (by decide)
      have hx := X30.out; subst hx
      have hx := X31.out; subst hx
      simp only [fill_eq, List.take_succ_cons, List.take_zero, List.cons_append, List.nil_append, Act.put, List.setIfInBounds_toArray, List.set_cons_zero, sel_of d21] at ha
      subst ha
      have hc := HK9.out wr hO
      have p0 := hc.1.1
      have p1 := hc.1.2.1
      have p2 := hc.1.2.2.1
      have p3 := hc.1.2.2.2.1
      have p4 := hc.1.2.2.2.2.1
      have p5 := hc.1.2.2.2.2.2.1
      have p6 := hc.1.2.2.2.2.2.2.1
      have p7 := hc.1.2.2.2.2.2.2.2.1
      have p8 := hc.1.2.2.2.2.2.2.2.2.1
      have p9 := hc.1.2.2.2.2.2.2.2.2.2.1
      have p10 := hc.1.2.2.2.2.2.2.2.2.2.2.1
      have p11 := hc.1.2.2.2.2.2.2.2.2.2.2.2.1
      have p12 := hc.1.2.2.2.2.2.2.2.2.2.2.2.2.1
      have p13 := hc.1.2.2.2.2.2.2.2.2.2.2.2.2.2
      clear hc
      rw [if_pos (by rfl)]
      go_simp
      refine hK.out _ _ ⟨B, B2, ?_, (fun h => hM (by rw [upd_ne _ (by decide)] at h; exact h)), hO⟩
      simp only [fill_eq, List.take_succ_cons, List.take_zero, List.cons_append, List.nil_append, Act.put, List.setIfInBounds_toArray, List.set_cons_zero, sel_new, sel_dep d21]
      rfl
  · as_aux_lemma =>
      rintro l a wr ⟨B, B2, ha, hM, hO⟩ hl hd K' hK
      have d21 := hd 21 (by decide)
      have hx := X30.out; subst hx
      simp only [fill_eq, List.take_succ_cons, List.take_zero, List.cons_append, List.nil_append, Act.put, List.setIfInBounds_toArray, List.set_cons_zero, sel_of d21] at ha
      subst ha
      rw [if_pos (by rfl)]
      go_simp
      refine hK.out _ _ ⟨wr.heap.size, B2, ?_, (fun _ => heap_new' rfl _), hO.alloc _⟩
      simp only [fill_eq, List.take_succ_cons, List.take_zero, List.cons_append, List.nil_append, Act.put, List.setIfInBounds_toArray, List.set_cons_zero, sel_new, sel_dep d21]
      rfl
  · as_aux_lemma =>
      rintro l a wr ⟨B, B2, ha, hM, hO⟩ hl hd K' hK
      have d21 := hd 21 (by decide)
      have d22 := hd 22 (by decide)
      have d23 := hd 23 (by decide)
      have hx := X30.out; subst hx
      have hx := X31.out; subst hx
      simp only [fill_eq, List.take_succ_cons, List.take_zero, List.cons_append, List.nil_append, Act.put, List.setIfInBounds_toArray, List.set_cons_zero, sel_of d21, sel_of d22, sel_of d23] at ha
      subst ha
      have hm := hM d23
      rw [if_pos (by rfl)]
      go_simp
      refine (FB.out wr B hm).mono ?_
      rintro e w1 ⟨⟨b2, rfl⟩, hOW⟩
      have hO1 := hO.trans hOW (fun _ _ c => c)
      go_wp2_with fail
      refine hK.out _ _ ⟨B, b2, ?_, (fun h => hOW.heap (hM (by rw [upd_ne _ (by decide)] at h; exact h)) (fun c => c)), hO1⟩
      simp only [fill_eq, List.take_succ_cons, List.take_zero, List.cons_append, List.nil_append, Act.put, List.setIfInBounds_toArray, List.set_cons_zero, sel_new, sel_dep d21, sel_dep d22, sel_dep d23]
      rfl
  · as_aux_lemma =>
      rintro l a wr ⟨B, B2, ha, hM, hO⟩ hl hd K' hK
      have d21 := hd 21 (by decide)
      have d24 := hd 24 (by decide)
      have hx := X30.out; subst hx
      have hx := X34.out; subst hx
      simp only [fill_eq, List.take_succ_cons, List.take_zero, List.cons_append, List.nil_append, Act.put, List.setIfInBounds_toArray, List.set_cons_zero, sel_of d21, sel_of d24] at ha
      subst ha
      rw [if_pos (by rfl)]
      go_simp
      refine hK.out _ _ ⟨B, B2, ?_, (fun h => hM (by rw [upd_ne _ (by decide)] at h; exact h)), hO⟩
      simp only [fill_eq, List.take_succ_cons, List.take_zero, List.cons_append, List.nil_append, Act.put, List.setIfInBounds_toArray, List.set_cons_zero, sel_new, sel_dep d21, sel_dep d24]
      rfl
  · as_aux_lemma =>
      rintro l a wr ⟨B, B2, ha, hM, hO⟩ hl hd K' hK
      have d21 := hd 21 (by decide)
      have d25 := hd 25 (by decide)
      have hx := X30.out; subst hx
      have hx := X34.out; subst hx
      have hx := X35.out; subst hx
      simp only [fill_eq, List.take_succ_cons, List.take_zero, List.cons_append, List.nil_append, Act.put, List.setIfInBounds_toArray, List.set_cons_zero, sel_of d21, sel_of d25] at ha
      subst ha
      rw [if_pos (by rfl)]
      go_simp
      refine hK.out _ _ ⟨B, B2, ?_, (fun h => hM (by rw [upd_ne _ (by decide)] at h; exact h)), hO⟩
      simp only [fill_eq, List.take_succ_cons, List.take_zero, List.cons_append, List.nil_append, Act.put, List.setIfInBounds_toArray, List.set_cons_zero, sel_new, sel_dep d21, sel_dep d25]
      rfl
  · as_aux_lemma =>
      rintro l a wr ⟨B, B2, ha, hM, hO⟩ hl hd K' hK
      have d21 := hd 21 (by decide)
      have d26 := hd 26 (by decide)
      have hx := X30.out; subst hx
      have hx := X35.out; subst hx
      have hx := X36.out; subst hx
      simp only [fill_eq, List.take_succ_cons, List.take_zero, List.cons_append, List.nil_append, Act.put, List.setIfInBounds_toArray, List.set_cons_zero, sel_of d21, sel_of d26] at ha
      subst ha
      rw [if_pos (by rfl)]
      go_simp
      refine hK.out _ _ ⟨B, B2, ?_, (fun h => hM (by rw [upd_ne _ (by decide)] at h; exact h)), hO⟩
      simp only [fill_eq, List.take_succ_cons, List.take_zero, List.cons_append, List.nil_append, Act.put, List.setIfInBounds_toArray, List.set_cons_zero, sel_new, sel_dep d21, sel_dep d26]
      rfl
  · as_aux_lemma =>
      rintro l a wr ⟨B, B2, ha, hM, hO⟩ hl hd K' hK
      have d27 := hd 27 (by decide)
      have hx := X36.out; subst hx
      have hx := X0.out; subst hx
      simp only [fill_eq, List.take_succ_cons, List.take_zero, List.cons_append, List.nil_append, Act.put, List.setIfInBounds_toArray, List.set_cons_zero, sel_of d27] at ha
      subst ha
      rw [if_pos (by rfl)]
      go_simp
      refine hK.out _ _ ⟨B, B2, ?_, (fun h => hM (by rw [upd_ne _ (by decide)] at h; exact h)), hO⟩
      simp only [fill_eq, List.take_succ_cons, List.take_zero, List.cons_append, List.nil_append, Act.put, List.setIfInBounds_toArray, List.set_cons_zero, sel_new, sel_dep d27]
      rfl
  · rintro l a wc ⟨B, B2, ha, hM, hO⟩ hd
    simp only [fill_eq, List.take_succ_cons, List.take_zero, List.cons_append, List.nil_append, Act.put, List.setIfInBounds_toArray, List.set_cons_zero, sel_of (hd 0 (by decide)), sel_of (hd 1 (by decide)), sel_of (hd 2 (by decide)), sel_of (hd 3 (by decide)), sel_of (hd 4 (by decide)), sel_of (hd 5 (by decide)), sel_of (hd 6 (by decide)), sel_of (hd 7 (by decide)), sel_of (hd 8 (by decide)), sel_of (hd 9 (by decide)), sel_of (hd 10 (by decide)), sel_of (hd 11 (by decide)), sel_of (hd 12 (by decide)), sel_of (hd 13 (by decide)), sel_of (hd 14 (by decide)), sel_of (hd 15 (by decide)), sel_of (hd 16 (by decide)), sel_of (hd 17 (by decide)), sel_of (hd 18 (by decide)), sel_of (hd 19 (by decide)), sel_of (hd 20 (by decide)), sel_of (hd 21 (by decide)), sel_of (hd 22 (by decide)), sel_of (hd 23 (by decide)), sel_of (hd 24 (by decide)), sel_of (hd 25 (by decide)), sel_of (hd 26 (by decide)), sel_of (hd 27 (by decide)), sel_of (hd 28 (by decide))] at ha
    subst ha
    have hx := X0.out; subst hx
    have HOf := Lib.hid (HO.out.trans hO (fun _ _ c => c))
    clear hO hM hd
    go_wp2
    go_ret
    exact ⟨rfl, HOf.out⟩
end
end Go.Proofs.YtnegdlmpmmehmaaDoor
