/-
  The contracts of the reference's halve and Value of layer 5 over this seat's translation: half of a number modulo an odd p; the value of a Montgomery form, by 256 halvings. Conditions: p is odd and satisfies what the fields' moduli do; the number lies below it.
-/
import Derived.Test.YtiemajbcmmbjbaaDoorPowPlain
import Derived.Test.YtiemajbcmmbjbaaDoorModSum
import Derived.Test.YtiemajbcmmbjbaaDoorNums
namespace Go.Proofs.YtiemajbcmmbjbaaDoor
open Go.RowKit
attribute [local go_sem ↓] Go.wp_at_zero Go.wp_at_succ

theorem wd_half (s k : Nat) : wd (s / 2) k = wd s k / 2 + wd s (k + 1) % 2 * 9223372036854775808 := by
  unfold wd dg
  have e1 : s / 2 / W64 ^ k = s / W64 ^ k / 2 := by rw [Nat.div_div_eq_div_mul, Nat.mul_comm, ← Nat.div_div_eq_div_mul]
  have e2 : s / W64 ^ (k + 1) = s / W64 ^ k / W64 := by rw [Nat.pow_succ, Nat.div_div_eq_div_mul]
  rw [e1, e2]
  generalize s / W64 ^ k = q
  unfold W64
  omega
theorem top_half {s : Nat} (h : s < 2 * R256) : s / R256 = wd s (3 + 1) % 2 := by
  unfold wd dg W64 R256 W64 at *
  simp only [Nat.reducePow, Nat.reduceAdd] at *
  omega
theorem setCells_size (b : Nat) : ∀ (vs : List Value) (o : Nat) (w : World), (w.setCells b o vs).heap.size = w.heap.size
  | [], _, _ => rfl
  | v :: vs, o, w => by
    show ((w.setCell ⟨b, o, none⟩ v).setCells b (o + 1) vs).heap.size = _
    rw [setCells_size b vs (o + 1)]
    simp
/-- What the loop of halve keeps: the number's words, the result's first k words. -/
structure HalfAt (w wr : World) (s rb k : Nat) : Prop where
  a : NumAt wr (w.heap.size + 1) s
  ret : PartAt wr (w.heap.size + 1 + 1) 0 0
  res : PartAt wr rb (s / 2) k
  lt : w.heap.size + 1 + 1 < rb
  off : Off (fun _ => False) w wr
theorem HalfAt.step {w wr : World} {s rb k : Nat} (h : HalfAt w wr s rb k) (hk : k < 4) : HalfAt w (wr.setCell ⟨rb, k, none⟩ (.int .u64 (wd (s / 2) k : Int))) s rb (k + 1) := by
  have hl := h.lt
  have ho : Off (fun b => b = rb) wr (wr.setCell ⟨rb, k, none⟩ (.int .u64 (wd (s / 2) k : Int))) := (Off.refl (fun b => b = rb) wr).setCell (p := ⟨rb, k, none⟩) (fun _ => rfl) _
  exact ⟨ho.heap h.a (by omega), ho.heap h.ret (by omega), h.res.step hk, hl, h.off.trans ho (fun b hb e => by omega)⟩
set_option maxRecDepth 100000 in
set_option maxHeartbeats 4000000 in
theorem halve_any (p a : Nat) (hp : p < R256) (ha : a < R256) (w : World) :
    Calls Tryd.prog 48 #[V p, V a] w fun e w' => e = .returned (V (hvV p a)) ∧ Off (fun _ => False) w w' := by
  have HSu := Lib.hid (fun W => mod_sum a p ha hp W)
  have hpar : (wd a 0 : Int) % 2 = ((a % 2 : Nat) : Int) := by
    have : wd a 0 % 2 = a % 2 := by unfold wd dg W64; rw [Nat.pow_zero, Nat.div_one]; omega
    omega
  obtain ⟨b1, hb1⟩ : ∃ b1, b1 = w.heap.size + 1 := ⟨_, rfl⟩
  by_cases hodd : a % 2 = 1
  · have HV := Lib.hid (show hvV p a = (a + p) / 2 by unfold hvV; rw [if_pos hodd])
    have hp2 : (wd a 0 : Int) % 2 = 1 := by omega
    obtain ⟨s, hs⟩ : ∃ s, s = a + p := ⟨_, rfl⟩
    rw [← hs] at HSu HV
    obtain ⟨top, htop⟩ : ∃ top, top = s / R256 := ⟨_, rfl⟩
    rw [← htop] at HSu
    have HTop := Lib.hid (show top = wd s (3 + 1) % 2 by rw [htop]; exact top_half (by omega))
    have hcells := cells4 (show ((w.alloc (.cells #[.int .u64 (wd p 0 : Int), .int .u64 (wd p 1 : Int), .int .u64 (wd p 2 : Int), .int .u64 (wd p 3 : Int)] 24)).alloc (.cells #[.int .u64 (wd a 0 : Int), .int .u64 (wd a 1 : Int), .int .u64 (wd a 2 : Int), .int .u64 (wd a 3 : Int)] 24)).heap[w.heap.size + 1]? = some (.cells #[.int .u64 (wd a 0 : Int), .int .u64 (wd a 1 : Int), .int .u64 (wd a 2 : Int), .int .u64 (wd a 3 : Int)] 24) from heap_new' (by simp) _)
    clear hpar hodd hs htop hp ha hb1
    go_enter Tryd.func48, Tryd.ntmps48
    go_wp2_with fail
    refine (HSu.out _).mono ?_
    rintro e u1 ⟨rfl, hO1⟩
    have hA1 : u1.heap[w.heap.size + 1]? = some (.cells #[.int .u64 (wd a 0 : Int), .int .u64 (wd a 1 : Int), .int .u64 (wd a 2 : Int), .int .u64 (wd a 3 : Int)] 24) := hO1.heap (heap_old' (heap_new' (by simp) _) _) (fun c => c)
    have hR1 : u1.heap[w.heap.size + 1 + 1]? = some (.cells #[.int .u64 0, .int .u64 0, .int .u64 0, .int .u64 0] 24) := hO1.heap (heap_new' (by simp) _) (fun c => c)
    obtain ⟨m0, m1, m2, m3⟩ := cells4 hA1
    have fz := fun j => frozen_of_heap hA1 j
    have lt := heap_lt hA1
    obtain ⟨rb, hrb⟩ : ∃ rb, rb = u1.heap.size := ⟨_, rfl⟩
    have hsz := heap_lt hR1
    have hO2 : Off (fun k => k = w.heap.size + 1) u1 (u1.setCells (w.heap.size + 1) 0 (words4 s)) := setCells_off (w.heap.size + 1) (words4 s) 0 u1
    have HS := Lib.hid (show HalfAt w ((u1.setCells (w.heap.size + 1) 0 (words4 s)).alloc (.cells #[.int .u64 0, .int .u64 0, .int .u64 0, .int .u64 0] 24)) s rb 0 from
      ⟨heap_old' (setCells_at (vs := words4 s) hA1 rfl) _, heap_old' (hO2.heap hR1 (by omega)) _, heap_new' (by rw [hrb, setCells_size]) _, by omega,
        ((((((Off.refl _ w).alloc _).alloc _).alloc _).trans hO1 (fun _ _ c => c)).trans hO2 (fun k hk e => by omega)).alloc _⟩)
    clear hA1 hR1 hO1 hO2 hcells
    go_wp2_with fail
    rw [← hrb]
    clear m0 m1 m2 m3 fz lt hrb hsz
    go_loopw [7] (fun i wr => ∃ k : Nat, k ≤ 4 ∧ i = .int .i64 (k : Int) ∧ HalfAt w wr s rb k) (fun i _ => 4 - (intOf i).toNat)
    case atStart => exact ⟨0, by omega, rfl, HS.out⟩
    case round =>
      obtain ⟨k, hk, rfl, hA⟩ := hrel
      by_cases hlt : k < 4
      · obtain ⟨x, hx⟩ : ∃ x, x = wd s k := ⟨_, rfl⟩
        obtain ⟨y, hy⟩ : ∃ y, y = wd s (k + 1) := ⟨_, rfl⟩
        have hxl : x < 18446744073709551616 := by rw [hx]; exact wd_lt s k
        have hyl : y < 18446744073709551616 := by rw [hy]; exact wd_lt s (k + 1)
        have hh := wd_half s k
        rw [← hx, ← hy] at hh
        have c0 : wr.cell? ⟨w.heap.size + 1, k, none⟩ = some (.int .u64 (x : Int)) := by rw [hx]; exact hA.a.cell k hlt
        have cr := hA.res.cell hlt
        have fz := frozen_of_heap hA.res.old k
        have ltr := heap_lt hA.res.old
        obtain ⟨c, hc⟩ : ∃ c, c = y % 2 := ⟨_, rfl⟩
        obtain ⟨d, hd⟩ : ∃ d, d = x / 2 := ⟨_, rfl⟩
        obtain ⟨e, he⟩ : ∃ e, e = c * 9223372036854775808 := ⟨_, rfl⟩
        obtain ⟨t, ht⟩ : ∃ t, t = d + e := ⟨_, rfl⟩
        have HD := Lib.hid (show (t : Int) = (wd (s / 2) k : Int) by rw [hh]; omega)
        have w1 : IntKind.u64.wrap ((c : Int) * 9223372036854775808) = (e : Int) := by rw [IntKind.wrap_u64]; omega
        have w2 : IntKind.u64.wrap ((d : Int) + (e : Int)) = (t : Int) := by rw [IntKind.wrap_u64]; omega
        have w3 : IntKind.u64.wrap (d : Int) = (d : Int) := by rw [IntKind.wrap_u64]; omega
        have q1 : (x : Int) / 2 = (d : Int) := by omega
        have q2 : (y : Int) % 2 = (c : Int) := by omega
        have hk4 : (k : Int) < 4 := by omega
        have HA := Lib.hid hA
        by_cases h3 : k < 3
        · have c1 : wr.cell? ⟨w.heap.size + 1, k + 1, none⟩ = some (.int .u64 (y : Int)) := by rw [hy]; exact hA.a.cell (k + 1) (by omega)
          have hk3 : (k : Int) < 3 := by omega
          have hk5 : (k : Int) + 1 < 4 := by omega
          have hk6 : (0 : Int) ≤ (k : Int) + 1 := by omega
          have hwr : IntKind.i64.wrap ((k : Int) + 1) = (k : Int) + 1 := by rw [IntKind.wrap_i64]; omega
          have HS2 := Lib.hid (show HalfAt w (wr.setCell ⟨rb, k, none⟩ (.int .u64 (t : Int))) s rb (k + 1) by rw [HD.out]; exact HA.out.step hlt)
          clear hA hx hy hh hc hd he ht hxl hyl
          go_wp2
          go_roundw
          case rel => exact ⟨k + 1, by omega, by simp, HS2.out⟩
          case measure => simp [intOf] <;> omega
        · obtain rfl : k = 3 := by omega
          have HS2 := Lib.hid (show HalfAt w (wr.setCell ⟨rb, 3, none⟩ (.int .u64 (t : Int))) s rb (3 + 1) by rw [HD.out]; exact HA.out.step hlt)
          have htp : top = c := by rw [hc, hy]; exact HTop.out
          subst htp
          clear hA hx hy hh hc hd he ht hxl hyl q2
          go_wp2
          go_roundw
          case rel => exact ⟨4, by omega, by simp, HS2.out⟩
          case measure => simp [intOf] <;> omega
      · obtain rfl : k = 4 := by omega
        obtain ⟨c0, c1, c2, c3⟩ := hA.res.full.four
        obtain ⟨⟨r0, r1, r2, r3⟩, fz⟩ := hA.ret.four
        have ltt := heap_lt hA.ret.old
        have HA := Lib.hid hA
        clear hA
        go_wp2
        refine bodyPost_ret (v := V (s / 2)) (by simp [results, Tryd.results48, go_sem, r0, r1, r2, r3]) rfl ⟨by rw [HV.out], ?_⟩
        exact off4 HA.out.off (by omega) _ _ _ _
  · have HV := Lib.hid (show hvV p a = a / 2 by unfold hvV; rw [if_neg hodd]; rfl)
    have hp2 : (wd a 0 : Int) % 2 = 0 := by omega
    obtain ⟨s, hs⟩ : ∃ s, s = a := ⟨_, rfl⟩
    have HTop := Lib.hid (show (0 : Nat) = wd s (3 + 1) % 2 by
      have e : s / R256 = 0 := Nat.div_eq_of_lt (by omega)
      rw [← top_half (by omega), e])
    subst hs
    obtain ⟨rb, hrb⟩ : ∃ rb, rb = w.heap.size + 1 + 1 + 1 := ⟨_, rfl⟩
    have HS := Lib.hid (show HalfAt w ((((w.alloc (.cells #[.int .u64 (wd p 0 : Int), .int .u64 (wd p 1 : Int), .int .u64 (wd p 2 : Int), .int .u64 (wd p 3 : Int)] 24)).alloc (.cells #[.int .u64 (wd s 0 : Int), .int .u64 (wd s 1 : Int), .int .u64 (wd s 2 : Int), .int .u64 (wd s 3 : Int)] 24)).alloc (.cells #[.int .u64 0, .int .u64 0, .int .u64 0, .int .u64 0] 24)).alloc (.cells #[.int .u64 0, .int .u64 0, .int .u64 0, .int .u64 0] 24)) s rb 0 from
      ⟨heap_old' (heap_old' (heap_new' (by simp) _) _) _, heap_old' (heap_new' (by simp) _) _, heap_new' (by rw [hrb]; simp) _, by omega, ((((Off.refl _ w).alloc _).alloc _).alloc _).alloc _⟩)
    clear hpar hodd hp ha hb1
    go_enter Tryd.func48, Tryd.ntmps48
    go_wp2_with fail
    rw [← hrb]
    clear hrb
    go_loopw [7] (fun i wr => ∃ k : Nat, k ≤ 4 ∧ i = .int .i64 (k : Int) ∧ HalfAt w wr s rb k) (fun i _ => 4 - (intOf i).toNat)
    case atStart => exact ⟨0, by omega, rfl, HS.out⟩
    case round =>
      obtain ⟨k, hk, rfl, hA⟩ := hrel
      by_cases hlt : k < 4
      · obtain ⟨x, hx⟩ : ∃ x, x = wd s k := ⟨_, rfl⟩
        obtain ⟨y, hy⟩ : ∃ y, y = wd s (k + 1) := ⟨_, rfl⟩
        have hxl : x < 18446744073709551616 := by rw [hx]; exact wd_lt s k
        have hyl : y < 18446744073709551616 := by rw [hy]; exact wd_lt s (k + 1)
        have hh := wd_half s k
        rw [← hx, ← hy] at hh
        have c0 : wr.cell? ⟨w.heap.size + 1, k, none⟩ = some (.int .u64 (x : Int)) := by rw [hx]; exact hA.a.cell k hlt
        have cr := hA.res.cell hlt
        have fz := frozen_of_heap hA.res.old k
        have ltr := heap_lt hA.res.old
        obtain ⟨c, hc⟩ : ∃ c, c = y % 2 := ⟨_, rfl⟩
        obtain ⟨d, hd⟩ : ∃ d, d = x / 2 := ⟨_, rfl⟩
        obtain ⟨e, he⟩ : ∃ e, e = c * 9223372036854775808 := ⟨_, rfl⟩
        obtain ⟨t, ht⟩ : ∃ t, t = d + e := ⟨_, rfl⟩
        have HD := Lib.hid (show (t : Int) = (wd (s / 2) k : Int) by rw [hh]; omega)
        have w1 : IntKind.u64.wrap ((c : Int) * 9223372036854775808) = (e : Int) := by rw [IntKind.wrap_u64]; omega
        have w2 : IntKind.u64.wrap ((d : Int) + (e : Int)) = (t : Int) := by rw [IntKind.wrap_u64]; omega
        have w3 : IntKind.u64.wrap (d : Int) = (d : Int) := by rw [IntKind.wrap_u64]; omega
        have q1 : (x : Int) / 2 = (d : Int) := by omega
        have q2 : (y : Int) % 2 = (c : Int) := by omega
        have hk4 : (k : Int) < 4 := by omega
        have HA := Lib.hid hA
        by_cases h3 : k < 3
        · have c1 : wr.cell? ⟨w.heap.size + 1, k + 1, none⟩ = some (.int .u64 (y : Int)) := by rw [hy]; exact hA.a.cell (k + 1) (by omega)
          have hk3 : (k : Int) < 3 := by omega
          have hk5 : (k : Int) + 1 < 4 := by omega
          have hk6 : (0 : Int) ≤ (k : Int) + 1 := by omega
          have hwr : IntKind.i64.wrap ((k : Int) + 1) = (k : Int) + 1 := by rw [IntKind.wrap_i64]; omega
          have HS2 := Lib.hid (show HalfAt w (wr.setCell ⟨rb, k, none⟩ (.int .u64 (t : Int))) s rb (k + 1) by rw [HD.out]; exact HA.out.step hlt)
          clear hA hx hy hh hc hd he ht hxl hyl
          go_wp2
          go_roundw
          case rel => exact ⟨k + 1, by omega, by simp, HS2.out⟩
          case measure => simp [intOf] <;> omega
        · obtain rfl : k = 3 := by omega
          have hc0 : c = 0 := by rw [hc, hy, ← HTop.out]
          have htd : t = d := by rw [ht, he, hc0, Nat.zero_mul, Nat.add_zero]
          rw [htd] at HD
          have HS2 := Lib.hid (show HalfAt w (wr.setCell ⟨rb, 3, none⟩ (.int .u64 (d : Int))) s rb (3 + 1) by rw [HD.out]; exact HA.out.step hlt)
          clear w1 w2 htd hc0
          clear hA hx hy hh hc hd he ht hxl hyl q2
          go_wp2
          go_roundw
          case rel => exact ⟨4, by omega, by simp, HS2.out⟩
          case measure => simp [intOf] <;> omega
      · obtain rfl : k = 4 := by omega
        obtain ⟨c0, c1, c2, c3⟩ := hA.res.full.four
        obtain ⟨⟨r0, r1, r2, r3⟩, fz⟩ := hA.ret.four
        have ltt := heap_lt hA.ret.old
        have HA := Lib.hid hA
        clear hA
        go_wp2
        refine bodyPost_ret (v := V (s / 2)) (by simp [results, Tryd.results48, go_sem, r0, r1, r2, r3]) rfl ⟨by rw [HV.out], ?_⟩
        exact off4 HA.out.off (by omega) _ _ _ _
/-- What the loop of Value keeps. -/
structure ValAt (w wr : World) (p u : Nat) : Prop where
  p : wr.heap[w.heap.size]? = some (.cells #[.int .u64 (wd p 0 : Int), .int .u64 (wd p 1 : Int), .int .u64 (wd p 2 : Int), .int .u64 (wd p 3 : Int)] 24)
  v : wr.heap[w.heap.size + 1]? = some (.cells #[.int .u64 (wd u 0 : Int), .int .u64 (wd u 1 : Int), .int .u64 (wd u 2 : Int), .int .u64 (wd u 3 : Int)] 24)
  ret : wr.heap[w.heap.size + 1 + 1]? = some (.cells #[.int .u64 0, .int .u64 0, .int .u64 0, .int .u64 0] 24)
  off : Off (fun _ => False) w wr
set_option maxRecDepth 100000 in
set_option maxHeartbeats 4000000 in
theorem value_any (p a : Nat) (hm : Mp p) (ho : p % 2 = 1) (ha : a < p) (w : World) :
    Calls Tryd.prog 24 #[V p, V a] w fun e w' => e = .returned (V (mm p a 1)) ∧ Off (fun _ => False) w w' := by
  have HH := Lib.hid (fun k W => halve_any p (hvs p a k) hm.lt (Nat.lt_trans (hvs_lt ha k) hm.lt) W)
  have HV := Lib.hid (hvs_value hm ho ha)
  have HI := Lib.hid (show ValAt w (((w.alloc (.cells #[.int .u64 (wd p 0 : Int), .int .u64 (wd p 1 : Int), .int .u64 (wd p 2 : Int), .int .u64 (wd p 3 : Int)] 24)).alloc (.cells #[.int .u64 (wd a 0 : Int), .int .u64 (wd a 1 : Int), .int .u64 (wd a 2 : Int), .int .u64 (wd a 3 : Int)] 24)).alloc (.cells #[.int .u64 0, .int .u64 0, .int .u64 0, .int .u64 0] 24)) p (hvs p a 0) from
    ⟨heap_old' (heap_old' (heap_new' rfl _) _) _, heap_old' (heap_new' (by simp) _) _, heap_new' (by simp) _, (((Off.refl _ w).alloc _).alloc _).alloc _⟩)
  clear hm ho ha
  go_enter Tryd.func24, Tryd.ntmps24
  go_wp2_with fail
  go_loopw [5] (fun i wr => ∃ k : Nat, k ≤ 256 ∧ i = .int .i64 (k : Int) ∧ ValAt w wr p (hvs p a k)) (fun i _ => 256 - (intOf i).toNat)
  case atStart => exact ⟨0, by omega, rfl, HI.out⟩
  case round =>
    obtain ⟨k, hk, rfl, hA⟩ := hrel
    by_cases hlt : k < 256
    · obtain ⟨u, hu⟩ : ∃ u, u = hvs p a k := ⟨_, rfl⟩
      obtain ⟨z, hz⟩ : ∃ z, z = hvV p u := ⟨_, rfl⟩
      rw [← hu] at hA
      have HHk := Lib.hid (fun W => HH.out k W)
      rw [← hu, ← hz] at HHk
      have HZ := Lib.hid (show hvs p a (k + 1) = z by rw [hz, hu]; rfl)
      have HA := Lib.hid hA
      obtain ⟨p0, p1, p2, p3⟩ := cells4 hA.p
      obtain ⟨v0, v1, v2, v3⟩ := cells4 hA.v
      have hkI : (k : Int) < 256 := by omega
      have hwr : IntKind.i64.wrap ((k : Int) + 1) = (k : Int) + 1 := by rw [IntKind.wrap_i64]; omega
      clear hA hu hz
      go_wp2_with fail
      refine (HHk.out _).mono ?_
      rintro e W1 ⟨rfl, hO1⟩
      clear p0 p1 p2 p3 v0 v1 v2 v3
      have hv := hO1.heap HA.out.v (fun c => c)
      obtain ⟨m0, m1, m2, m3⟩ := cells4 hv
      have fz := fun j => frozen_of_heap hv j
      have lt := heap_lt hv
      have ho := setCells_off (w.heap.size + 1) (words4 z) 0 W1
      have HA2 := Lib.hid (show ValAt w (W1.setCells (w.heap.size + 1) 0 (words4 z)) p (hvs p a (k + 1)) by
        rw [HZ.out]
        exact ⟨ho.heap (hO1.heap HA.out.p (fun c => c)) (by omega), setCells_at hv rfl, ho.heap (hO1.heap HA.out.ret (fun c => c)) (by omega), (HA.out.off.trans hO1 (fun _ _ c => c)).trans ho (fun b hb e => by omega)⟩)
      clear hv ho hO1
      go_wp2
      go_roundw
      case rel => exact ⟨k + 1, by omega, by simp, HA2.out⟩
      case measure => simp [intOf] <;> omega
    · obtain rfl : k = 256 := by omega
      rw [HV.out] at hA
      obtain ⟨z, hz⟩ : ∃ z, z = mm p a 1 := ⟨_, rfl⟩
      rw [← hz] at hA
      have HZ := Lib.hid hz
      obtain ⟨v0, v1, v2, v3⟩ := cells4 hA.v
      obtain ⟨⟨r0, r1, r2, r3⟩, fz, lt⟩ := zero_cells hA.ret
      have HA := Lib.hid hA
      clear hA hz
      go_wp2
      refine bodyPost_ret (v := V z) (by simp [results, Tryd.results24, go_sem, r0, r1, r2, r3]) rfl ⟨by rw [HZ.out], ?_⟩
      exact off4 HA.out.off (by omega) _ _ _ _
end Go.Proofs.YtiemajbcmmbjbaaDoor
