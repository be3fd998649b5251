/-
  The number of chunks: plain, the reference's Count, and package chunks' isLength and Count. Condition: a length is an int.
  Chunks in plain lists: a secret's chunks, their numbers, the secret read back. Plain facts; the conditions are of lengths and sizes.
  The reference of layer 13 over this seat's translation: Count, Split, Join. Conditions: as each says.
-/
import Derived.Test.YtclehgconbdkpaaDoorFieldGrp
import Derived.Test.YtclehgconbdkpaaDoorBytAll
import Derived.Test.YtclehgconbdkpaaDoorBytRow
import Derived.Test.YtclehgconbdkpaaDoorRowsEl
namespace Go.Proofs.YtclehgconbdkpaaDoor
section
open Go.RowKit
attribute [local go_sem ↓] Go.wp_at_zero Go.wp_at_succ
/-- The number of chunks of n bytes. -/
def cntN (n : Nat) : Nat := (n + 30) / 31
/-- The number of chunks of a length. -/
def cntI (m : Int) : Nat := if 0 ≤ m ∧ m ≤ 65535 then cntN m.toNat else 0
set_option maxRecDepth 100000 in
set_option maxHeartbeats 4000000 in
theorem refcount_any (m : Int) (hm : (Lit.int .i64 m).wf = true) (w : World) :
    Calls Tryd.prog 18 #[.int .i64 m] w fun e w' => e = .returned (.int .i64 (cntI m : Int)) ∧ Off (fun _ => False) w w' := by
  have hmr : -9223372036854775808 ≤ m ∧ m ≤ 9223372036854775807 := bounds_i64 hm
  clear hm
  obtain ⟨c, hc⟩ : ∃ c, c = cntI m := ⟨_, rfl⟩
  rw [← hc]
  by_cases h1 : 65535 < m
  · have hc0 : c = 0 := by rw [hc]; unfold cntI; rw [if_neg (by omega)]
    subst hc0
    clear hc
    go_enter Tryd.func18, Tryd.ntmps18
    go_wp2
    go_ret
    exact ⟨rfl, Off.refl _ w⟩
  · have hcE : ∀ k : Nat, 31 * (k : Int) < m + 31 ∨ k = 0 → m - 31 * (k : Int) ≤ 0 → k = c := fun k hk hz => by
      rw [hc]; unfold cntI
      split
      · unfold cntN; omega
      · omega
    have HE := Lib.hid hcE
    clear hcE hc
    go_enter Tryd.func18, Tryd.ntmps18
    go_wp2
    go_loopw [0, 3] (fun u v wr => ∃ k : Nat, u = .int .i64 (m - 31 * (k : Int)) ∧ v = .int .i64 (k : Int) ∧ (31 * (k : Int) < m + 31 ∨ k = 0) ∧ Off (fun _ => False) w wr) (fun u _ _ => (intOf u).toNat)
    case atStart => exact ⟨0, by simp, rfl, .inr rfl, Off.refl _ w⟩
    case round =>
      obtain ⟨k, rfl, rfl, hk, hO⟩ := hrel
      obtain ⟨z, hz⟩ : ∃ z, z = m - 31 * (k : Int) := ⟨_, rfl⟩
      rw [← hz]
      by_cases hlt : 0 < z
      · have w1 : IntKind.i64.wrap (z - 31) = z - 31 := by rw [IntKind.wrap_i64]; omega
        have w2 : IntKind.i64.wrap ((k : Int) + 1) = (k : Int) + 1 := by rw [IntKind.wrap_i64]; omega
        go_wp2
        go_roundw
        case rel => exact ⟨k + 1, by congr 1; omega, by simp, by omega, hO⟩
        case measure => simp [intOf]; omega
      · have hkc := HE.out k hk (by omega)
        subst hkc
        go_wp2
        go_ret
        exact ⟨rfl, hO⟩
theorem wf_small {d : Nat} (h : d ≤ 65535) : (Lit.int .i64 (d : Int)).wf = true := by
  simp [Lit.wf, IntKind.min, IntKind.max, IntKind.signed, IntKind.bits]
  omega
set_option maxRecDepth 100000
set_option maxHeartbeats 4000000
theorem islength_any (m : Int) (_hm : (Lit.int .i64 m).wf = true) (w : World) :
    Calls Tryd.prog 58 #[.int .i64 m] w fun e w' => e = .returned (.bool (decide (0 ≤ m ∧ m ≤ 65535))) ∧ w' = w := by
  obtain ⟨q, hq⟩ : ∃ q, q = decide (0 ≤ m ∧ m ≤ 65535) := ⟨_, rfl⟩
  rw [← hq]
  by_cases h0 : 0 ≤ m
  · by_cases h1 : m ≤ 65535
    · obtain rfl : q = true := by rw [hq]; exact decide_eq_true ⟨h0, h1⟩
      clear hq
      go_enter Tryd.func58, Tryd.ntmps58
      go_wp2
      go_ret
      exact ⟨rfl, rfl⟩
    · obtain rfl : q = false := by rw [hq]; exact decide_eq_false (fun c => h1 c.2)
      clear hq
      go_enter Tryd.func58, Tryd.ntmps58
      go_wp2
      go_ret
      exact ⟨rfl, rfl⟩
  · obtain rfl : q = false := by rw [hq]; exact decide_eq_false (fun c => h0 c.1)
    clear hq
    go_enter Tryd.func58, Tryd.ntmps58
    go_wp2
    go_ret
    exact ⟨rfl, rfl⟩
/-- Count: the number, and nothing is touched. -/
theorem count_ex (m : Int) (hm : (Lit.int .i64 m).wf = true) (w : World) :
    Calls Tryd.prog 57 #[.int .i64 m] w fun e w' => e = .returned (.int .i64 (cntI m : Int)) ∧ w' = w := by
  have hL := fun W => islength_any m hm W
  clear hm
  obtain ⟨c, hc⟩ : ∃ c, c = cntI m := ⟨_, rfl⟩
  rw [← hc]
  by_cases hr : 0 ≤ m ∧ m ≤ 65535
  · rw [show decide (0 ≤ m ∧ m ≤ 65535) = true from decide_eq_true hr] at hL
    have hd : Int.tdiv (m + 30) 31 = (c : Int) := by
      rw [hc]; unfold cntI; rw [if_pos hr]; unfold cntN
      rw [Int.tdiv_eq_ediv_of_nonneg (by omega)]
      omega
    have w1 : IntKind.i64.wrap (m + 31) = m + 31 := by rw [IntKind.wrap_i64]; omega
    have w2 : IntKind.i64.wrap (m + 31 - 1) = m + 30 := by rw [IntKind.wrap_i64]; omega
    have w3 : IntKind.i64.wrap (c : Int) = (c : Int) := by rw [IntKind.wrap_i64]; rw [hc]; unfold cntI cntN; split <;> omega
    clear hc hr
    go_enter Tryd.func57, Tryd.ntmps57
    go_wp2_with fail
    refine (hL _).mono ?_
    rintro e w' ⟨rfl, rfl⟩
    go_wp2
    go_ret
    exact ⟨rfl, rfl⟩
  · rw [show decide (0 ≤ m ∧ m ≤ 65535) = false from decide_eq_false hr] at hL
    obtain rfl : c = 0 := by rw [hc]; unfold cntI; rw [if_neg hr]
    clear hc
    go_enter Tryd.func57, Tryd.ntmps57
    go_wp2_with fail
    refine (hL _).mono ?_
    rintro e w' ⟨rfl, rfl⟩
    go_wp2
    go_ret
    exact ⟨rfl, rfl⟩
theorem count_any (m : Int) (hm : (Lit.int .i64 m).wf = true) (w : World) :
    Calls Tryd.prog 57 #[.int .i64 m] w fun e w' => e = .returned (.int .i64 (cntI m : Int)) ∧ Off (fun _ => False) w w' := by
  refine (count_ex m hm w).mono ?_
  rintro e w' ⟨rfl, rfl⟩
  exact ⟨rfl, Off.refl _ _⟩
end
section
/-- The chunk with the index i. -/
def chk (bs : List Nat) (i : Nat) : List Nat := (bs.drop (31 * i)).take 31
/-- Its length. -/
def chkN (n i : Nat) : Nat := min 31 (n - 31 * i)
theorem chk_len (bs : List Nat) (i : Nat) : (chk bs i).length = chkN bs.length i := by unfold chk chkN; simp
theorem chkN_le (n i : Nat) : chkN n i ≤ 31 := Nat.min_le_left _ _
theorem chkN_pos {n i : Nat} (h : i < cntN n) : 0 < chkN n i := by unfold cntN at h; unfold chkN; omega
theorem cntN_step {n i : Nat} (h : 31 * i < n) : i < cntN n := by unfold cntN; omega
theorem cntN_end {n i : Nat} (h : n ≤ 31 * i) : cntN n ≤ i := by unfold cntN; omega
theorem chk_small {bs : List Nat} (h : Small bs) (i : Nat) : Small (chk bs i) := (h.drop _).take _
/-- The numbers of the first k chunks. -/
def splitK (bs : List Nat) (k : Nat) : List Nat := (List.range k).map fun i => numB (chk bs i)
def splitV (bs : List Nat) : List Nat := splitK bs (cntN bs.length)
theorem splitK_zero (bs : List Nat) : splitK bs 0 = [] := rfl
theorem splitK_succ (bs : List Nat) (k : Nat) : splitK bs (k + 1) = splitK bs k ++ [numB (chk bs k)] := by simp [splitK, List.range_succ]
theorem splitK_length (bs : List Nat) (k : Nat) : (splitK bs k).length = k := by simp [splitK]
theorem splitK_get (bs : List Nat) {k i : Nat} (h : i < k) : (splitK bs k)[i]? = some (numB (chk bs i)) := by simp [splitK, h]
theorem splitV_length (bs : List Nat) : (splitV bs).length = cntN bs.length := splitK_length _ _
theorem chk_num_lt {bs : List Nat} (h : Small bs) (i : Nat) : numB (chk bs i) < 256 ^ 31 :=
  Nat.lt_of_lt_of_le (numB_lt (chk_small h i)) (Nat.pow_le_pow_right (by decide) (by rw [chk_len]; exact chkN_le _ _))
/-- What has been read back of the elements l of a secret of n bytes: the bytes, and an error. -/
def joinG (n : Nat) (l : List Nat) : Nat → List Nat × Nat
  | 0 => ([], 0)
  | k + 1 => if (joinG n l k).2 = 0 then (if (unpV (l.getD k 0) (chkN n k : Int)).2 = 0 then ((joinG n l k).1 ++ (unpV (l.getD k 0) (chkN n k : Int)).1, 0) else ([], (unpV (l.getD k 0) (chkN n k : Int)).2)) else ([], (joinG n l k).2)
/-- Join: the secret and the error. -/
def joinV (l : List Nat) (m : Int) : List Nat × Nat := if 0 ≤ m ∧ m ≤ 65535 then (if l.length = cntN m.toNat then joinG m.toNat l l.length else ([], 8)) else ([], 6)
theorem joinG_bad {n : Nat} {l : List Nat} : ∀ {k : Nat}, (joinG n l k).2 ≠ 0 → (joinG n l k).1 = []
  | 0, h => rfl
  | k + 1, h => by
    unfold joinG at h ⊢
    split
    · rename_i h0
      rw [if_pos h0] at h
      split
      · rename_i h1
        rw [if_pos h1] at h
        exact absurd rfl h
      · rfl
    · rfl
/-- Once there is an error, it stays. -/
theorem joinG_stays {n : Nat} {l : List Nat} {k : Nat} (h : (joinG n l k).2 ≠ 0) : ∀ j, joinG n l (k + j) = ([], (joinG n l k).2)
  | 0 => Prod.ext (joinG_bad h) rfl
  | j + 1 => by
    show joinG n l (k + j + 1) = _
    rw [joinG, joinG_stays h j, if_neg h]
theorem unpV_ok (v : Nat) {k : Nat} (h : k ≤ 31) : unpV v (k : Int) = if orB ((bytesN v 32).drop k) = 0 then ((bytesN v 32).take k, 0) else ([], 10) := by unfold unpV; rw [if_pos ⟨by omega, by omega⟩, Int.toNat_natCast]
theorem unp_pack' {bs : List Nat} (hs : Small bs) (h : bs.length ≤ 31) : unpV (numB bs) (bs.length : Int) = (bs, 0) := by
  rw [unpV_ok _ h]
  have h1 : (bytesN (numB bs) 32).take bs.length = bs := by rw [bytesN_take _ _ _ (by omega), bytesN_numB hs]
  have h2 : orB ((bytesN (numB bs) 32).drop bs.length) = 0 := by
    rw [orB_zero]
    intro x hx
    obtain ⟨t, ht⟩ := List.getElem?_of_mem hx
    have hl := (List.getElem?_eq_some_iff.1 ht).1
    rw [List.length_drop, bytesN_length] at hl
    rw [List.getElem?_drop, bytesN_get _ _ _ (by omega), by8_over hs (by omega)] at ht
    exact (Option.some.inj ht).symm
  rw [if_pos h2, h1]
theorem joinG_len (n : Nat) (l : List Nat) : ∀ k, (joinG n l k).1.length ≤ 31 * k
  | 0 => Nat.le_refl _
  | k + 1 => by
    have ih := joinG_len n l k
    unfold joinG
    split
    · split
      · rw [List.length_append, unpV_ok _ (chkN_le _ _)]
        split
        · rw [List.length_take]; have := chkN_le n k; omega
        · simp only [List.length_nil]; omega
      · exact Nat.zero_le _
    · exact Nat.zero_le _
/-- Reading back what was divided. -/
theorem join_split {bs : List Nat} (hs : Small bs) : ∀ k, k ≤ cntN bs.length → joinG bs.length (splitV bs) k = (bs.take (31 * k), 0)
  | 0, _ => rfl
  | k + 1, h => by
    have ih := join_split hs k (by omega)
    have hg : (splitV bs).getD k 0 = numB (chk bs k) := by rw [List.getD_eq_getElem?_getD]; unfold splitV; rw [splitK_get bs (by omega)]; rfl
    have hu : unpV (numB (chk bs k)) (chkN bs.length k : Int) = (chk bs k, 0) := by
      rw [← chk_len]; exact unp_pack' (chk_small hs k) (by rw [chk_len]; exact chkN_le _ _)
    rw [joinG, ih, if_pos rfl, hg, hu, if_pos rfl]
    refine Prod.ext ?_ rfl
    show bs.take (31 * k) ++ (bs.drop (31 * k)).take 31 = _
    rw [← List.take_add]
    rfl
theorem join_split_all {bs : List Nat} (hs : Small bs) (h : bs.length ≤ 65535) : joinV (splitV bs) (bs.length : Int) = (bs, 0) := by
  unfold joinV
  rw [if_pos ⟨by omega, by omega⟩, Int.toNat_natCast, splitV_length, if_pos rfl, join_split hs _ (Nat.le_refl _), List.take_of_length_le (by unfold cntN; omega)]
/-- A number whose bytes from k on are zeros, out of its first k bytes. -/
theorem num_of_take {v k : Nat} (hv : v < R256) (hk : k ≤ 32) (h : orB ((bytesN v 32).drop k) = 0) : numB ((bytesN v 32).take k) = v := by
  have hz : (bytesN v 32).drop k = List.replicate (32 - k) 0 := by
    rw [List.eq_replicate_iff]
    exact ⟨by rw [List.length_drop, bytesN_length], fun x hx => (orB_zero _).1 h x hx⟩
  have hsp := numB_split (bytesN v 32) k (by rw [bytesN_length]; exact hk)
  rw [hz, numB_zeros, Nat.mul_zero, Nat.add_zero, numB_bytesN32 hv] at hsp
  exact hsp.symm
/-- What was read back, divided again. -/
theorem split_join {n : Nat} {l : List Nat} (hl : ∀ x ∈ l, x < R256) : ∀ k, k ≤ l.length → k ≤ cntN n → (joinG n l k).2 = 0 → (joinG n l k).1.length = min n (31 * k) ∧ Small (joinG n l k).1 ∧ ∀ i, i < k → numB (chk (joinG n l k).1 i) = l.getD i 0
  | 0, _, _, _ => ⟨by simp [joinG], fun x hx => (by simp [joinG] at hx), fun i hi => absurd hi (Nat.not_lt_zero i)⟩
  | k + 1, hk, hn, h => by
    unfold joinG at h ⊢
    split at h
    · rename_i h0
      rw [if_pos h0]
      obtain ⟨i1, i2, i3⟩ := split_join hl k (by omega) (by omega) h0
      split at h
      · rename_i h1
        rw [if_pos h1]
        have hc := chkN_le n k
        have hu := unpV_ok (l.getD k 0) hc
        rw [hu] at h1 ⊢
        split at h1
        · rename_i hz
          rw [if_pos hz]
          have hp : 31 * k < n := by have := chkN_pos (show k < cntN n by omega); unfold chkN at this; omega
          have hlen : (joinG n l k).1.length = 31 * k := by rw [i1]; omega
          have hv : l.getD k 0 < R256 := by
            rw [List.getD_eq_getElem?_getD, List.getElem?_eq_getElem (show k < l.length by omega)]
            exact hl _ (List.getElem_mem _)
          have ht : ((bytesN (l.getD k 0) 32).take (chkN n k)).length = chkN n k := by rw [List.length_take, bytesN_length]; omega
          refine ⟨?_, fun x hx => ?_, fun i hi => ?_⟩
          · rw [List.length_append, ht, hlen]; unfold chkN; omega
          · rcases List.mem_append.1 hx with h | h
            · exact i2 x h
            · exact (bytesN_small _ _).take _ x h
          · unfold chk
            rcases Nat.lt_or_eq_of_le (Nat.le_of_lt_succ hi) with hlt | rfl
            · rw [List.drop_append_of_le_length (by rw [hlen]; omega), List.take_append_of_le_length (by rw [List.length_drop, hlen]; omega)]
              exact i3 i hlt
            · rw [List.drop_append_of_le_length (by rw [hlen]; omega), List.drop_eq_nil_of_le (by rw [hlen]; omega), List.nil_append, List.take_of_length_le (by rw [ht]; exact hc)]
              exact num_of_take hv (by omega) hz
        · exact absurd h1 (by decide)
      · exact absurd h ‹_›
    · exact absurd h ‹_›
/-- A secret that was read back: its length, and its chunks' numbers. -/
theorem join_canon {l : List Nat} {m : Int} {bs : List Nat} (hl : ∀ x ∈ l, x < R256) (h : joinV l m = (bs, 0)) : 0 ≤ m ∧ m ≤ 65535 ∧ bs.length = m.toNat ∧ Small bs ∧ splitV bs = l := by
  unfold joinV at h
  split at h
  · rename_i hr
    split at h
    · rename_i hc
      have h1 : (joinG m.toNat l l.length).1 = bs := by rw [h]
      have h2 : (joinG m.toNat l l.length).2 = 0 := by rw [h]
      obtain ⟨a1, a2, a3⟩ := split_join hl l.length (Nat.le_refl _) (by omega) h2
      rw [h1] at a1 a2 a3
      have hlen : bs.length = m.toNat := by rw [a1]; unfold cntN at hc; omega
      refine ⟨hr.1, hr.2, hlen, a2, ?_⟩
      apply List.ext_getElem?
      intro i
      unfold splitV
      rw [hlen, ← hc]
      by_cases hi : i < l.length
      · rw [splitK_get _ hi, a3 i hi, List.getD_eq_getElem?_getD, List.getElem?_eq_getElem hi]; rfl
      · rw [List.getElem?_eq_none (by rw [splitK_length]; omega), List.getElem?_eq_none (by omega)]
    · exact absurd (congrArg Prod.snd h) (by simp)
  · exact absurd (congrArg Prod.snd h) (by simp)
/-- With an error there is no secret. -/
theorem join_bad {l : List Nat} {m : Int} {bs : List Nat} {er : Nat} (h : joinV l m = (bs, er)) (he : er ≠ 0) : bs = [] := by
  unfold joinV at h
  split at h
  · split at h
    · have h2 : (joinG m.toNat l l.length).2 ≠ 0 := by rw [h]; exact he
      have h3 := joinG_bad h2
      rw [h] at h3
      exact h3
    · exact (congrArg Prod.fst h).symm
  · exact (congrArg Prod.fst h).symm
end
section
open Go.RowKit
attribute [local go_sem ↓] Go.wp_at_zero Go.wp_at_succ
set_option maxRecDepth 100000 in
set_option maxHeartbeats 4000000 in
theorem refsplit_any (a : Option Addr) (n cap : Nat) (bs : List Nat) (S : Nat → Prop) (w : World) (hb : BsAt w a bs S) (hn : n = bs.length) (hc : n ≤ cap) (hs : Small bs) (hl : n ≤ 65535) :
    Calls Tryd.prog 37 #[.slice a n cap] w fun e w' => ∃ a2 c2, e = .returned (.tuple #[.slice a2 (cntN n) c2, .int .i64 0]) ∧ w'.ownsRow w.heap.size 51 4 (.slice a2 (cntN n) c2) (cntN n) (flat4 (splitV bs)) ∧ Off (fun _ => False) w w' := by
  obtain ⟨j0, hj, hj0, hj1, hj2⟩ := info_parts vec_info
  have HB := Lib.hid hb
  have HN := Lib.hid hn
  have HS := Lib.hid hs
  have hc1 : (n : Int) ≤ (cap : Int) := by omega
  have hl1 : ¬ (65535 : Int) < (n : Int) := by omega
  have HSV := Lib.hid (show splitV bs = splitK bs (cntN n) by unfold splitV; rw [hn])
  rw [HSV.out]
  clear hb hn hs
  go_enter Tryd.func37, Tryd.ntmps37
  go_wp2
  go_loopw [4, 5] (fun v i wr => ∃ k : Nat, k ≤ cntN n ∧ i = .int .i64 ((31 * k : Nat) : Int) ∧ (∃ a c, v = .slice a k c ∧ wr.ownsRow w.heap.size 51 4 v k (flat4 (splitK bs k))) ∧ Off (fun _ => False) w wr) (fun _ i _ => n - (intOf i).toNat)
  case atStart => exact ⟨0, Nat.zero_le _, rfl, ⟨none, 0, rfl, World.ownsRow_nil _ _ _ _⟩, Off.refl _ w⟩
  case round =>
    obtain ⟨k, hk, rfl, ⟨va, vc, rfl, hov⟩, hO⟩ := hrel
    obtain ⟨q, hq⟩ : ∃ q, q = 31 * k := ⟨_, rfl⟩
    rw [← hq]
    by_cases hlt : q < n
    · obtain ⟨j, hj'⟩ : ∃ j, j = min (q + 31) n := ⟨_, rfl⟩
      have hqj : q ≤ j := by omega
      have hjn : j ≤ n := by omega
      obtain ⟨d, hd⟩ : ∃ d, d = j - q := ⟨_, rfl⟩
      have hd31 : d ≤ 31 := by omega
      obtain ⟨a1, hsl, hb1⟩ := part_lh a n cap q j bs HN.out hqj hjn hc
      rw [← hd] at hsl hb1
      obtain ⟨m, hm⟩ : ∃ m, m = numB (chk bs k) := ⟨_, rfl⟩
      have hck : (bs.drop q).take d = chk bs k := by
        unfold chk
        rw [← hq]
        by_cases h31 : q + 31 ≤ n
        · rw [show d = 31 by omega]
        · rw [List.take_of_length_le (by rw [List.length_drop, ← HN.out]; omega), List.take_of_length_le (by rw [List.length_drop, ← HN.out]; omega)]
      have FNu := Lib.hid (fun W hO => refnumber_any a1 d (cap - q) (chk bs k) S W (hck ▸ hb1 W S (HB.out.off hO (fun _ _ _ c => c))) (by rw [← hck, List.length_take, List.length_drop, ← HN.out]; omega) (chk_small HS.out k) (by omega) : ∀ W, Off (fun _ => False) w W → _)
      rw [← hm] at FNu
      have HFl := Lib.hid (show flat4 (splitK bs k) ++ words4 m = flat4 (splitK bs (k + 1)) by rw [splitK_succ, flat4_append, ← hm]; rfl)
      have i1 : (q : Int) < (n : Int) := by omega
      have w1 : IntKind.i64.wrap ((q : Int) + 31) = (q : Int) + 31 := by rw [IntKind.wrap_i64]; omega
      have mn : min ((q : Int) + 31) (n : Int) = (j : Int) := by omega
      have hkc : k + 1 ≤ cntN n := cntN_step (by omega)
      have HK := Lib.hid (show k + 1 ≤ 100000 by unfold cntN at hkc; omega)
      have HKC := Lib.hid hkc
      have HO := Lib.hid hO
      have HOv := Lib.hid hov
      have HQ := Lib.hid hq
      clear hk hov hO hb1 hck hm hj' hkc hq hd
      go_wp2_with fail
      refine (FNu.out _ HO.out).mono ?_
      rintro e u1 ⟨rfl, hO1⟩
      have HO2 := Lib.hid (HO.out.trans hO1 (fun _ _ c => c))
      have HOv2 := Lib.hid (own_off HOv.out hO1)
      clear hO1
      go_wp2_with (at_builtin; refine wpList_append_own _ rfl _ _ 46 rfl w.heap.size 51 j0 _ 4 32 Tryd.underlying46 hj hj0 hj1 hj2 rfl (by decide) _ k _ rfl (HOv2.out.alloc _) ⟨u1.heap.size, 0, none⟩ 1 1 (words4 m) rfl rfl ?q1 (words4_one _) ?q2 ?q3 ?q4 ?_)
      case q1 => exact words4_at (heap_new' rfl _)
      case q2 => have := HK.out; unfold maxLen; omega
      case q3 => have := HK.out; omega
      case q4 => have := HO2.out.size; simp; omega
      intro v' w1 hown' hgrow hnil
      obtain ⟨g6, c6, rfl⟩ := ownsRow_succ hown'
      have hO3 : Off (fun _ => False) w w1 := grown_off (HO2.out.alloc _) (Nat.le_refl _) (HOv2.out.alloc _) hgrow
      rw [HFl.out] at hown'
      have w2 : IntKind.i64.wrap ((q : Int) + 31) = (q : Int) + 31 := by rw [IntKind.wrap_i64]; omega
      go_wp2
      go_roundw
      case rel => exact ⟨k + 1, HKC.out, by rw [HQ.out, show ((31 * k : Nat) : Int) + 31 = ((31 * (k + 1) : Nat) : Int) by omega], ⟨_, _, rfl, hown'⟩, hO3⟩
      case measure => simp [intOf]; omega
    · have hkc : k = cntN n := Nat.le_antisymm hk (cntN_end (by omega))
      subst hkc
      have i1 : ¬ (q : Int) < (n : Int) := by omega
      have HQ := Lib.hid hq
      clear hq
      go_wp2
      exact bodyPost_ret (v := .tuple #[.slice va (cntN n) vc, .int .i64 0]) (by simp [results, Tryd.results37, go_sem]) rfl ⟨_, _, rfl, hov, hO⟩
theorem row_sv {w : World} {B : Nat} {v : Value} {xs : List Nat} (h : RowY B w v xs) : SvAt w v xs := by
  obtain ⟨a, cap, hv, hc, hb⟩ := h.at
  exact ⟨a, _, cap, hv, rfl, hc, hb.mono fun _ _ _ => trivial⟩
theorem sv_nil (w : World) : SvAt w (.slice none 0 0) [] := ⟨none, 0, 0, rfl, rfl, Nat.le_refl _, BsAt.nil _ _ _⟩
end
end Go.Proofs.YtclehgconbdkpaaDoor
