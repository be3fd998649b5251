/-
  The contract of the reference's block over this seat's translation, and its Sum. Conditions: the words are words, the bytes bytes.
-/
import Derived.Test.YthjfhgnmaepafaaDoorShaSum
import Derived.Test.YthjfhgnmaepafaaDoorShaBits
import Derived.Test.YthjfhgnmaepafaaDoorInvIn
import Derived.Test.YthjfhgnmaepafaaDoorInvClo
namespace Go.Proofs.YthjfhgnmaepafaaDoor
open Go.RowKit
set_option maxRecDepth 100000
set_option maxHeartbeats 4000000
theorem append_oper {P : Program} {o : Oper} {a : Act} {w w' : World} {K : Act → World → Prop} {Q : Exit → Act → World → Prop} {s x : Operand} {t tn : TypeId} {v xv v' : Value}
    (ho : o.op = .call { callee := .builtin .append, args := #[s, x], argTypes := #[t, tn] }) (hs : a.eval s = v) (hx : a.eval x = xv) (hr : (Builtin.append_ #[t, tn] o.type #[v, xv]).run P w = .ok v' w') (h : K (a.put o.dst v') w') : Oper.wp P o a w K Q :=
  Go.Lib.wp_append_run w s x t tn ho v xv hs hx v' w' hr h
/-- Words put behind a row of words. -/
theorem app_words {w W : World} {v : Value} {xs ys : List Nat} (hO : Off (fun _ => False) w W) (h1 : RowW w.heap.size W v xs) {g off n cap : Nat} (h2 : ∀ j x, ys[j]? = some x → W.cell? ⟨g, off + j, none⟩ = some (u32v x)) (hn : n = ys.length) (hk : xs.length + n ≤ 100000) :
    ∃ v' w', (Builtin.append_ #[39, 39] 39 #[v, .slice (some ⟨g, off, none⟩) n cap]).run Tryd.prog W = .ok v' w' ∧ RowW w.heap.size w' v' (xs ++ ys) ∧ Off (fun _ => False) w w' := by
  obtain ⟨i0, hi, hz0, hz1, hz2⟩ := info_parts word_info
  obtain ⟨v', w', hr, ho, hg, _, hb⟩ := run_append_own_at (P := Tryd.prog) W w.heap.size 39 39 42 i0 _ 1 4 Tryd.underlying39 hi hz0 hz1 hz2 rfl (by decide) v xs.length _ h1 ⟨g, off, none⟩ n cap (ys.map u32v) (by rw [List.length_map]; omega) (fun j u hu => by
    rw [List.getElem?_map] at hu
    obtain ⟨y, hy, rfl⟩ := Option.map_eq_some_iff.1 hu
    rw [Addr.add_lit]; exact h2 j y hy) (fun u hu => by
    obtain ⟨y, _, rfl⟩ := List.mem_map.1 hu
    rfl) (by unfold maxLen; omega) (by omega) hO.size
  refine ⟨v', w', hr, ?_, ?_⟩
  · unfold RowW RowT
    rw [List.map_append, List.length_append, ← hn]
    exact ho
  · refine hO.grown hg (fun j ej => ?_)
    have hx := (World.ownsRow.lt h1 j ej).1
    refine ⟨fun h => by omega, fun o ho => ?_⟩
    rcases h1.2 with ⟨rfl, _⟩ | ⟨g, cap, cur, rfl, _, hgb, _⟩
    · simp [Value.ownBlock] at ej
    · obtain rfl : g = j := by simpa [Value.ownBlock] using ej
      rw [hgb] at ho; cases ho; rfl
theorem RowT.base {T : TypeId} {f : Nat → Value} {B B' : Nat} {W : World} {v : Value} {xs : List Nat} (h : RowT T f B W v xs) (hb : B' ≤ B) : RowT T f B' W v xs :=
  ⟨h.1, h.2.imp id (fun ⟨g, cap, cur, e, hB, r⟩ => ⟨g, cap, cur, e, Nat.le_trans hb hB, r⟩)⟩
/-- The state with the first i words added. -/
def adP (v s : W8) (i : Nat) : List Nat := (addV v s).list.take i ++ v.list.drop i
theorem adP_zero (v s : W8) : adP v s 0 = v.list := rfl
theorem adP_full (v s : W8) : adP v s 8 = (addV v s).list := rfl
theorem adP_length (v s : W8) (i : Nat) (h : i ≤ 8) : (adP v s i).length = 8 := by unfold adP; simp [W8.list]; omega
theorem adP_get (v s : W8) (i : Nat) (h : i < 8) : (adP v s i)[i]? = v.list[i]? := by
  match i, h with
  | 0, _ | 1, _ | 2, _ | 3, _ | 4, _ | 5, _ | 6, _ | 7, _ => rfl
theorem adP_set (v s : W8) (i x y : Nat) (h : i < 8) (hx : v.list[i]? = some x) (hy : s.list[i]? = some y) : (adP v s i).set i ((x + y) % 4294967296) = adP v s (i + 1) := by
  rcases v with ⟨a, b, c, d, e, f, g, k⟩
  rcases s with ⟨a', b', c', d', e', f', g', k'⟩
  match i, h with
  | 0, _ | 1, _ | 2, _ | 3, _ | 4, _ | 5, _ | 6, _ | 7, _ => simp [W8.list] at hx hy; subst hx hy; rfl
theorem block_any (s : W8) (k b : List Nat) (v1 v2 : Value) (g3 off3 cap3 : Nat) (w : World) (hs : s.ok) (hk : Ws k) (hkl : k.length = 64) (hb : Sm b) (hbl : b.length = 64) (h1 : LvAt u32v w v1 s.list) (h2 : LvAt u32v w v2 k) (hc3 : 64 ≤ cap3) (h3 : ∀ j x, b[j]? = some x → w.cell? ⟨g3, off3 + j, none⟩ = some (u8v x)) :
    Calls Tryd.prog 21 #[v1, v2, .slice (some ⟨g3, off3, none⟩) 64 cap3] w fun e w' => ∃ v, e = .returned v ∧ LvAt u32v w' v (blkV s k b).list ∧ Off (fun _ => False) w w' := by
  have H1 := Lib.hid h1
  have H2 := Lib.hid h2
  have H3 := Lib.hid h3
  have HS := Lib.hid hs
  have HB := Lib.hid hb
  have HBL := Lib.hid hbl
  have HK := Lib.hid hk
  have HKL := Lib.hid hkl
  have HC3 := Lib.hid hc3
  clear h1 h2 h3 hs hb hbl hk hkl hc3
  go_enter Tryd.func21, Tryd.ntmps21
  go_wp2
  go_loopw [7, 8] (fun v i wr => ∃ t : Nat, t ≤ 64 ∧ i = .int .i64 (t : Int) ∧ RowW w.heap.size wr v (wL b t) ∧ Off (fun _ => False) w wr) (fun _ i _ => 64 - (intOf i).toNat)
  case atStart => exact ⟨0, by omega, rfl, RowT.nil _, Off.refl _ w⟩
  case round =>
    obtain ⟨t, ht, rfl, hr, hO⟩ := hrel
    by_cases hlt : t < 64
    · have i1 : decide ((t : Int) < 64) = true := by simp; omega
      by_cases h16 : t < 16
      · have i2 : decide ((t : Int) < 16) = true := by simp; omega
        have hcell : ∀ j, j < 64 → ∃ x, x < 256 ∧ b.getD j 0 = x ∧ wr.drew.cell? ⟨g3, off3 + j, none⟩ = some (u8v x) := fun j hj => by
          have hj' : j < b.length := by rw [HBL.out]; exact hj
          exact ⟨b[j], HB.out _ (List.getElem_mem hj'), by rw [List.getD_eq_getElem?_getD, List.getElem?_eq_getElem hj']; rfl, hO.drew.cell (H3.out _ _ (List.getElem?_eq_getElem hj')) (fun c => c)⟩
        obtain ⟨x0, l0, e0, d0⟩ := hcell (4 * t) (by omega)
        obtain ⟨x1, l1, e1, d1⟩ := hcell (4 * t + 1) (by omega)
        obtain ⟨x2, l2, e2, d2⟩ := hcell (4 * t + 2) (by omega)
        obtain ⟨x3, l3, e3, d3⟩ := hcell (4 * t + 3) (by omega)
        have hwa : wordAt b t = word4 x0 x1 x2 x3 := by unfold wordAt; rw [e0, e1, e2, e3]
        have m0 : IntKind.i64.wrap (4 * (t : Int)) = ((4 * t : Nat) : Int) := by rw [IntKind.wrap_i64]; omega
        obtain ⟨q, hq⟩ : ∃ q, q = 4 * t := ⟨_, rfl⟩
        have hq64 : q + 3 < 64 := by omega
        rw [← hq] at d0 d1 d2 d3 m0
        have m1 : IntKind.i64.wrap ((q : Int) + 1) = ((q + 1 : Nat) : Int) := by rw [IntKind.wrap_i64]; omega
        have m2 : IntKind.i64.wrap ((q : Int) + 2) = ((q + 2 : Nat) : Int) := by rw [IntKind.wrap_i64]; omega
        have m3 : IntKind.i64.wrap ((q : Int) + 3) = ((q + 3 : Nat) : Int) := by rw [IntKind.wrap_i64]; omega
        obtain ⟨y0, hy0⟩ : ∃ y, y = x0 * 16777216 := ⟨_, rfl⟩
        obtain ⟨y1, hy1⟩ : ∃ y, y = x1 * 65536 := ⟨_, rfl⟩
        obtain ⟨y2, hy2⟩ : ∃ y, y = x2 * 256 := ⟨_, rfl⟩
        obtain ⟨z1, hz1⟩ : ∃ y, y = y0 + y1 := ⟨_, rfl⟩
        obtain ⟨z2, hz2⟩ : ∃ y, y = z1 + y2 := ⟨_, rfl⟩
        obtain ⟨y, hy⟩ : ∃ y, y = z2 + x3 := ⟨_, rfl⟩
        have hyw : (if t < 16 then wordAt b t else nextW (wL b t) t) = y := by rw [if_pos h16, hwa]; unfold word4; omega
        have a0 : IntKind.u32.wrap (x0 : Int) = (x0 : Int) := by rw [IntKind.wrap_u32]; omega
        have a1 : IntKind.u32.wrap (x1 : Int) = (x1 : Int) := by rw [IntKind.wrap_u32]; omega
        have a2 : IntKind.u32.wrap (x2 : Int) = (x2 : Int) := by rw [IntKind.wrap_u32]; omega
        have a3 : IntKind.u32.wrap (x3 : Int) = (x3 : Int) := by rw [IntKind.wrap_u32]; omega
        have c0 : IntKind.u32.wrap ((x0 : Int) * 16777216) = (y0 : Int) := by rw [IntKind.wrap_u32]; omega
        have c1 : IntKind.u32.wrap ((x1 : Int) * 65536) = (y1 : Int) := by rw [IntKind.wrap_u32]; omega
        have c2 : IntKind.u32.wrap ((x2 : Int) * 256) = (y2 : Int) := by rw [IntKind.wrap_u32]; omega
        have c3 : IntKind.u32.wrap ((y0 : Int) + (y1 : Int)) = (z1 : Int) := by rw [IntKind.wrap_u32]; omega
        have c4 : IntKind.u32.wrap ((z1 : Int) + (y2 : Int)) = (z2 : Int) := by rw [IntKind.wrap_u32]; omega
        have qb0 : (q : Int) < 64 := by omega
        have qb1 : (0 : Int) ≤ (q : Int) + 1 := by omega
        have qb2 : (q : Int) + 1 < 64 := by omega
        have qb3 : (0 : Int) ≤ (q : Int) + 2 := by omega
        have qb4 : (q : Int) + 2 < 64 := by omega
        have qb5 : (0 : Int) ≤ (q : Int) + 3 := by omega
        have qb6 : (q : Int) + 3 < 64 := by omega
        have i3 : IntKind.i64.wrap ((t : Int) + 1) = ((t + 1 : Nat) : Int) := by rw [IntKind.wrap_i64]; omega
        have c5 : IntKind.u32.wrap ((z2 : Int) + (x3 : Int)) = (y : Int) := by rw [IntKind.wrap_u32]; omega
        obtain ⟨Wd, hWd⟩ : ∃ Wd, Wd = wr.drew := ⟨_, rfl⟩
        have hOd : Off (fun _ => False) w Wd := hWd ▸ hO.drew
        have hrd : RowW w.heap.size Wd u7 (wL b t) := by rw [hWd]; exact RowT.off hr (Off.refl (fun _ => False) wr).drew (fun _ _ c => c)
        obtain ⟨W4, hW4⟩ : ∃ W4, W4 = Wd.alloc (.cells #[u32v y] 42) := ⟨_, rfl⟩
        have hO4 : Off (fun _ => False) Wd W4 := by rw [hW4]; exact (Off.refl _ Wd).alloc _
        obtain ⟨v5, w5, hr5, r5, o5⟩ := app_word (hOd.trans hO4 (fun _ _ c => c)) (hrd.off hO4 (fun _ _ c => c)) (by rw [wL_length]; omega) ⟨Wd.heap.size, 0, none⟩ y (by rw [hW4]; rw [cell_of_heap (heap_new' rfl _)]; rfl)
        have HR5 := Lib.hid hr5
        have HRw := Lib.hid (show RowW w.heap.size w5 v5 (wL b (t + 1)) by show RowW _ _ _ (wL b t ++ _); rw [hyw]; exact r5)
        have HO5 := Lib.hid o5
        have HW4 := Lib.hid hW4
        rw [← hWd] at d0 d1 d2 d3
        have D0 := Lib.hid d0
        have D1 := Lib.hid d1
        have D2 := Lib.hid d2
        have D3 := Lib.hid d3
        have HWd := Lib.hid hWd
        clear hr hO hcell hq r5 o5 hy hy0 hy1 hy2 hz1 hz2 l0 l1 l2 l3 e0 e1 e2 e3 d0 d1 d2 d3 hr5 hW4 hO4 hOd hrd hWd hwa hyw
        go_upto_region 6 with fail
        obtain ⟨x26, hx⟩ : ∃ x : Value, x = u7 := ⟨_, rfl⟩
        have X26 := Lib.hid hx
        clear hx
        obtain ⟨x27, hx⟩ : ∃ x : Value, x = .slice (some ⟨g3, off3, none⟩) 64 cap3 := ⟨_, rfl⟩
        have X27 := Lib.hid hx
        clear hx
        obtain ⟨x28, hx⟩ : ∃ x : Value, x = .int .i64 (t : Int) := ⟨_, rfl⟩
        have X28 := Lib.hid hx
        clear hx
        obtain ⟨x29, hx⟩ : ∃ x : Value, x = .int .i64 (q : Int) := ⟨_, rfl⟩
        have X29 := Lib.hid hx
        clear hx
        obtain ⟨x30, hx⟩ : ∃ x : Value, x = .pointer (some ⟨g3, off3 + q, none⟩) := ⟨_, rfl⟩
        have X30 := Lib.hid hx
        clear hx
        obtain ⟨x31, hx⟩ : ∃ x : Value, x = u8v x0 := ⟨_, rfl⟩
        have X31 := Lib.hid hx
        clear hx
        obtain ⟨x32, hx⟩ : ∃ x : Value, x = .int .u32 (x0 : Int) := ⟨_, rfl⟩
        have X32 := Lib.hid hx
        clear hx
        obtain ⟨x33, hx⟩ : ∃ x : Value, x = .int .u32 (y0 : Int) := ⟨_, rfl⟩
        have X33 := Lib.hid hx
        clear hx
        obtain ⟨x34, hx⟩ : ∃ x : Value, x = .slice (some ⟨g3, off3, none⟩) 64 cap3 := ⟨_, rfl⟩
        have X34 := Lib.hid hx
        clear hx
        obtain ⟨x35, hx⟩ : ∃ x : Value, x = .int .i64 (t : Int) := ⟨_, rfl⟩
        have X35 := Lib.hid hx
        clear hx
        obtain ⟨x36, hx⟩ : ∃ x : Value, x = .int .i64 (q : Int) := ⟨_, rfl⟩
        have X36 := Lib.hid hx
        clear hx
        obtain ⟨x37, hx⟩ : ∃ x : Value, x = .int .i64 ((q + 1 : Nat) : Int) := ⟨_, rfl⟩
        have X37 := Lib.hid hx
        clear hx
        obtain ⟨x38, hx⟩ : ∃ x : Value, x = .pointer (some ⟨g3, off3 + (q + 1), none⟩) := ⟨_, rfl⟩
        have X38 := Lib.hid hx
        clear hx
        obtain ⟨x39, hx⟩ : ∃ x : Value, x = u8v x1 := ⟨_, rfl⟩
        have X39 := Lib.hid hx
        clear hx
        obtain ⟨x40, hx⟩ : ∃ x : Value, x = .int .u32 (x1 : Int) := ⟨_, rfl⟩
        have X40 := Lib.hid hx
        clear hx
        obtain ⟨x41, hx⟩ : ∃ x : Value, x = .int .u32 (y1 : Int) := ⟨_, rfl⟩
        have X41 := Lib.hid hx
        clear hx
        obtain ⟨x42, hx⟩ : ∃ x : Value, x = .int .u32 (z1 : Int) := ⟨_, rfl⟩
        have X42 := Lib.hid hx
        clear hx
        obtain ⟨x43, hx⟩ : ∃ x : Value, x = .slice (some ⟨g3, off3, none⟩) 64 cap3 := ⟨_, rfl⟩
        have X43 := Lib.hid hx
        clear hx
        obtain ⟨x44, hx⟩ : ∃ x : Value, x = .int .i64 (t : Int) := ⟨_, rfl⟩
        have X44 := Lib.hid hx
        clear hx
        obtain ⟨x45, hx⟩ : ∃ x : Value, x = .int .i64 (q : Int) := ⟨_, rfl⟩
        have X45 := Lib.hid hx
        clear hx
        obtain ⟨x46, hx⟩ : ∃ x : Value, x = .int .i64 ((q + 2 : Nat) : Int) := ⟨_, rfl⟩
        have X46 := Lib.hid hx
        clear hx
        obtain ⟨x47, hx⟩ : ∃ x : Value, x = .pointer (some ⟨g3, off3 + (q + 2), none⟩) := ⟨_, rfl⟩
        have X47 := Lib.hid hx
        clear hx
        obtain ⟨x48, hx⟩ : ∃ x : Value, x = u8v x2 := ⟨_, rfl⟩
        have X48 := Lib.hid hx
        clear hx
        obtain ⟨x49, hx⟩ : ∃ x : Value, x = .int .u32 (x2 : Int) := ⟨_, rfl⟩
        have X49 := Lib.hid hx
        clear hx
        obtain ⟨x50, hx⟩ : ∃ x : Value, x = .int .u32 (y2 : Int) := ⟨_, rfl⟩
        have X50 := Lib.hid hx
        clear hx
        obtain ⟨x51, hx⟩ : ∃ x : Value, x = .int .u32 (z2 : Int) := ⟨_, rfl⟩
        have X51 := Lib.hid hx
        clear hx
        obtain ⟨x52, hx⟩ : ∃ x : Value, x = .slice (some ⟨g3, off3, none⟩) 64 cap3 := ⟨_, rfl⟩
        have X52 := Lib.hid hx
        clear hx
        obtain ⟨x53, hx⟩ : ∃ x : Value, x = .int .i64 (t : Int) := ⟨_, rfl⟩
        have X53 := Lib.hid hx
        clear hx
        obtain ⟨x54, hx⟩ : ∃ x : Value, x = .int .i64 (q : Int) := ⟨_, rfl⟩
        have X54 := Lib.hid hx
        clear hx
        obtain ⟨x55, hx⟩ : ∃ x : Value, x = .int .i64 ((q + 3 : Nat) : Int) := ⟨_, rfl⟩
        have X55 := Lib.hid hx
        clear hx
        obtain ⟨x56, hx⟩ : ∃ x : Value, x = .pointer (some ⟨g3, off3 + (q + 3), none⟩) := ⟨_, rfl⟩
        have X56 := Lib.hid hx
        clear hx
        obtain ⟨x57, hx⟩ : ∃ x : Value, x = u8v x3 := ⟨_, rfl⟩
        have X57 := Lib.hid hx
        clear hx
        obtain ⟨x58, hx⟩ : ∃ x : Value, x = .int .u32 (x3 : Int) := ⟨_, rfl⟩
        have X58 := Lib.hid hx
        clear hx
        obtain ⟨x59, hx⟩ : ∃ x : Value, x = .int .u32 (y : Int) := ⟨_, rfl⟩
        have X59 := Lib.hid hx
        clear hx
        obtain ⟨x60, hx⟩ : ∃ x : Value, x = .slice (some ⟨Wd.heap.size, 0, none⟩) 1 1 := ⟨_, rfl⟩
        have X60 := Lib.hid hx
        clear hx
        obtain ⟨x61, hx⟩ : ∃ x : Value, x = v5 := ⟨_, rfl⟩
        have X61 := Lib.hid hx
        clear hx
        obtain ⟨x7, hx⟩ : ∃ x : Value, x = v5 := ⟨_, rfl⟩
        have X7 := Lib.hid hx
        clear hx
        refine wp_region_clo (fun a0 l a' w' => a' = (Act.put (fill a0 26 [sel (l 0) x26 u26, sel (l 1) x27 u27, sel (l 2) x28 u28, sel (l 3) x29 u29, sel (l 4) x30 u30, sel (l 5) x31 u31, sel (l 6) x32 u32, sel (l 7) x33 u33, sel (l 8) x34 u34, sel (l 9) x35 u35, sel (l 10) x36 u36, sel (l 11) x37 u37, sel (l 12) x38 u38, sel (l 13) x39 u39, sel (l 14) x40 u40, sel (l 15) x41 u41, sel (l 16) x42 u42, sel (l 17) x43 u43, sel (l 18) x44 u44, sel (l 19) x45 u45, sel (l 20) x46 u46, sel (l 21) x47 u47, sel (l 22) x48 u48, sel (l 23) x49 u49, sel (l 24) x50 u50, sel (l 25) x51 u51, sel (l 26) x52 u52, sel (l 27) x53 u53, sel (l 28) x54 u54, sel (l 29) x55 u55, sel (l 30) x56 u56, sel (l 31) x57 u57, sel (l 32) x58 u58, sel (l 33) x59 u59, sel (l 34) x60 u60, sel (l 35) x61 u61, u62, u63, u64, u65, u66, u67, u68, u69, u70, u71, u72, u73, u74, u75, u76, u77, u78, u79, u80, u81, u82, u83, u84, u85, u86, u87, u88, u89, u90, u91, u92, u93, u94, u95, u96, u97, u98, u99, u100, u101, u102, u103, u104, u105, undef, undef, undef, undef, undef, undef, undef, undef, undef, undef, undef, undef, undef, undef, undef, undef, undef, undef, undef, undef, undef, undef, undef, undef, undef, undef, undef, undef, undef, undef, undef, undef, undef, undef, undef, undef, undef, undef, undef, undef, undef, undef, undef, undef, undef, undef, undef, undef, undef, undef, undef, undef, undef, undef, undef, undef, undef, undef, undef, undef, undef, undef, undef, undef, undef, undef, undef, undef, undef, undef, undef, undef, undef, undef, undef, undef, undef, undef, undef, undef, undef, undef, undef, undef, undef, undef, undef, undef, undef, undef, undef, undef, undef, undef, undef, undef, undef, undef, undef, undef, undef, undef, undef, undef, undef, undef, undef, undef, undef, undef, undef, undef, undef, undef]) (some 7) (sel (l 36) x7 u7)) ∧ w' = (selW (l 35) w5 (selW (l 34) W4 Wd))) (by kernel_rfl) (by kernel_rfl) ?_ ⟨?_, ?_, ?_, ?_, ?_, ?_, ?_, ?_, ?_, ?_, ?_, ?_, ?_, ?_, ?_, ?_, ?_, ?_, ?_, ?_, ?_, ?_, ?_, ?_, ?_, ?_, ?_, ?_, ?_, ?_, ?_, ?_, ?_, ?_, ?_, ?_, ?_, trivial⟩ ?_
        · refine ⟨?_, HWd.out.symm⟩
          simp only [fill_eq, List.take_succ_cons, List.take_zero, List.cons_append, List.nil_append, Act.put, List.setIfInBounds_toArray, List.set_cons_zero, List.set_cons_succ, sel_start]
          try rfl
        · as_aux_lemma =>
            rintro l a wr ⟨ha, hw⟩ hc hl hd K' hK
            have hx := X26.out; subst hx
            have r36 := hc.not (i := 36) hl 37 (by kernel_rfl)
            simp only [fill_eq, List.take_succ_cons, List.take_zero, List.cons_append, List.nil_append, Act.put, List.setIfInBounds_toArray, List.set_cons_zero, List.set_cons_succ, sel_no r36] at ha
            subst ha
            have hw0 := Lib.hid hw
            have g35 := hc.not (i := 35) hl 37 (by kernel_rfl)
            clear hw
            have hg35 := Lib.hid g35
            clear g35
            have hr36 := Lib.hid r36
            clear r36
            rw [if_pos (by rfl)]
            go_simp
            refine Shut.out hK _ _ ⟨?_, ?_⟩
            · simp only [fill_eq, List.take_succ_cons, List.take_zero, List.cons_append, List.nil_append, Act.put, List.setIfInBounds_toArray, List.set_cons_zero, List.set_cons_succ, sel_new, sel_no (show upd l 0 36 = false from hr36.out)]
              try rfl
            · exact hw0.out
        · as_aux_lemma =>
            rintro l a wr ⟨ha, hw⟩ hc hl hd K' hK
            have hx := X27.out; subst hx
            simp only [fill_eq, List.take_succ_cons, List.take_zero, List.cons_append, List.nil_append, Act.put, List.setIfInBounds_toArray, List.set_cons_zero, List.set_cons_succ] at ha
            subst ha
            have hw0 := Lib.hid hw
            have g34 := hc.not (i := 34) hl 37 (by kernel_rfl)
            have g35 := hc.not (i := 35) hl 37 (by kernel_rfl)
            rw [selW_no g35, selW_no g34] at hw
            obtain rfl : Wd = wr := hw.symm
            have hg34 := Lib.hid g34
            clear g34
            have hg35 := Lib.hid g35
            clear g35
            rw [if_pos (by rfl)]
            go_simp
            refine Shut.out hK _ _ ⟨?_, ?_⟩
            · simp only [fill_eq, List.take_succ_cons, List.take_zero, List.cons_append, List.nil_append, Act.put, List.setIfInBounds_toArray, List.set_cons_zero, List.set_cons_succ, sel_new]
              try rfl
            · exact hw0.out
        · as_aux_lemma =>
            rintro l a wr ⟨ha, hw⟩ hc hl hd K' hK
            have hx := X28.out; subst hx
            simp only [fill_eq, List.take_succ_cons, List.take_zero, List.cons_append, List.nil_append, Act.put, List.setIfInBounds_toArray, List.set_cons_zero, List.set_cons_succ] at ha
            subst ha
            have hw0 := Lib.hid hw
            have g34 := hc.not (i := 34) hl 37 (by kernel_rfl)
            have g35 := hc.not (i := 35) hl 37 (by kernel_rfl)
            rw [selW_no g35, selW_no g34] at hw
            obtain rfl : Wd = wr := hw.symm
            have hg34 := Lib.hid g34
            clear g34
            have hg35 := Lib.hid g35
            clear g35
            rw [if_pos (by rfl)]
            go_simp
            refine Shut.out hK _ _ ⟨?_, ?_⟩
            · simp only [fill_eq, List.take_succ_cons, List.take_zero, List.cons_append, List.nil_append, Act.put, List.setIfInBounds_toArray, List.set_cons_zero, List.set_cons_succ, sel_new]
              try rfl
            · exact hw0.out
        · as_aux_lemma =>
            rintro l a wr ⟨ha, hw⟩ hc hl hd K' hK
            have d2 := hd 2 (by decide)
            have hx := X28.out; subst hx
            have hx := X29.out; subst hx
            simp only [fill_eq, List.take_succ_cons, List.take_zero, List.cons_append, List.nil_append, Act.put, List.setIfInBounds_toArray, List.set_cons_zero, List.set_cons_succ, sel_of d2] at ha
            subst ha
            have hw0 := Lib.hid hw
            have g34 := hc.not (i := 34) hl 37 (by kernel_rfl)
            have g35 := hc.not (i := 35) hl 37 (by kernel_rfl)
            rw [selW_no g35, selW_no g34] at hw
            obtain rfl : Wd = wr := hw.symm
            have hg34 := Lib.hid g34
            clear g34
            have hg35 := Lib.hid g35
            clear g35
            rw [if_pos (by rfl)]
            go_simp
            refine Shut.out hK _ _ ⟨?_, ?_⟩
            · simp only [fill_eq, List.take_succ_cons, List.take_zero, List.cons_append, List.nil_append, Act.put, List.setIfInBounds_toArray, List.set_cons_zero, List.set_cons_succ, sel_new, sel_dep d2]
              try rfl
            · exact hw0.out
        · as_aux_lemma =>
            rintro l a wr ⟨ha, hw⟩ hc hl hd K' hK
            have d1 := hd 1 (by decide)
            have d3 := hd 3 (by decide)
            have hx := X27.out; subst hx
            have hx := X29.out; subst hx
            have hx := X30.out; subst hx
            simp only [fill_eq, List.take_succ_cons, List.take_zero, List.cons_append, List.nil_append, Act.put, List.setIfInBounds_toArray, List.set_cons_zero, List.set_cons_succ, sel_of d1, sel_of d3] at ha
            subst ha
            have hw0 := Lib.hid hw
            have g34 := hc.not (i := 34) hl 37 (by kernel_rfl)
            have g35 := hc.not (i := 35) hl 37 (by kernel_rfl)
            rw [selW_no g35, selW_no g34] at hw
            obtain rfl : Wd = wr := hw.symm
            have hg34 := Lib.hid g34
            clear g34
            have hg35 := Lib.hid g35
            clear g35
            rw [if_pos (by rfl)]
            go_simp
            refine Shut.out hK _ _ ⟨?_, ?_⟩
            · simp only [fill_eq, List.take_succ_cons, List.take_zero, List.cons_append, List.nil_append, Act.put, List.setIfInBounds_toArray, List.set_cons_zero, List.set_cons_succ, sel_new, sel_dep d1, sel_dep d3]
              try rfl
            · exact hw0.out
        · as_aux_lemma =>
            rintro l a wr ⟨ha, hw⟩ hc hl hd K' hK
            have d4 := hd 4 (by decide)
            have hx := X30.out; subst hx
            have hx := X31.out; subst hx
            simp only [fill_eq, List.take_succ_cons, List.take_zero, List.cons_append, List.nil_append, Act.put, List.setIfInBounds_toArray, List.set_cons_zero, List.set_cons_succ, sel_of d4] at ha
            subst ha
            have hw0 := Lib.hid hw
            have g34 := hc.not (i := 34) hl 37 (by kernel_rfl)
            have g35 := hc.not (i := 35) hl 37 (by kernel_rfl)
            rw [selW_no g35, selW_no g34] at hw
            obtain rfl : Wd = wr := hw.symm
            have hg34 := Lib.hid g34
            clear g34
            have hg35 := Lib.hid g35
            clear g35
            have p := D0.out
            rw [if_pos (by rfl)]
            go_simp
            refine Shut.out hK _ _ ⟨?_, ?_⟩
            · simp only [fill_eq, List.take_succ_cons, List.take_zero, List.cons_append, List.nil_append, Act.put, List.setIfInBounds_toArray, List.set_cons_zero, List.set_cons_succ, sel_new, sel_dep d4]
              try rfl
            · exact hw0.out
        · as_aux_lemma =>
            rintro l a wr ⟨ha, hw⟩ hc hl hd K' hK
            have d5 := hd 5 (by decide)
            have hx := X31.out; subst hx
            have hx := X32.out; subst hx
            simp only [fill_eq, List.take_succ_cons, List.take_zero, List.cons_append, List.nil_append, Act.put, List.setIfInBounds_toArray, List.set_cons_zero, List.set_cons_succ, sel_of d5] at ha
            subst ha
            have hw0 := Lib.hid hw
            have g34 := hc.not (i := 34) hl 37 (by kernel_rfl)
            have g35 := hc.not (i := 35) hl 37 (by kernel_rfl)
            rw [selW_no g35, selW_no g34] at hw
            obtain rfl : Wd = wr := hw.symm
            have hg34 := Lib.hid g34
            clear g34
            have hg35 := Lib.hid g35
            clear g35
            rw [if_pos (by rfl)]
            go_simp
            refine Shut.out hK _ _ ⟨?_, ?_⟩
            · simp only [fill_eq, List.take_succ_cons, List.take_zero, List.cons_append, List.nil_append, Act.put, List.setIfInBounds_toArray, List.set_cons_zero, List.set_cons_succ, sel_new, sel_dep d5]
              try rfl
            · exact hw0.out
        · as_aux_lemma =>
            rintro l a wr ⟨ha, hw⟩ hc hl hd K' hK
            have d6 := hd 6 (by decide)
            have hx := X32.out; subst hx
            have hx := X33.out; subst hx
            simp only [fill_eq, List.take_succ_cons, List.take_zero, List.cons_append, List.nil_append, Act.put, List.setIfInBounds_toArray, List.set_cons_zero, List.set_cons_succ, sel_of d6] at ha
            subst ha
            have hw0 := Lib.hid hw
            have g34 := hc.not (i := 34) hl 37 (by kernel_rfl)
            have g35 := hc.not (i := 35) hl 37 (by kernel_rfl)
            rw [selW_no g35, selW_no g34] at hw
            obtain rfl : Wd = wr := hw.symm
            have hg34 := Lib.hid g34
            clear g34
            have hg35 := Lib.hid g35
            clear g35
            rw [if_pos (by rfl)]
            go_simp
            refine Shut.out hK _ _ ⟨?_, ?_⟩
            · simp only [fill_eq, List.take_succ_cons, List.take_zero, List.cons_append, List.nil_append, Act.put, List.setIfInBounds_toArray, List.set_cons_zero, List.set_cons_succ, sel_new, sel_dep d6]
              try rfl
            · exact hw0.out
        · as_aux_lemma =>
            rintro l a wr ⟨ha, hw⟩ hc hl hd K' hK
            have hx := X34.out; subst hx
            simp only [fill_eq, List.take_succ_cons, List.take_zero, List.cons_append, List.nil_append, Act.put, List.setIfInBounds_toArray, List.set_cons_zero, List.set_cons_succ] at ha
            subst ha
            have hw0 := Lib.hid hw
            have g34 := hc.not (i := 34) hl 37 (by kernel_rfl)
            have g35 := hc.not (i := 35) hl 37 (by kernel_rfl)
            rw [selW_no g35, selW_no g34] at hw
            obtain rfl : Wd = wr := hw.symm
            have hg34 := Lib.hid g34
            clear g34
            have hg35 := Lib.hid g35
            clear g35
            rw [if_pos (by rfl)]
            go_simp
            refine Shut.out hK _ _ ⟨?_, ?_⟩
            · simp only [fill_eq, List.take_succ_cons, List.take_zero, List.cons_append, List.nil_append, Act.put, List.setIfInBounds_toArray, List.set_cons_zero, List.set_cons_succ, sel_new]
              try rfl
            · exact hw0.out
        · as_aux_lemma =>
            rintro l a wr ⟨ha, hw⟩ hc hl hd K' hK
            have hx := X35.out; subst hx
            simp only [fill_eq, List.take_succ_cons, List.take_zero, List.cons_append, List.nil_append, Act.put, List.setIfInBounds_toArray, List.set_cons_zero, List.set_cons_succ] at ha
            subst ha
            have hw0 := Lib.hid hw
            have g34 := hc.not (i := 34) hl 37 (by kernel_rfl)
            have g35 := hc.not (i := 35) hl 37 (by kernel_rfl)
            rw [selW_no g35, selW_no g34] at hw
            obtain rfl : Wd = wr := hw.symm
            have hg34 := Lib.hid g34
            clear g34
            have hg35 := Lib.hid g35
            clear g35
            rw [if_pos (by rfl)]
            go_simp
            refine Shut.out hK _ _ ⟨?_, ?_⟩
            · simp only [fill_eq, List.take_succ_cons, List.take_zero, List.cons_append, List.nil_append, Act.put, List.setIfInBounds_toArray, List.set_cons_zero, List.set_cons_succ, sel_new]
              try rfl
            · exact hw0.out
        · as_aux_lemma =>
            rintro l a wr ⟨ha, hw⟩ hc hl hd K' hK
            have d9 := hd 9 (by decide)
            have hx := X35.out; subst hx
            have hx := X36.out; subst hx
            simp only [fill_eq, List.take_succ_cons, List.take_zero, List.cons_append, List.nil_append, Act.put, List.setIfInBounds_toArray, List.set_cons_zero, List.set_cons_succ, sel_of d9] at ha
            subst ha
            have hw0 := Lib.hid hw
            have g34 := hc.not (i := 34) hl 37 (by kernel_rfl)
            have g35 := hc.not (i := 35) hl 37 (by kernel_rfl)
            rw [selW_no g35, selW_no g34] at hw
            obtain rfl : Wd = wr := hw.symm
            have hg34 := Lib.hid g34
            clear g34
            have hg35 := Lib.hid g35
            clear g35
            rw [if_pos (by rfl)]
            go_simp
            refine Shut.out hK _ _ ⟨?_, ?_⟩
            · simp only [fill_eq, List.take_succ_cons, List.take_zero, List.cons_append, List.nil_append, Act.put, List.setIfInBounds_toArray, List.set_cons_zero, List.set_cons_succ, sel_new, sel_dep d9]
              try rfl
            · exact hw0.out
        · as_aux_lemma =>
            rintro l a wr ⟨ha, hw⟩ hc hl hd K' hK
            have d10 := hd 10 (by decide)
            have hx := X36.out; subst hx
            have hx := X37.out; subst hx
            simp only [fill_eq, List.take_succ_cons, List.take_zero, List.cons_append, List.nil_append, Act.put, List.setIfInBounds_toArray, List.set_cons_zero, List.set_cons_succ, sel_of d10] at ha
            subst ha
            have hw0 := Lib.hid hw
            have g34 := hc.not (i := 34) hl 37 (by kernel_rfl)
            have g35 := hc.not (i := 35) hl 37 (by kernel_rfl)
            rw [selW_no g35, selW_no g34] at hw
            obtain rfl : Wd = wr := hw.symm
            have hg34 := Lib.hid g34
            clear g34
            have hg35 := Lib.hid g35
            clear g35
            rw [if_pos (by rfl)]
            go_simp
            refine Shut.out hK _ _ ⟨?_, ?_⟩
            · simp only [fill_eq, List.take_succ_cons, List.take_zero, List.cons_append, List.nil_append, Act.put, List.setIfInBounds_toArray, List.set_cons_zero, List.set_cons_succ, sel_new, sel_dep d10]
              try rfl
            · exact hw0.out
        · as_aux_lemma =>
            rintro l a wr ⟨ha, hw⟩ hc hl hd K' hK
            have d8 := hd 8 (by decide)
            have d11 := hd 11 (by decide)
            have hx := X34.out; subst hx
            have hx := X37.out; subst hx
            have hx := X38.out; subst hx
            simp only [fill_eq, List.take_succ_cons, List.take_zero, List.cons_append, List.nil_append, Act.put, List.setIfInBounds_toArray, List.set_cons_zero, List.set_cons_succ, sel_of d8, sel_of d11] at ha
            subst ha
            have hw0 := Lib.hid hw
            have g34 := hc.not (i := 34) hl 37 (by kernel_rfl)
            have g35 := hc.not (i := 35) hl 37 (by kernel_rfl)
            rw [selW_no g35, selW_no g34] at hw
            obtain rfl : Wd = wr := hw.symm
            have hg34 := Lib.hid g34
            clear g34
            have hg35 := Lib.hid g35
            clear g35
            rw [if_pos (by rfl)]
            go_simp
            refine Shut.out hK _ _ ⟨?_, ?_⟩
            · simp only [fill_eq, List.take_succ_cons, List.take_zero, List.cons_append, List.nil_append, Act.put, List.setIfInBounds_toArray, List.set_cons_zero, List.set_cons_succ, sel_new, sel_dep d8, sel_dep d11]
              try rfl
            · exact hw0.out
        · as_aux_lemma =>
            rintro l a wr ⟨ha, hw⟩ hc hl hd K' hK
            have d12 := hd 12 (by decide)
            have hx := X38.out; subst hx
            have hx := X39.out; subst hx
            simp only [fill_eq, List.take_succ_cons, List.take_zero, List.cons_append, List.nil_append, Act.put, List.setIfInBounds_toArray, List.set_cons_zero, List.set_cons_succ, sel_of d12] at ha
            subst ha
            have hw0 := Lib.hid hw
            have g34 := hc.not (i := 34) hl 37 (by kernel_rfl)
            have g35 := hc.not (i := 35) hl 37 (by kernel_rfl)
            rw [selW_no g35, selW_no g34] at hw
            obtain rfl : Wd = wr := hw.symm
            have hg34 := Lib.hid g34
            clear g34
            have hg35 := Lib.hid g35
            clear g35
            have p := D1.out
            rw [if_pos (by rfl)]
            go_simp
            refine Shut.out hK _ _ ⟨?_, ?_⟩
            · simp only [fill_eq, List.take_succ_cons, List.take_zero, List.cons_append, List.nil_append, Act.put, List.setIfInBounds_toArray, List.set_cons_zero, List.set_cons_succ, sel_new, sel_dep d12]
              try rfl
            · exact hw0.out
        · as_aux_lemma =>
            rintro l a wr ⟨ha, hw⟩ hc hl hd K' hK
            have d13 := hd 13 (by decide)
            have hx := X39.out; subst hx
            have hx := X40.out; subst hx
            simp only [fill_eq, List.take_succ_cons, List.take_zero, List.cons_append, List.nil_append, Act.put, List.setIfInBounds_toArray, List.set_cons_zero, List.set_cons_succ, sel_of d13] at ha
            subst ha
            have hw0 := Lib.hid hw
            have g34 := hc.not (i := 34) hl 37 (by kernel_rfl)
            have g35 := hc.not (i := 35) hl 37 (by kernel_rfl)
            rw [selW_no g35, selW_no g34] at hw
            obtain rfl : Wd = wr := hw.symm
            have hg34 := Lib.hid g34
            clear g34
            have hg35 := Lib.hid g35
            clear g35
            rw [if_pos (by rfl)]
            go_simp
            refine Shut.out hK _ _ ⟨?_, ?_⟩
            · simp only [fill_eq, List.take_succ_cons, List.take_zero, List.cons_append, List.nil_append, Act.put, List.setIfInBounds_toArray, List.set_cons_zero, List.set_cons_succ, sel_new, sel_dep d13]
              try rfl
            · exact hw0.out
        · as_aux_lemma =>
            rintro l a wr ⟨ha, hw⟩ hc hl hd K' hK
            have d14 := hd 14 (by decide)
            have hx := X40.out; subst hx
            have hx := X41.out; subst hx
            simp only [fill_eq, List.take_succ_cons, List.take_zero, List.cons_append, List.nil_append, Act.put, List.setIfInBounds_toArray, List.set_cons_zero, List.set_cons_succ, sel_of d14] at ha
            subst ha
            have hw0 := Lib.hid hw
            have g34 := hc.not (i := 34) hl 37 (by kernel_rfl)
            have g35 := hc.not (i := 35) hl 37 (by kernel_rfl)
            rw [selW_no g35, selW_no g34] at hw
            obtain rfl : Wd = wr := hw.symm
            have hg34 := Lib.hid g34
            clear g34
            have hg35 := Lib.hid g35
            clear g35
            rw [if_pos (by rfl)]
            go_simp
            refine Shut.out hK _ _ ⟨?_, ?_⟩
            · simp only [fill_eq, List.take_succ_cons, List.take_zero, List.cons_append, List.nil_append, Act.put, List.setIfInBounds_toArray, List.set_cons_zero, List.set_cons_succ, sel_new, sel_dep d14]
              try rfl
            · exact hw0.out
        · as_aux_lemma =>
            rintro l a wr ⟨ha, hw⟩ hc hl hd K' hK
            have d7 := hd 7 (by decide)
            have d15 := hd 15 (by decide)
            have hx := X33.out; subst hx
            have hx := X41.out; subst hx
            have hx := X42.out; subst hx
            simp only [fill_eq, List.take_succ_cons, List.take_zero, List.cons_append, List.nil_append, Act.put, List.setIfInBounds_toArray, List.set_cons_zero, List.set_cons_succ, sel_of d7, sel_of d15] at ha
            subst ha
            have hw0 := Lib.hid hw
            have g34 := hc.not (i := 34) hl 37 (by kernel_rfl)
            have g35 := hc.not (i := 35) hl 37 (by kernel_rfl)
            rw [selW_no g35, selW_no g34] at hw
            obtain rfl : Wd = wr := hw.symm
            have hg34 := Lib.hid g34
            clear g34
            have hg35 := Lib.hid g35
            clear g35
            rw [if_pos (by rfl)]
            go_simp
            refine Shut.out hK _ _ ⟨?_, ?_⟩
            · simp only [fill_eq, List.take_succ_cons, List.take_zero, List.cons_append, List.nil_append, Act.put, List.setIfInBounds_toArray, List.set_cons_zero, List.set_cons_succ, sel_new, sel_dep d7, sel_dep d15]
              try rfl
            · exact hw0.out
        · as_aux_lemma =>
            rintro l a wr ⟨ha, hw⟩ hc hl hd K' hK
            have hx := X43.out; subst hx
            simp only [fill_eq, List.take_succ_cons, List.take_zero, List.cons_append, List.nil_append, Act.put, List.setIfInBounds_toArray, List.set_cons_zero, List.set_cons_succ] at ha
            subst ha
            have hw0 := Lib.hid hw
            have g34 := hc.not (i := 34) hl 37 (by kernel_rfl)
            have g35 := hc.not (i := 35) hl 37 (by kernel_rfl)
            rw [selW_no g35, selW_no g34] at hw
            obtain rfl : Wd = wr := hw.symm
            have hg34 := Lib.hid g34
            clear g34
            have hg35 := Lib.hid g35
            clear g35
            rw [if_pos (by rfl)]
            go_simp
            refine Shut.out hK _ _ ⟨?_, ?_⟩
            · simp only [fill_eq, List.take_succ_cons, List.take_zero, List.cons_append, List.nil_append, Act.put, List.setIfInBounds_toArray, List.set_cons_zero, List.set_cons_succ, sel_new]
              try rfl
            · exact hw0.out
        · as_aux_lemma =>
            rintro l a wr ⟨ha, hw⟩ hc hl hd K' hK
            have hx := X44.out; subst hx
            simp only [fill_eq, List.take_succ_cons, List.take_zero, List.cons_append, List.nil_append, Act.put, List.setIfInBounds_toArray, List.set_cons_zero, List.set_cons_succ] at ha
            subst ha
            have hw0 := Lib.hid hw
            have g34 := hc.not (i := 34) hl 37 (by kernel_rfl)
            have g35 := hc.not (i := 35) hl 37 (by kernel_rfl)
            rw [selW_no g35, selW_no g34] at hw
            obtain rfl : Wd = wr := hw.symm
            have hg34 := Lib.hid g34
            clear g34
            have hg35 := Lib.hid g35
            clear g35
            rw [if_pos (by rfl)]
            go_simp
            refine Shut.out hK _ _ ⟨?_, ?_⟩
            · simp only [fill_eq, List.take_succ_cons, List.take_zero, List.cons_append, List.nil_append, Act.put, List.setIfInBounds_toArray, List.set_cons_zero, List.set_cons_succ, sel_new]
              try rfl
            · exact hw0.out
        · as_aux_lemma =>
            rintro l a wr ⟨ha, hw⟩ hc hl hd K' hK
            have d18 := hd 18 (by decide)
            have hx := X44.out; subst hx
            have hx := X45.out; subst hx
            simp only [fill_eq, List.take_succ_cons, List.take_zero, List.cons_append, List.nil_append, Act.put, List.setIfInBounds_toArray, List.set_cons_zero, List.set_cons_succ, sel_of d18] at ha
            subst ha
            have hw0 := Lib.hid hw
            have g34 := hc.not (i := 34) hl 37 (by kernel_rfl)
            have g35 := hc.not (i := 35) hl 37 (by kernel_rfl)
            rw [selW_no g35, selW_no g34] at hw
            obtain rfl : Wd = wr := hw.symm
            have hg34 := Lib.hid g34
            clear g34
            have hg35 := Lib.hid g35
            clear g35
            rw [if_pos (by rfl)]
            go_simp
            refine Shut.out hK _ _ ⟨?_, ?_⟩
            · simp only [fill_eq, List.take_succ_cons, List.take_zero, List.cons_append, List.nil_append, Act.put, List.setIfInBounds_toArray, List.set_cons_zero, List.set_cons_succ, sel_new, sel_dep d18]
              try rfl
            · exact hw0.out
        · as_aux_lemma =>
            rintro l a wr ⟨ha, hw⟩ hc hl hd K' hK
            have d19 := hd 19 (by decide)
            have hx := X45.out; subst hx
            have hx := X46.out; subst hx
            simp only [fill_eq, List.take_succ_cons, List.take_zero, List.cons_append, List.nil_append, Act.put, List.setIfInBounds_toArray, List.set_cons_zero, List.set_cons_succ, sel_of d19] at ha
            subst ha
            have hw0 := Lib.hid hw
            have g34 := hc.not (i := 34) hl 37 (by kernel_rfl)
            have g35 := hc.not (i := 35) hl 37 (by kernel_rfl)
            rw [selW_no g35, selW_no g34] at hw
            obtain rfl : Wd = wr := hw.symm
            have hg34 := Lib.hid g34
            clear g34
            have hg35 := Lib.hid g35
            clear g35
            rw [if_pos (by rfl)]
            go_simp
            refine Shut.out hK _ _ ⟨?_, ?_⟩
            · simp only [fill_eq, List.take_succ_cons, List.take_zero, List.cons_append, List.nil_append, Act.put, List.setIfInBounds_toArray, List.set_cons_zero, List.set_cons_succ, sel_new, sel_dep d19]
              try rfl
            · exact hw0.out
        · as_aux_lemma =>
            rintro l a wr ⟨ha, hw⟩ hc hl hd K' hK
            have d17 := hd 17 (by decide)
            have d20 := hd 20 (by decide)
            have hx := X43.out; subst hx
            have hx := X46.out; subst hx
            have hx := X47.out; subst hx
            simp only [fill_eq, List.take_succ_cons, List.take_zero, List.cons_append, List.nil_append, Act.put, List.setIfInBounds_toArray, List.set_cons_zero, List.set_cons_succ, sel_of d17, sel_of d20] at ha
            subst ha
            have hw0 := Lib.hid hw
            have g34 := hc.not (i := 34) hl 37 (by kernel_rfl)
            have g35 := hc.not (i := 35) hl 37 (by kernel_rfl)
            rw [selW_no g35, selW_no g34] at hw
            obtain rfl : Wd = wr := hw.symm
            have hg34 := Lib.hid g34
            clear g34
            have hg35 := Lib.hid g35
            clear g35
            rw [if_pos (by rfl)]
            go_simp
            refine Shut.out hK _ _ ⟨?_, ?_⟩
            · simp only [fill_eq, List.take_succ_cons, List.take_zero, List.cons_append, List.nil_append, Act.put, List.setIfInBounds_toArray, List.set_cons_zero, List.set_cons_succ, sel_new, sel_dep d17, sel_dep d20]
              try rfl
            · exact hw0.out
        · as_aux_lemma =>
            rintro l a wr ⟨ha, hw⟩ hc hl hd K' hK
            have d21 := hd 21 (by decide)
            have hx := X47.out; subst hx
            have hx := X48.out; subst hx
            simp only [fill_eq, List.take_succ_cons, List.take_zero, List.cons_append, List.nil_append, Act.put, List.setIfInBounds_toArray, List.set_cons_zero, List.set_cons_succ, sel_of d21] at ha
            subst ha
            have hw0 := Lib.hid hw
            have g34 := hc.not (i := 34) hl 37 (by kernel_rfl)
            have g35 := hc.not (i := 35) hl 37 (by kernel_rfl)
            rw [selW_no g35, selW_no g34] at hw
            obtain rfl : Wd = wr := hw.symm
            have hg34 := Lib.hid g34
            clear g34
            have hg35 := Lib.hid g35
            clear g35
            have p := D2.out
            rw [if_pos (by rfl)]
            go_simp
            refine Shut.out hK _ _ ⟨?_, ?_⟩
            · simp only [fill_eq, List.take_succ_cons, List.take_zero, List.cons_append, List.nil_append, Act.put, List.setIfInBounds_toArray, List.set_cons_zero, List.set_cons_succ, sel_new, sel_dep d21]
              try rfl
            · exact hw0.out
        · as_aux_lemma =>
            rintro l a wr ⟨ha, hw⟩ hc hl hd K' hK
            have d22 := hd 22 (by decide)
            have hx := X48.out; subst hx
            have hx := X49.out; subst hx
            simp only [fill_eq, List.take_succ_cons, List.take_zero, List.cons_append, List.nil_append, Act.put, List.setIfInBounds_toArray, List.set_cons_zero, List.set_cons_succ, sel_of d22] at ha
            subst ha
            have hw0 := Lib.hid hw
            have g34 := hc.not (i := 34) hl 37 (by kernel_rfl)
            have g35 := hc.not (i := 35) hl 37 (by kernel_rfl)
            rw [selW_no g35, selW_no g34] at hw
            obtain rfl : Wd = wr := hw.symm
            have hg34 := Lib.hid g34
            clear g34
            have hg35 := Lib.hid g35
            clear g35
            rw [if_pos (by rfl)]
            go_simp
            refine Shut.out hK _ _ ⟨?_, ?_⟩
            · simp only [fill_eq, List.take_succ_cons, List.take_zero, List.cons_append, List.nil_append, Act.put, List.setIfInBounds_toArray, List.set_cons_zero, List.set_cons_succ, sel_new, sel_dep d22]
              try rfl
            · exact hw0.out
        · as_aux_lemma =>
            rintro l a wr ⟨ha, hw⟩ hc hl hd K' hK
            have d23 := hd 23 (by decide)
            have hx := X49.out; subst hx
            have hx := X50.out; subst hx
            simp only [fill_eq, List.take_succ_cons, List.take_zero, List.cons_append, List.nil_append, Act.put, List.setIfInBounds_toArray, List.set_cons_zero, List.set_cons_succ, sel_of d23] at ha
            subst ha
            have hw0 := Lib.hid hw
            have g34 := hc.not (i := 34) hl 37 (by kernel_rfl)
            have g35 := hc.not (i := 35) hl 37 (by kernel_rfl)
            rw [selW_no g35, selW_no g34] at hw
            obtain rfl : Wd = wr := hw.symm
            have hg34 := Lib.hid g34
            clear g34
            have hg35 := Lib.hid g35
            clear g35
            rw [if_pos (by rfl)]
            go_simp
            refine Shut.out hK _ _ ⟨?_, ?_⟩
            · simp only [fill_eq, List.take_succ_cons, List.take_zero, List.cons_append, List.nil_append, Act.put, List.setIfInBounds_toArray, List.set_cons_zero, List.set_cons_succ, sel_new, sel_dep d23]
              try rfl
            · exact hw0.out
        · as_aux_lemma =>
            rintro l a wr ⟨ha, hw⟩ hc hl hd K' hK
            have d16 := hd 16 (by decide)
            have d24 := hd 24 (by decide)
            have hx := X42.out; subst hx
            have hx := X50.out; subst hx
            have hx := X51.out; subst hx
            simp only [fill_eq, List.take_succ_cons, List.take_zero, List.cons_append, List.nil_append, Act.put, List.setIfInBounds_toArray, List.set_cons_zero, List.set_cons_succ, sel_of d16, sel_of d24] at ha
            subst ha
            have hw0 := Lib.hid hw
            have g34 := hc.not (i := 34) hl 37 (by kernel_rfl)
            have g35 := hc.not (i := 35) hl 37 (by kernel_rfl)
            rw [selW_no g35, selW_no g34] at hw
            obtain rfl : Wd = wr := hw.symm
            have hg34 := Lib.hid g34
            clear g34
            have hg35 := Lib.hid g35
            clear g35
            rw [if_pos (by rfl)]
            go_simp
            refine Shut.out hK _ _ ⟨?_, ?_⟩
            · simp only [fill_eq, List.take_succ_cons, List.take_zero, List.cons_append, List.nil_append, Act.put, List.setIfInBounds_toArray, List.set_cons_zero, List.set_cons_succ, sel_new, sel_dep d16, sel_dep d24]
              try rfl
            · exact hw0.out
        · as_aux_lemma =>
            rintro l a wr ⟨ha, hw⟩ hc hl hd K' hK
            have hx := X52.out; subst hx
            simp only [fill_eq, List.take_succ_cons, List.take_zero, List.cons_append, List.nil_append, Act.put, List.setIfInBounds_toArray, List.set_cons_zero, List.set_cons_succ] at ha
            subst ha
            have hw0 := Lib.hid hw
            have g34 := hc.not (i := 34) hl 37 (by kernel_rfl)
            have g35 := hc.not (i := 35) hl 37 (by kernel_rfl)
            rw [selW_no g35, selW_no g34] at hw
            obtain rfl : Wd = wr := hw.symm
            have hg34 := Lib.hid g34
            clear g34
            have hg35 := Lib.hid g35
            clear g35
            rw [if_pos (by rfl)]
            go_simp
            refine Shut.out hK _ _ ⟨?_, ?_⟩
            · simp only [fill_eq, List.take_succ_cons, List.take_zero, List.cons_append, List.nil_append, Act.put, List.setIfInBounds_toArray, List.set_cons_zero, List.set_cons_succ, sel_new]
              try rfl
            · exact hw0.out
        · as_aux_lemma =>
            rintro l a wr ⟨ha, hw⟩ hc hl hd K' hK
            have hx := X53.out; subst hx
            simp only [fill_eq, List.take_succ_cons, List.take_zero, List.cons_append, List.nil_append, Act.put, List.setIfInBounds_toArray, List.set_cons_zero, List.set_cons_succ] at ha
            subst ha
            have hw0 := Lib.hid hw
            have g34 := hc.not (i := 34) hl 37 (by kernel_rfl)
            have g35 := hc.not (i := 35) hl 37 (by kernel_rfl)
            rw [selW_no g35, selW_no g34] at hw
            obtain rfl : Wd = wr := hw.symm
            have hg34 := Lib.hid g34
            clear g34
            have hg35 := Lib.hid g35
            clear g35
            rw [if_pos (by rfl)]
            go_simp
            refine Shut.out hK _ _ ⟨?_, ?_⟩
            · simp only [fill_eq, List.take_succ_cons, List.take_zero, List.cons_append, List.nil_append, Act.put, List.setIfInBounds_toArray, List.set_cons_zero, List.set_cons_succ, sel_new]
              try rfl
            · exact hw0.out
        · as_aux_lemma =>
            rintro l a wr ⟨ha, hw⟩ hc hl hd K' hK
            have d27 := hd 27 (by decide)
            have hx := X53.out; subst hx
            have hx := X54.out; subst hx
            simp only [fill_eq, List.take_succ_cons, List.take_zero, List.cons_append, List.nil_append, Act.put, List.setIfInBounds_toArray, List.set_cons_zero, List.set_cons_succ, sel_of d27] at ha
            subst ha
            have hw0 := Lib.hid hw
            have g34 := hc.not (i := 34) hl 37 (by kernel_rfl)
            have g35 := hc.not (i := 35) hl 37 (by kernel_rfl)
            rw [selW_no g35, selW_no g34] at hw
            obtain rfl : Wd = wr := hw.symm
            have hg34 := Lib.hid g34
            clear g34
            have hg35 := Lib.hid g35
            clear g35
            rw [if_pos (by rfl)]
            go_simp
            refine Shut.out hK _ _ ⟨?_, ?_⟩
            · simp only [fill_eq, List.take_succ_cons, List.take_zero, List.cons_append, List.nil_append, Act.put, List.setIfInBounds_toArray, List.set_cons_zero, List.set_cons_succ, sel_new, sel_dep d27]
              try rfl
            · exact hw0.out
        · as_aux_lemma =>
            rintro l a wr ⟨ha, hw⟩ hc hl hd K' hK
            have d28 := hd 28 (by decide)
            have hx := X54.out; subst hx
            have hx := X55.out; subst hx
            simp only [fill_eq, List.take_succ_cons, List.take_zero, List.cons_append, List.nil_append, Act.put, List.setIfInBounds_toArray, List.set_cons_zero, List.set_cons_succ, sel_of d28] at ha
            subst ha
            have hw0 := Lib.hid hw
            have g34 := hc.not (i := 34) hl 37 (by kernel_rfl)
            have g35 := hc.not (i := 35) hl 37 (by kernel_rfl)
            rw [selW_no g35, selW_no g34] at hw
            obtain rfl : Wd = wr := hw.symm
            have hg34 := Lib.hid g34
            clear g34
            have hg35 := Lib.hid g35
            clear g35
            rw [if_pos (by rfl)]
            go_simp
            refine Shut.out hK _ _ ⟨?_, ?_⟩
            · simp only [fill_eq, List.take_succ_cons, List.take_zero, List.cons_append, List.nil_append, Act.put, List.setIfInBounds_toArray, List.set_cons_zero, List.set_cons_succ, sel_new, sel_dep d28]
              try rfl
            · exact hw0.out
        · as_aux_lemma =>
            rintro l a wr ⟨ha, hw⟩ hc hl hd K' hK
            have d26 := hd 26 (by decide)
            have d29 := hd 29 (by decide)
            have hx := X52.out; subst hx
            have hx := X55.out; subst hx
            have hx := X56.out; subst hx
            simp only [fill_eq, List.take_succ_cons, List.take_zero, List.cons_append, List.nil_append, Act.put, List.setIfInBounds_toArray, List.set_cons_zero, List.set_cons_succ, sel_of d26, sel_of d29] at ha
            subst ha
            have hw0 := Lib.hid hw
            have g34 := hc.not (i := 34) hl 37 (by kernel_rfl)
            have g35 := hc.not (i := 35) hl 37 (by kernel_rfl)
            rw [selW_no g35, selW_no g34] at hw
            obtain rfl : Wd = wr := hw.symm
            have hg34 := Lib.hid g34
            clear g34
            have hg35 := Lib.hid g35
            clear g35
            rw [if_pos (by rfl)]
            go_simp
            refine Shut.out hK _ _ ⟨?_, ?_⟩
            · simp only [fill_eq, List.take_succ_cons, List.take_zero, List.cons_append, List.nil_append, Act.put, List.setIfInBounds_toArray, List.set_cons_zero, List.set_cons_succ, sel_new, sel_dep d26, sel_dep d29]
              try rfl
            · exact hw0.out
        · as_aux_lemma =>
            rintro l a wr ⟨ha, hw⟩ hc hl hd K' hK
            have d30 := hd 30 (by decide)
            have hx := X56.out; subst hx
            have hx := X57.out; subst hx
            simp only [fill_eq, List.take_succ_cons, List.take_zero, List.cons_append, List.nil_append, Act.put, List.setIfInBounds_toArray, List.set_cons_zero, List.set_cons_succ, sel_of d30] at ha
            subst ha
            have hw0 := Lib.hid hw
            have g34 := hc.not (i := 34) hl 37 (by kernel_rfl)
            have g35 := hc.not (i := 35) hl 37 (by kernel_rfl)
            rw [selW_no g35, selW_no g34] at hw
            obtain rfl : Wd = wr := hw.symm
            have hg34 := Lib.hid g34
            clear g34
            have hg35 := Lib.hid g35
            clear g35
            have p := D3.out
            rw [if_pos (by rfl)]
            go_simp
            refine Shut.out hK _ _ ⟨?_, ?_⟩
            · simp only [fill_eq, List.take_succ_cons, List.take_zero, List.cons_append, List.nil_append, Act.put, List.setIfInBounds_toArray, List.set_cons_zero, List.set_cons_succ, sel_new, sel_dep d30]
              try rfl
            · exact hw0.out
        · as_aux_lemma =>
            rintro l a wr ⟨ha, hw⟩ hc hl hd K' hK
            have d31 := hd 31 (by decide)
            have hx := X57.out; subst hx
            have hx := X58.out; subst hx
            simp only [fill_eq, List.take_succ_cons, List.take_zero, List.cons_append, List.nil_append, Act.put, List.setIfInBounds_toArray, List.set_cons_zero, List.set_cons_succ, sel_of d31] at ha
            subst ha
            have hw0 := Lib.hid hw
            have g34 := hc.not (i := 34) hl 37 (by kernel_rfl)
            have g35 := hc.not (i := 35) hl 37 (by kernel_rfl)
            rw [selW_no g35, selW_no g34] at hw
            obtain rfl : Wd = wr := hw.symm
            have hg34 := Lib.hid g34
            clear g34
            have hg35 := Lib.hid g35
            clear g35
            rw [if_pos (by rfl)]
            go_simp
            refine Shut.out hK _ _ ⟨?_, ?_⟩
            · simp only [fill_eq, List.take_succ_cons, List.take_zero, List.cons_append, List.nil_append, Act.put, List.setIfInBounds_toArray, List.set_cons_zero, List.set_cons_succ, sel_new, sel_dep d31]
              try rfl
            · exact hw0.out
        · as_aux_lemma =>
            rintro l a wr ⟨ha, hw⟩ hc hl hd K' hK
            have d25 := hd 25 (by decide)
            have d32 := hd 32 (by decide)
            have hx := X51.out; subst hx
            have hx := X58.out; subst hx
            have hx := X59.out; subst hx
            simp only [fill_eq, List.take_succ_cons, List.take_zero, List.cons_append, List.nil_append, Act.put, List.setIfInBounds_toArray, List.set_cons_zero, List.set_cons_succ, sel_of d25, sel_of d32] at ha
            subst ha
            have hw0 := Lib.hid hw
            have g34 := hc.not (i := 34) hl 37 (by kernel_rfl)
            have g35 := hc.not (i := 35) hl 37 (by kernel_rfl)
            rw [selW_no g35, selW_no g34] at hw
            obtain rfl : Wd = wr := hw.symm
            have hg34 := Lib.hid g34
            clear g34
            have hg35 := Lib.hid g35
            clear g35
            rw [if_pos (by rfl)]
            go_simp
            refine Shut.out hK _ _ ⟨?_, ?_⟩
            · simp only [fill_eq, List.take_succ_cons, List.take_zero, List.cons_append, List.nil_append, Act.put, List.setIfInBounds_toArray, List.set_cons_zero, List.set_cons_succ, sel_new, sel_dep d25, sel_dep d32]
              try rfl
            · exact hw0.out
        · as_aux_lemma =>
            rintro l a wr ⟨ha, hw⟩ hc hl hd K' hK
            have d33 := hd 33 (by decide)
            have hx := X59.out; subst hx
            have hx := X60.out; subst hx
            simp only [fill_eq, List.take_succ_cons, List.take_zero, List.cons_append, List.nil_append, Act.put, List.setIfInBounds_toArray, List.set_cons_zero, List.set_cons_succ, sel_of d33] at ha
            subst ha
            have hw0 := Lib.hid hw
            have g34 := hl
            have g35 := hc.not (i := 35) hl 37 (by kernel_rfl)
            rw [selW_no g35, selW_no g34] at hw
            obtain rfl : Wd = wr := hw.symm
            have hg35 := Lib.hid g35
            clear g35
            have hg34 := Lib.hid hl
            rw [if_pos (by rfl)]
            go_simp
            refine Shut.out hK _ _ ⟨?_, ?_⟩
            · simp only [fill_eq, List.take_succ_cons, List.take_zero, List.cons_append, List.nil_append, Act.put, List.setIfInBounds_toArray, List.set_cons_zero, List.set_cons_succ, sel_new, sel_dep d33]
              try rfl
            · rw [selW_no (show upd l 34 35 = false from hg35.out), selW_of (upd_same l 34)]
              try exact HW4.out.symm
        · as_aux_lemma =>
            rintro l a wr ⟨ha, hw⟩ hc hl hd K' hK
            have d0 := hd 0 (by decide)
            have d34 := hd 34 (by decide)
            have hx := X26.out; subst hx
            have hx := X60.out; subst hx
            have hx := X61.out; subst hx
            simp only [fill_eq, List.take_succ_cons, List.take_zero, List.cons_append, List.nil_append, Act.put, List.setIfInBounds_toArray, List.set_cons_zero, List.set_cons_succ, sel_of d0, sel_of d34] at ha
            subst ha
            have hw0 := Lib.hid hw
            have g34 : l 34 = true := d34
            have g35 := hl
            rw [selW_no g35, selW_of g34] at hw
            obtain rfl : W4 = wr := hw.symm
            have hg34 := Lib.hid g34
            clear g34
            have hg35 := Lib.hid hl
            rw [if_pos (by rfl)]
            refine append_oper rfl rfl rfl HR5.out ?_
            refine Shut.out hK _ _ ⟨?_, ?_⟩
            · simp only [fill_eq, List.take_succ_cons, List.take_zero, List.cons_append, List.nil_append, Act.put, List.setIfInBounds_toArray, List.set_cons_zero, List.set_cons_succ, sel_new, sel_dep d0, sel_dep d34]
              try rfl
            · rw [selW_of (upd_same l 35)]
              try exact rfl
        · as_aux_lemma =>
            rintro l a wr ⟨ha, hw⟩ hc hl hd K' hK
            have d35 := hd 35 (by decide)
            have hx := X61.out; subst hx
            have hx := X7.out; subst hx
            simp only [fill_eq, List.take_succ_cons, List.take_zero, List.cons_append, List.nil_append, Act.put, List.setIfInBounds_toArray, List.set_cons_zero, List.set_cons_succ, sel_of d35] at ha
            subst ha
            have hw0 := Lib.hid hw
            have g34 : l 34 = true := hc.up 37 35 34 d35 (by kernel_rfl)
            have g35 : l 35 = true := d35
            rw [selW_of g35] at hw
            obtain rfl : w5 = wr := hw.symm
            have hg34 := Lib.hid g34
            clear g34
            have hg35 := Lib.hid g35
            clear g35
            rw [if_pos (by rfl)]
            go_simp
            refine Shut.out hK _ _ ⟨?_, ?_⟩
            · simp only [fill_eq, List.take_succ_cons, List.take_zero, List.cons_append, List.nil_append, Act.put, List.setIfInBounds_toArray, List.set_cons_zero, List.set_cons_succ, sel_new, sel_dep d35]
              try rfl
            · exact hw0.out
        · rintro l a wc ⟨ha, hw⟩ hd
          simp only [fill_eq, List.take_succ_cons, List.take_zero, List.cons_append, List.nil_append, Act.put, List.setIfInBounds_toArray, List.set_cons_zero, List.set_cons_succ, sel_of (hd 0 (by decide)), sel_of (hd 1 (by decide)), sel_of (hd 2 (by decide)), sel_of (hd 3 (by decide)), sel_of (hd 4 (by decide)), sel_of (hd 5 (by decide)), sel_of (hd 6 (by decide)), sel_of (hd 7 (by decide)), sel_of (hd 8 (by decide)), sel_of (hd 9 (by decide)), sel_of (hd 10 (by decide)), sel_of (hd 11 (by decide)), sel_of (hd 12 (by decide)), sel_of (hd 13 (by decide)), sel_of (hd 14 (by decide)), sel_of (hd 15 (by decide)), sel_of (hd 16 (by decide)), sel_of (hd 17 (by decide)), sel_of (hd 18 (by decide)), sel_of (hd 19 (by decide)), sel_of (hd 20 (by decide)), sel_of (hd 21 (by decide)), sel_of (hd 22 (by decide)), sel_of (hd 23 (by decide)), sel_of (hd 24 (by decide)), sel_of (hd 25 (by decide)), sel_of (hd 26 (by decide)), sel_of (hd 27 (by decide)), sel_of (hd 28 (by decide)), sel_of (hd 29 (by decide)), sel_of (hd 30 (by decide)), sel_of (hd 31 (by decide)), sel_of (hd 32 (by decide)), sel_of (hd 33 (by decide)), sel_of (hd 34 (by decide)), sel_of (hd 35 (by decide)), sel_of (hd 36 (by decide))] at ha
          subst ha
          rw [selW_of (hd 35 (by decide))] at hw
          subst hw
          have hx := X7.out
          subst hx
          clear a0 a1 a2 a3 c0 c1 c2 c3 c4 c5 m0 m1 m2 m3 D0 D1 D2 D3 HR5 HW4 HWd qb0 qb1 qb2 qb3 qb4 qb5 qb6
          go_wp2_with fail
          go_roundw
          case rel => exact ⟨t + 1, by omega, rfl, HRw.out, HO5.out⟩
          case measure => simp [intOf] <;> omega
      · have i2 : decide ((t : Int) < 16) = false := by simp; omega
        obtain ⟨gw, cw, hv7, hcw, _, _, hxw⟩ := hr.form (by rw [wL_length]; omega)
        rw [wL_length] at hv7 hcw
        subst hv7
        have hWs := wL_ws HB.out t
        have hget : ∀ j, j < t → wr.cell? ⟨gw, j, none⟩ = some (u32v ((wL b t).getD j 0)) := fun j hj => by
          have hj' : j < (wL b t).length := by rw [wL_length]; exact hj
          rw [hxw j _ (List.getElem?_eq_getElem hj'), List.getD_eq_getElem?_getD, List.getElem?_eq_getElem hj']; rfl
        have d0 := hget (t - 2) (by omega)
        have d1 := hget (t - 15) (by omega)
        have d2 := hget (t - 7) (by omega)
        have d3 := hget (t - 16) (by omega)
        have lx := hWs.get (t - 2)
        have ly := hWs.get (t - 15)
        have lp := hWs.get (t - 7)
        have lq := hWs.get (t - 16)
        have hyw : (if t < 16 then wordAt b t else nextW (wL b t) t) = (sig1 ((wL b t).getD (t - 2) 0) + (wL b t).getD (t - 7) 0 + sig0 ((wL b t).getD (t - 15) 0) + (wL b t).getD (t - 16) 0) % 4294967296 := by rw [if_neg h16]; rfl
        obtain ⟨x, hx⟩ : ∃ x, x = (wL b t).getD (t - 2) 0 := ⟨_, rfl⟩
        obtain ⟨y, hy⟩ : ∃ x, x = (wL b t).getD (t - 15) 0 := ⟨_, rfl⟩
        obtain ⟨p7, hp7⟩ : ∃ x, x = (wL b t).getD (t - 7) 0 := ⟨_, rfl⟩
        obtain ⟨p6, hp6⟩ : ∃ x, x = (wL b t).getD (t - 16) 0 := ⟨_, rfl⟩
        rw [← hx] at d0 lx
        rw [← hy] at d1 ly
        rw [← hp7] at d2 lp
        rw [← hp6] at d3 lq
        rw [← hx, ← hy, ← hp7, ← hp6] at hyw
        have m0 : IntKind.i64.wrap ((t : Int) - 2) = ((t - 2 : Nat) : Int) := by rw [IntKind.wrap_i64]; omega
        have m1 : IntKind.i64.wrap ((t : Int) - 15) = ((t - 15 : Nat) : Int) := by rw [IntKind.wrap_i64]; omega
        have m2 : IntKind.i64.wrap ((t : Int) - 7) = ((t - 7 : Nat) : Int) := by rw [IntKind.wrap_i64]; omega
        have m3 : IntKind.i64.wrap ((t : Int) - 16) = ((t - 16 : Nat) : Int) := by rw [IntKind.wrap_i64]; omega
        obtain ⟨q0, hq0⟩ : ∃ q, q = t - 2 := ⟨_, rfl⟩
        obtain ⟨q1, hq1⟩ : ∃ q, q = t - 15 := ⟨_, rfl⟩
        obtain ⟨q2, hq2⟩ : ∃ q, q = t - 7 := ⟨_, rfl⟩
        obtain ⟨q3, hq3⟩ : ∃ q, q = t - 16 := ⟨_, rfl⟩
        rw [← hq0] at d0 m0
        rw [← hq1] at d1 m1
        rw [← hq2] at d2 m2
        rw [← hq3] at d3 m3
        have b0 : (q0 : Int) < (t : Int) := by omega
        have b1 : (q1 : Int) < (t : Int) := by omega
        have b2 : (q2 : Int) < (t : Int) := by omega
        have b3 : (q3 : Int) < (t : Int) := by omega
        have b0' : q0 < t := by omega
        have b1' : q1 < t := by omega
        have b2' : q2 < t := by omega
        have b3' : q3 < t := by omega
        have R17 := Lib.hid (fun W => rotr_any x 17 lx (by decide) W)
        have R19 := Lib.hid (fun W => rotr_any x 19 lx (by decide) W)
        have R10 := Lib.hid (fun W => shr_any x 10 lx (by decide) W)
        have R7 := Lib.hid (fun W => rotr_any y 7 ly (by decide) W)
        have R18 := Lib.hid (fun W => rotr_any y 18 ly (by decide) W)
        have R3 := Lib.hid (fun W => shr_any y 3 ly (by decide) W)
        have k17 := ror_lt (x := x) (n := 17) lx (by decide)
        have k19 := ror_lt (x := x) (n := 19) lx (by decide)
        have k10 := ws_lt32 lx 10
        have k7 := ror_lt (x := y) (n := 7) ly (by decide)
        have k18 := ror_lt (x := y) (n := 18) ly (by decide)
        have k3 := ws_lt32 ly 3
        have hs1 : sig1 x = ror x 17 ^^^ ror x 19 ^^^ shrN x 10 := rfl
        have hs0 : sig0 y = ror y 7 ^^^ ror y 18 ^^^ shrN y 3 := rfl
        have ls1 := sig1_lt lx
        have ls0 := sig0_lt ly
        have f1 := xor_u32 k17 k19
        have f2 := xor_u32 (xor32 k17 k19) k10
        have f3 := xor_u32 k7 k18
        have f4 := xor_u32 (xor32 k7 k18) k3
        rw [← hs1] at f2
        rw [← hs0] at f4
        obtain ⟨r17, h17⟩ : ∃ r, r = ror x 17 := ⟨_, rfl⟩
        obtain ⟨r19, h19⟩ : ∃ r, r = ror x 19 := ⟨_, rfl⟩
        obtain ⟨r10, h10⟩ : ∃ r, r = shrN x 10 := ⟨_, rfl⟩
        obtain ⟨r7, h7⟩ : ∃ r, r = ror y 7 := ⟨_, rfl⟩
        obtain ⟨r18, h18⟩ : ∃ r, r = ror y 18 := ⟨_, rfl⟩
        obtain ⟨r3, h3⟩ : ∃ r, r = shrN y 3 := ⟨_, rfl⟩
        rw [← h17, ← h19] at f1 f2
        rw [← h7, ← h18] at f3 f4
        rw [← h10] at f2
        rw [← h3] at f4
        rw [← h17] at R17
        rw [← h19] at R19
        rw [← h10] at R10
        rw [← h7] at R7
        rw [← h18] at R18
        rw [← h3] at R3
        obtain ⟨u, hu⟩ : ∃ u, u = r17 ^^^ r19 := ⟨_, rfl⟩
        obtain ⟨u', hu'⟩ : ∃ u, u = r7 ^^^ r18 := ⟨_, rfl⟩
        rw [← hu] at f1 f2
        rw [← hu'] at f3 f4
        obtain ⟨s1, hs1'⟩ : ∃ u, u = sig1 x := ⟨_, rfl⟩
        obtain ⟨s0, hs0'⟩ : ∃ u, u = sig0 y := ⟨_, rfl⟩
        rw [← hs1'] at f2 hyw ls1
        rw [← hs0'] at f4 hyw ls0
        have g1 : IntKind.u32.wrap ((s1 : Int) + (p7 : Int)) = (((s1 + p7) % 4294967296 : Nat) : Int) := by rw [IntKind.wrap_u32]; omega
        have g2 : IntKind.u32.wrap ((((s1 + p7) % 4294967296 : Nat) : Int) + (s0 : Int)) = (((s1 + p7 + s0) % 4294967296 : Nat) : Int) := by rw [IntKind.wrap_u32]; omega
        have g3 : IntKind.u32.wrap ((((s1 + p7 + s0) % 4294967296 : Nat) : Int) + (p6 : Int)) = (((s1 + p7 + s0 + p6) % 4294967296 : Nat) : Int) := by rw [IntKind.wrap_u32]; omega
        obtain ⟨z1, hz1⟩ : ∃ z, z = (s1 + p7) % 4294967296 := ⟨_, rfl⟩
        obtain ⟨z2, hz2⟩ : ∃ z, z = (s1 + p7 + s0) % 4294967296 := ⟨_, rfl⟩
        obtain ⟨yy, hyy⟩ : ∃ z, z = (s1 + p7 + s0 + p6) % 4294967296 := ⟨_, rfl⟩
        rw [← hz1] at g1 g2
        rw [← hz2] at g2 g3
        rw [← hyy] at g3 hyw
        have i3 : IntKind.i64.wrap ((t : Int) + 1) = ((t + 1 : Nat) : Int) := by rw [IntKind.wrap_i64]; omega
        have D2 := Lib.hid d2
        have D3 := Lib.hid d3
        have HR := Lib.hid hr
        have HOr := Lib.hid hO
        have HYW := Lib.hid hyw
        clear hget hxw hWs hx hy hp7 hp6 lx ly lp lq hq0 hq1 hq2 hq3 k17 k19 k10 k7 k18 k3 hs1 hs0 ls1 ls0 h17 h19 h10 h7 h18 h3 hu hu' hs1' hs0' hz1 hz2 hyy hr hO hyw d2 d3 hcw
        obtain ⟨Wd, hWd⟩ : ∃ Wd, Wd = wr.drew := ⟨_, rfl⟩
        have hOd : Off (fun _ => False) w Wd := hWd ▸ HOr.out.drew
        have hrd : RowW w.heap.size Wd (.slice (some ⟨gw, 0, none⟩) t cw) (wL b t) := by rw [hWd]; exact RowT.off HR.out (Off.refl (fun _ => False) wr).drew (fun _ _ c => c)
        obtain ⟨W4, hW4⟩ : ∃ W4, W4 = Wd.alloc (.cells #[u32v yy] 42) := ⟨_, rfl⟩
        have hO4 : Off (fun _ => False) Wd W4 := by rw [hW4]; exact (Off.refl _ Wd).alloc _
        obtain ⟨v5, w5, hr5, r5, o5⟩ := app_word (hOd.trans hO4 (fun _ _ c => c)) (hrd.off hO4 (fun _ _ c => c)) (by rw [wL_length]; omega) ⟨Wd.heap.size, 0, none⟩ yy (by rw [hW4]; rw [cell_of_heap (heap_new' rfl _)]; rfl)
        have HR5 := Lib.hid hr5
        have HRw := Lib.hid (show RowW w.heap.size w5 v5 (wL b (t + 1)) by show RowW _ _ _ (wL b t ++ _); rw [HYW.out]; exact r5)
        have HO5 := Lib.hid o5
        have HW4 := Lib.hid hW4
        have D2 := Lib.hid (show Wd.cell? ⟨gw, q2, none⟩ = some (u32v p7) by rw [hWd]; exact D2.out)
        have D3 := Lib.hid (show Wd.cell? ⟨gw, q3, none⟩ = some (u32v p6) by rw [hWd]; exact D3.out)
        have HWd := Lib.hid hWd
        clear hWd hOd hrd hW4 hO4 hr5 r5 o5 HR HOr HYW
        go_upto_region 11 with first | (go_at_call_of 27 (Value.int IntKind.i64 17); refine (R17.out _).mono ?_; rintro e w' ⟨rfl, rfl⟩) | (go_at_call_of 27 (Value.int IntKind.i64 19); refine (R19.out _).mono ?_; rintro e w' ⟨rfl, rfl⟩) | (go_at_call_of 27 (Value.int IntKind.i64 7); refine (R7.out _).mono ?_; rintro e w' ⟨rfl, rfl⟩) | (go_at_call_of 27 (Value.int IntKind.i64 18); refine (R18.out _).mono ?_; rintro e w' ⟨rfl, rfl⟩) | (go_at_call_of 28 (Value.int IntKind.i64 10); refine (R10.out _).mono ?_; rintro e w' ⟨rfl, rfl⟩) | (go_at_call_of 28 (Value.int IntKind.i64 3); refine (R3.out _).mono ?_; rintro e w' ⟨rfl, rfl⟩) | fail
        obtain ⟨x88, hx⟩ : ∃ x : Value, x = .slice (some ⟨gw, 0, none⟩) t cw := ⟨_, rfl⟩
        have X88 := Lib.hid hx
        clear hx
        obtain ⟨x89, hx⟩ : ∃ x : Value, x = .int .u32 (s1 : Int) := ⟨_, rfl⟩
        have X89 := Lib.hid hx
        clear hx
        obtain ⟨x90, hx⟩ : ∃ x : Value, x = .slice (some ⟨gw, 0, none⟩) t cw := ⟨_, rfl⟩
        have X90 := Lib.hid hx
        clear hx
        obtain ⟨x91, hx⟩ : ∃ x : Value, x = .int .i64 (t : Int) := ⟨_, rfl⟩
        have X91 := Lib.hid hx
        clear hx
        obtain ⟨x92, hx⟩ : ∃ x : Value, x = .int .i64 (q2 : Int) := ⟨_, rfl⟩
        have X92 := Lib.hid hx
        clear hx
        obtain ⟨x93, hx⟩ : ∃ x : Value, x = .pointer (some ⟨gw, q2, none⟩) := ⟨_, rfl⟩
        have X93 := Lib.hid hx
        clear hx
        obtain ⟨x94, hx⟩ : ∃ x : Value, x = u32v p7 := ⟨_, rfl⟩
        have X94 := Lib.hid hx
        clear hx
        obtain ⟨x95, hx⟩ : ∃ x : Value, x = .int .u32 (z1 : Int) := ⟨_, rfl⟩
        have X95 := Lib.hid hx
        clear hx
        obtain ⟨x96, hx⟩ : ∃ x : Value, x = .int .u32 (s0 : Int) := ⟨_, rfl⟩
        have X96 := Lib.hid hx
        clear hx
        obtain ⟨x97, hx⟩ : ∃ x : Value, x = .int .u32 (z2 : Int) := ⟨_, rfl⟩
        have X97 := Lib.hid hx
        clear hx
        obtain ⟨x98, hx⟩ : ∃ x : Value, x = .slice (some ⟨gw, 0, none⟩) t cw := ⟨_, rfl⟩
        have X98 := Lib.hid hx
        clear hx
        obtain ⟨x99, hx⟩ : ∃ x : Value, x = .int .i64 (t : Int) := ⟨_, rfl⟩
        have X99 := Lib.hid hx
        clear hx
        obtain ⟨x100, hx⟩ : ∃ x : Value, x = .int .i64 (q3 : Int) := ⟨_, rfl⟩
        have X100 := Lib.hid hx
        clear hx
        obtain ⟨x101, hx⟩ : ∃ x : Value, x = .pointer (some ⟨gw, q3, none⟩) := ⟨_, rfl⟩
        have X101 := Lib.hid hx
        clear hx
        obtain ⟨x102, hx⟩ : ∃ x : Value, x = u32v p6 := ⟨_, rfl⟩
        have X102 := Lib.hid hx
        clear hx
        obtain ⟨x103, hx⟩ : ∃ x : Value, x = .int .u32 (yy : Int) := ⟨_, rfl⟩
        have X103 := Lib.hid hx
        clear hx
        obtain ⟨x104, hx⟩ : ∃ x : Value, x = .slice (some ⟨Wd.heap.size, 0, none⟩) 1 1 := ⟨_, rfl⟩
        have X104 := Lib.hid hx
        clear hx
        obtain ⟨x105, hx⟩ : ∃ x : Value, x = v5 := ⟨_, rfl⟩
        have X105 := Lib.hid hx
        clear hx
        obtain ⟨x7, hx⟩ : ∃ x : Value, x = v5 := ⟨_, rfl⟩
        have X7 := Lib.hid hx
        clear hx
        refine wp_region_clo (fun a0 l a' w' => a' = (Act.put (fill a0 88 [sel (l 0) x88 u88, sel (l 1) x89 u89, sel (l 2) x90 u90, sel (l 3) x91 u91, sel (l 4) x92 u92, sel (l 5) x93 u93, sel (l 6) x94 u94, sel (l 7) x95 u95, sel (l 8) x96 u96, sel (l 9) x97 u97, sel (l 10) x98 u98, sel (l 11) x99 u99, sel (l 12) x100 u100, sel (l 13) x101 u101, sel (l 14) x102 u102, sel (l 15) x103 u103, sel (l 16) x104 u104, sel (l 17) x105 u105, undef, undef, undef, undef, undef, undef, undef, undef, undef, undef, undef, undef, undef, undef, undef, undef, undef, undef, undef, undef, undef, undef, undef, undef, undef, undef, undef, undef, undef, undef, undef, undef, undef, undef, undef, undef, undef, undef, undef, undef, undef, undef, undef, undef, undef, undef, undef, undef, undef, undef, undef, undef, undef, undef, undef, undef, undef, undef, undef, undef, undef, undef, undef, undef, undef, undef, undef, undef, undef, undef, undef, undef, undef, undef, undef, undef, undef, undef, undef, undef, undef, undef, undef, undef, undef, undef, undef, undef, undef, undef, undef, undef, undef, undef, undef, undef, undef, undef, undef, undef, undef, undef, undef, undef, undef, undef, undef, undef, undef, undef, undef, undef, undef, undef]) (some 7) (sel (l 18) x7 (.slice (some ⟨gw, 0, none⟩) t cw))) ∧ w' = (selW (l 17) w5 (selW (l 16) W4 Wd))) (by kernel_rfl) (by kernel_rfl) ?_ ⟨?_, ?_, ?_, ?_, ?_, ?_, ?_, ?_, ?_, ?_, ?_, ?_, ?_, ?_, ?_, ?_, ?_, ?_, ?_, trivial⟩ ?_
        · refine ⟨?_, HWd.out.symm⟩
          simp only [fill_eq, List.take_succ_cons, List.take_zero, List.cons_append, List.nil_append, Act.put, List.setIfInBounds_toArray, List.set_cons_zero, List.set_cons_succ, sel_start]
          try rfl
        · as_aux_lemma =>
            rintro l a wr ⟨ha, hw⟩ hc hl hd K' hK
            have hx := X88.out; subst hx
            have r18 := hc.not (i := 18) hl 19 (by kernel_rfl)
            simp only [fill_eq, List.take_succ_cons, List.take_zero, List.cons_append, List.nil_append, Act.put, List.setIfInBounds_toArray, List.set_cons_zero, List.set_cons_succ, sel_no r18] at ha
            subst ha
            have hw0 := Lib.hid hw
            have g17 := hc.not (i := 17) hl 19 (by kernel_rfl)
            clear hw
            have hg17 := Lib.hid g17
            clear g17
            have hr18 := Lib.hid r18
            clear r18
            rw [if_pos (by rfl)]
            go_simp
            refine Shut.out hK _ _ ⟨?_, ?_⟩
            · simp only [fill_eq, List.take_succ_cons, List.take_zero, List.cons_append, List.nil_append, Act.put, List.setIfInBounds_toArray, List.set_cons_zero, List.set_cons_succ, sel_new, sel_no (show upd l 0 18 = false from hr18.out)]
              try rfl
            · exact hw0.out
        · as_aux_lemma =>
            rintro l a wr ⟨ha, hw⟩ hc hl hd K' hK
            have hx := X89.out; subst hx
            simp only [fill_eq, List.take_succ_cons, List.take_zero, List.cons_append, List.nil_append, Act.put, List.setIfInBounds_toArray, List.set_cons_zero, List.set_cons_succ] at ha
            subst ha
            have hw0 := Lib.hid hw
            have g16 := hc.not (i := 16) hl 19 (by kernel_rfl)
            have g17 := hc.not (i := 17) hl 19 (by kernel_rfl)
            rw [selW_no g17, selW_no g16] at hw
            obtain rfl : Wd = wr := hw.symm
            have hg16 := Lib.hid g16
            clear g16
            have hg17 := Lib.hid g17
            clear g17
            rw [if_pos (by rfl)]
            go_simp
            refine Shut.out hK _ _ ⟨?_, ?_⟩
            · simp only [fill_eq, List.take_succ_cons, List.take_zero, List.cons_append, List.nil_append, Act.put, List.setIfInBounds_toArray, List.set_cons_zero, List.set_cons_succ, sel_new]
              try rfl
            · exact hw0.out
        · as_aux_lemma =>
            rintro l a wr ⟨ha, hw⟩ hc hl hd K' hK
            have hx := X90.out; subst hx
            have r18 := hc.not (i := 18) hl 19 (by kernel_rfl)
            simp only [fill_eq, List.take_succ_cons, List.take_zero, List.cons_append, List.nil_append, Act.put, List.setIfInBounds_toArray, List.set_cons_zero, List.set_cons_succ, sel_no r18] at ha
            subst ha
            have hw0 := Lib.hid hw
            have g16 := hc.not (i := 16) hl 19 (by kernel_rfl)
            have g17 := hc.not (i := 17) hl 19 (by kernel_rfl)
            rw [selW_no g17, selW_no g16] at hw
            obtain rfl : Wd = wr := hw.symm
            have hg16 := Lib.hid g16
            clear g16
            have hg17 := Lib.hid g17
            clear g17
            have hr18 := Lib.hid r18
            clear r18
            rw [if_pos (by rfl)]
            go_simp
            refine Shut.out hK _ _ ⟨?_, ?_⟩
            · simp only [fill_eq, List.take_succ_cons, List.take_zero, List.cons_append, List.nil_append, Act.put, List.setIfInBounds_toArray, List.set_cons_zero, List.set_cons_succ, sel_new, sel_no (show upd l 2 18 = false from hr18.out)]
              try rfl
            · exact hw0.out
        · as_aux_lemma =>
            rintro l a wr ⟨ha, hw⟩ hc hl hd K' hK
            have hx := X91.out; subst hx
            simp only [fill_eq, List.take_succ_cons, List.take_zero, List.cons_append, List.nil_append, Act.put, List.setIfInBounds_toArray, List.set_cons_zero, List.set_cons_succ] at ha
            subst ha
            have hw0 := Lib.hid hw
            have g16 := hc.not (i := 16) hl 19 (by kernel_rfl)
            have g17 := hc.not (i := 17) hl 19 (by kernel_rfl)
            rw [selW_no g17, selW_no g16] at hw
            obtain rfl : Wd = wr := hw.symm
            have hg16 := Lib.hid g16
            clear g16
            have hg17 := Lib.hid g17
            clear g17
            rw [if_pos (by rfl)]
            go_simp
            refine Shut.out hK _ _ ⟨?_, ?_⟩
            · simp only [fill_eq, List.take_succ_cons, List.take_zero, List.cons_append, List.nil_append, Act.put, List.setIfInBounds_toArray, List.set_cons_zero, List.set_cons_succ, sel_new]
              try rfl
            · exact hw0.out
        · as_aux_lemma =>
            rintro l a wr ⟨ha, hw⟩ hc hl hd K' hK
            have d3 := hd 3 (by decide)
            have hx := X91.out; subst hx
            have hx := X92.out; subst hx
            simp only [fill_eq, List.take_succ_cons, List.take_zero, List.cons_append, List.nil_append, Act.put, List.setIfInBounds_toArray, List.set_cons_zero, List.set_cons_succ, sel_of d3] at ha
            subst ha
            have hw0 := Lib.hid hw
            have g16 := hc.not (i := 16) hl 19 (by kernel_rfl)
            have g17 := hc.not (i := 17) hl 19 (by kernel_rfl)
            rw [selW_no g17, selW_no g16] at hw
            obtain rfl : Wd = wr := hw.symm
            have hg16 := Lib.hid g16
            clear g16
            have hg17 := Lib.hid g17
            clear g17
            rw [if_pos (by rfl)]
            go_simp
            refine Shut.out hK _ _ ⟨?_, ?_⟩
            · simp only [fill_eq, List.take_succ_cons, List.take_zero, List.cons_append, List.nil_append, Act.put, List.setIfInBounds_toArray, List.set_cons_zero, List.set_cons_succ, sel_new, sel_dep d3]
              try rfl
            · exact hw0.out
        · as_aux_lemma =>
            rintro l a wr ⟨ha, hw⟩ hc hl hd K' hK
            have d2 := hd 2 (by decide)
            have d4 := hd 4 (by decide)
            have hx := X90.out; subst hx
            have hx := X92.out; subst hx
            have hx := X93.out; subst hx
            simp only [fill_eq, List.take_succ_cons, List.take_zero, List.cons_append, List.nil_append, Act.put, List.setIfInBounds_toArray, List.set_cons_zero, List.set_cons_succ, sel_of d2, sel_of d4] at ha
            subst ha
            have hw0 := Lib.hid hw
            have g16 := hc.not (i := 16) hl 19 (by kernel_rfl)
            have g17 := hc.not (i := 17) hl 19 (by kernel_rfl)
            rw [selW_no g17, selW_no g16] at hw
            obtain rfl : Wd = wr := hw.symm
            have hg16 := Lib.hid g16
            clear g16
            have hg17 := Lib.hid g17
            clear g17
            rw [if_pos (by rfl)]
            go_simp
            refine Shut.out hK _ _ ⟨?_, ?_⟩
            · simp only [fill_eq, List.take_succ_cons, List.take_zero, List.cons_append, List.nil_append, Act.put, List.setIfInBounds_toArray, List.set_cons_zero, List.set_cons_succ, sel_new, sel_dep d2, sel_dep d4]
              try rfl
            · exact hw0.out
        · as_aux_lemma =>
            rintro l a wr ⟨ha, hw⟩ hc hl hd K' hK
            have d5 := hd 5 (by decide)
            have hx := X93.out; subst hx
            have hx := X94.out; subst hx
            simp only [fill_eq, List.take_succ_cons, List.take_zero, List.cons_append, List.nil_append, Act.put, List.setIfInBounds_toArray, List.set_cons_zero, List.set_cons_succ, sel_of d5] at ha
            subst ha
            have hw0 := Lib.hid hw
            have g16 := hc.not (i := 16) hl 19 (by kernel_rfl)
            have g17 := hc.not (i := 17) hl 19 (by kernel_rfl)
            rw [selW_no g17, selW_no g16] at hw
            obtain rfl : Wd = wr := hw.symm
            have hg16 := Lib.hid g16
            clear g16
            have hg17 := Lib.hid g17
            clear g17
            have p := D2.out
            rw [if_pos (by rfl)]
            go_simp
            refine Shut.out hK _ _ ⟨?_, ?_⟩
            · simp only [fill_eq, List.take_succ_cons, List.take_zero, List.cons_append, List.nil_append, Act.put, List.setIfInBounds_toArray, List.set_cons_zero, List.set_cons_succ, sel_new, sel_dep d5]
              try rfl
            · exact hw0.out
        · as_aux_lemma =>
            rintro l a wr ⟨ha, hw⟩ hc hl hd K' hK
            have d1 := hd 1 (by decide)
            have d6 := hd 6 (by decide)
            have hx := X89.out; subst hx
            have hx := X94.out; subst hx
            have hx := X95.out; subst hx
            simp only [fill_eq, List.take_succ_cons, List.take_zero, List.cons_append, List.nil_append, Act.put, List.setIfInBounds_toArray, List.set_cons_zero, List.set_cons_succ, sel_of d1, sel_of d6] at ha
            subst ha
            have hw0 := Lib.hid hw
            have g16 := hc.not (i := 16) hl 19 (by kernel_rfl)
            have g17 := hc.not (i := 17) hl 19 (by kernel_rfl)
            rw [selW_no g17, selW_no g16] at hw
            obtain rfl : Wd = wr := hw.symm
            have hg16 := Lib.hid g16
            clear g16
            have hg17 := Lib.hid g17
            clear g17
            rw [if_pos (by rfl)]
            go_simp
            refine Shut.out hK _ _ ⟨?_, ?_⟩
            · simp only [fill_eq, List.take_succ_cons, List.take_zero, List.cons_append, List.nil_append, Act.put, List.setIfInBounds_toArray, List.set_cons_zero, List.set_cons_succ, sel_new, sel_dep d1, sel_dep d6]
              try rfl
            · exact hw0.out
        · as_aux_lemma =>
            rintro l a wr ⟨ha, hw⟩ hc hl hd K' hK
            have hx := X96.out; subst hx
            simp only [fill_eq, List.take_succ_cons, List.take_zero, List.cons_append, List.nil_append, Act.put, List.setIfInBounds_toArray, List.set_cons_zero, List.set_cons_succ] at ha
            subst ha
            have hw0 := Lib.hid hw
            have g16 := hc.not (i := 16) hl 19 (by kernel_rfl)
            have g17 := hc.not (i := 17) hl 19 (by kernel_rfl)
            rw [selW_no g17, selW_no g16] at hw
            obtain rfl : Wd = wr := hw.symm
            have hg16 := Lib.hid g16
            clear g16
            have hg17 := Lib.hid g17
            clear g17
            rw [if_pos (by rfl)]
            go_simp
            refine Shut.out hK _ _ ⟨?_, ?_⟩
            · simp only [fill_eq, List.take_succ_cons, List.take_zero, List.cons_append, List.nil_append, Act.put, List.setIfInBounds_toArray, List.set_cons_zero, List.set_cons_succ, sel_new]
              try rfl
            · exact hw0.out
        · as_aux_lemma =>
            rintro l a wr ⟨ha, hw⟩ hc hl hd K' hK
            have d7 := hd 7 (by decide)
            have d8 := hd 8 (by decide)
            have hx := X95.out; subst hx
            have hx := X96.out; subst hx
            have hx := X97.out; subst hx
            simp only [fill_eq, List.take_succ_cons, List.take_zero, List.cons_append, List.nil_append, Act.put, List.setIfInBounds_toArray, List.set_cons_zero, List.set_cons_succ, sel_of d7, sel_of d8] at ha
            subst ha
            have hw0 := Lib.hid hw
            have g16 := hc.not (i := 16) hl 19 (by kernel_rfl)
            have g17 := hc.not (i := 17) hl 19 (by kernel_rfl)
            rw [selW_no g17, selW_no g16] at hw
            obtain rfl : Wd = wr := hw.symm
            have hg16 := Lib.hid g16
            clear g16
            have hg17 := Lib.hid g17
            clear g17
            rw [if_pos (by rfl)]
            go_simp
            refine Shut.out hK _ _ ⟨?_, ?_⟩
            · simp only [fill_eq, List.take_succ_cons, List.take_zero, List.cons_append, List.nil_append, Act.put, List.setIfInBounds_toArray, List.set_cons_zero, List.set_cons_succ, sel_new, sel_dep d7, sel_dep d8]
              try rfl
            · exact hw0.out
        · as_aux_lemma =>
            rintro l a wr ⟨ha, hw⟩ hc hl hd K' hK
            have hx := X98.out; subst hx
            have r18 := hc.not (i := 18) hl 19 (by kernel_rfl)
            simp only [fill_eq, List.take_succ_cons, List.take_zero, List.cons_append, List.nil_append, Act.put, List.setIfInBounds_toArray, List.set_cons_zero, List.set_cons_succ, sel_no r18] at ha
            subst ha
            have hw0 := Lib.hid hw
            have g16 := hc.not (i := 16) hl 19 (by kernel_rfl)
            have g17 := hc.not (i := 17) hl 19 (by kernel_rfl)
            rw [selW_no g17, selW_no g16] at hw
            obtain rfl : Wd = wr := hw.symm
            have hg16 := Lib.hid g16
            clear g16
            have hg17 := Lib.hid g17
            clear g17
            have hr18 := Lib.hid r18
            clear r18
            rw [if_pos (by rfl)]
            go_simp
            refine Shut.out hK _ _ ⟨?_, ?_⟩
            · simp only [fill_eq, List.take_succ_cons, List.take_zero, List.cons_append, List.nil_append, Act.put, List.setIfInBounds_toArray, List.set_cons_zero, List.set_cons_succ, sel_new, sel_no (show upd l 10 18 = false from hr18.out)]
              try rfl
            · exact hw0.out
        · as_aux_lemma =>
            rintro l a wr ⟨ha, hw⟩ hc hl hd K' hK
            have hx := X99.out; subst hx
            simp only [fill_eq, List.take_succ_cons, List.take_zero, List.cons_append, List.nil_append, Act.put, List.setIfInBounds_toArray, List.set_cons_zero, List.set_cons_succ] at ha
            subst ha
            have hw0 := Lib.hid hw
            have g16 := hc.not (i := 16) hl 19 (by kernel_rfl)
            have g17 := hc.not (i := 17) hl 19 (by kernel_rfl)
            rw [selW_no g17, selW_no g16] at hw
            obtain rfl : Wd = wr := hw.symm
            have hg16 := Lib.hid g16
            clear g16
            have hg17 := Lib.hid g17
            clear g17
            rw [if_pos (by rfl)]
            go_simp
            refine Shut.out hK _ _ ⟨?_, ?_⟩
            · simp only [fill_eq, List.take_succ_cons, List.take_zero, List.cons_append, List.nil_append, Act.put, List.setIfInBounds_toArray, List.set_cons_zero, List.set_cons_succ, sel_new]
              try rfl
            · exact hw0.out
        · as_aux_lemma =>
            rintro l a wr ⟨ha, hw⟩ hc hl hd K' hK
            have d11 := hd 11 (by decide)
            have hx := X99.out; subst hx
            have hx := X100.out; subst hx
            simp only [fill_eq, List.take_succ_cons, List.take_zero, List.cons_append, List.nil_append, Act.put, List.setIfInBounds_toArray, List.set_cons_zero, List.set_cons_succ, sel_of d11] at ha
            subst ha
            have hw0 := Lib.hid hw
            have g16 := hc.not (i := 16) hl 19 (by kernel_rfl)
            have g17 := hc.not (i := 17) hl 19 (by kernel_rfl)
            rw [selW_no g17, selW_no g16] at hw
            obtain rfl : Wd = wr := hw.symm
            have hg16 := Lib.hid g16
            clear g16
            have hg17 := Lib.hid g17
            clear g17
            rw [if_pos (by rfl)]
            go_simp
            refine Shut.out hK _ _ ⟨?_, ?_⟩
            · simp only [fill_eq, List.take_succ_cons, List.take_zero, List.cons_append, List.nil_append, Act.put, List.setIfInBounds_toArray, List.set_cons_zero, List.set_cons_succ, sel_new, sel_dep d11]
              try rfl
            · exact hw0.out
        · as_aux_lemma =>
            rintro l a wr ⟨ha, hw⟩ hc hl hd K' hK
            have d10 := hd 10 (by decide)
            have d12 := hd 12 (by decide)
            have hx := X98.out; subst hx
            have hx := X100.out; subst hx
            have hx := X101.out; subst hx
            simp only [fill_eq, List.take_succ_cons, List.take_zero, List.cons_append, List.nil_append, Act.put, List.setIfInBounds_toArray, List.set_cons_zero, List.set_cons_succ, sel_of d10, sel_of d12] at ha
            subst ha
            have hw0 := Lib.hid hw
            have g16 := hc.not (i := 16) hl 19 (by kernel_rfl)
            have g17 := hc.not (i := 17) hl 19 (by kernel_rfl)
            rw [selW_no g17, selW_no g16] at hw
            obtain rfl : Wd = wr := hw.symm
            have hg16 := Lib.hid g16
            clear g16
            have hg17 := Lib.hid g17
            clear g17
            rw [if_pos (by rfl)]
            go_simp
            refine Shut.out hK _ _ ⟨?_, ?_⟩
            · simp only [fill_eq, List.take_succ_cons, List.take_zero, List.cons_append, List.nil_append, Act.put, List.setIfInBounds_toArray, List.set_cons_zero, List.set_cons_succ, sel_new, sel_dep d10, sel_dep d12]
              try rfl
            · exact hw0.out
        · as_aux_lemma =>
            rintro l a wr ⟨ha, hw⟩ hc hl hd K' hK
            have d13 := hd 13 (by decide)
            have hx := X101.out; subst hx
            have hx := X102.out; subst hx
            simp only [fill_eq, List.take_succ_cons, List.take_zero, List.cons_append, List.nil_append, Act.put, List.setIfInBounds_toArray, List.set_cons_zero, List.set_cons_succ, sel_of d13] at ha
            subst ha
            have hw0 := Lib.hid hw
            have g16 := hc.not (i := 16) hl 19 (by kernel_rfl)
            have g17 := hc.not (i := 17) hl 19 (by kernel_rfl)
            rw [selW_no g17, selW_no g16] at hw
            obtain rfl : Wd = wr := hw.symm
            have hg16 := Lib.hid g16
            clear g16
            have hg17 := Lib.hid g17
            clear g17
            have p := D3.out
            rw [if_pos (by rfl)]
            go_simp
            refine Shut.out hK _ _ ⟨?_, ?_⟩
            · simp only [fill_eq, List.take_succ_cons, List.take_zero, List.cons_append, List.nil_append, Act.put, List.setIfInBounds_toArray, List.set_cons_zero, List.set_cons_succ, sel_new, sel_dep d13]
              try rfl
            · exact hw0.out
        · as_aux_lemma =>
            rintro l a wr ⟨ha, hw⟩ hc hl hd K' hK
            have d9 := hd 9 (by decide)
            have d14 := hd 14 (by decide)
            have hx := X97.out; subst hx
            have hx := X102.out; subst hx
            have hx := X103.out; subst hx
            simp only [fill_eq, List.take_succ_cons, List.take_zero, List.cons_append, List.nil_append, Act.put, List.setIfInBounds_toArray, List.set_cons_zero, List.set_cons_succ, sel_of d9, sel_of d14] at ha
            subst ha
            have hw0 := Lib.hid hw
            have g16 := hc.not (i := 16) hl 19 (by kernel_rfl)
            have g17 := hc.not (i := 17) hl 19 (by kernel_rfl)
            rw [selW_no g17, selW_no g16] at hw
            obtain rfl : Wd = wr := hw.symm
            have hg16 := Lib.hid g16
            clear g16
            have hg17 := Lib.hid g17
            clear g17
            rw [if_pos (by rfl)]
            go_simp
            refine Shut.out hK _ _ ⟨?_, ?_⟩
            · simp only [fill_eq, List.take_succ_cons, List.take_zero, List.cons_append, List.nil_append, Act.put, List.setIfInBounds_toArray, List.set_cons_zero, List.set_cons_succ, sel_new, sel_dep d9, sel_dep d14]
              try rfl
            · exact hw0.out
        · as_aux_lemma =>
            rintro l a wr ⟨ha, hw⟩ hc hl hd K' hK
            have d15 := hd 15 (by decide)
            have hx := X103.out; subst hx
            have hx := X104.out; subst hx
            simp only [fill_eq, List.take_succ_cons, List.take_zero, List.cons_append, List.nil_append, Act.put, List.setIfInBounds_toArray, List.set_cons_zero, List.set_cons_succ, sel_of d15] at ha
            subst ha
            have hw0 := Lib.hid hw
            have g16 := hl
            have g17 := hc.not (i := 17) hl 19 (by kernel_rfl)
            rw [selW_no g17, selW_no g16] at hw
            obtain rfl : Wd = wr := hw.symm
            have hg17 := Lib.hid g17
            clear g17
            have hg16 := Lib.hid hl
            rw [if_pos (by rfl)]
            go_simp
            refine Shut.out hK _ _ ⟨?_, ?_⟩
            · simp only [fill_eq, List.take_succ_cons, List.take_zero, List.cons_append, List.nil_append, Act.put, List.setIfInBounds_toArray, List.set_cons_zero, List.set_cons_succ, sel_new, sel_dep d15]
              try rfl
            · rw [selW_no (show upd l 16 17 = false from hg17.out), selW_of (upd_same l 16)]
              try exact HW4.out.symm
        · as_aux_lemma =>
            rintro l a wr ⟨ha, hw⟩ hc hl hd K' hK
            have d0 := hd 0 (by decide)
            have d16 := hd 16 (by decide)
            have hx := X88.out; subst hx
            have hx := X104.out; subst hx
            have hx := X105.out; subst hx
            simp only [fill_eq, List.take_succ_cons, List.take_zero, List.cons_append, List.nil_append, Act.put, List.setIfInBounds_toArray, List.set_cons_zero, List.set_cons_succ, sel_of d0, sel_of d16] at ha
            subst ha
            have hw0 := Lib.hid hw
            have g16 : l 16 = true := d16
            have g17 := hl
            rw [selW_no g17, selW_of g16] at hw
            obtain rfl : W4 = wr := hw.symm
            have hg16 := Lib.hid g16
            clear g16
            have hg17 := Lib.hid hl
            rw [if_pos (by rfl)]
            refine append_oper rfl rfl rfl HR5.out ?_
            refine Shut.out hK _ _ ⟨?_, ?_⟩
            · simp only [fill_eq, List.take_succ_cons, List.take_zero, List.cons_append, List.nil_append, Act.put, List.setIfInBounds_toArray, List.set_cons_zero, List.set_cons_succ, sel_new, sel_dep d0, sel_dep d16]
              try rfl
            · rw [selW_of (upd_same l 17)]
              try exact rfl
        · as_aux_lemma =>
            rintro l a wr ⟨ha, hw⟩ hc hl hd K' hK
            have d17 := hd 17 (by decide)
            have hx := X105.out; subst hx
            have hx := X7.out; subst hx
            simp only [fill_eq, List.take_succ_cons, List.take_zero, List.cons_append, List.nil_append, Act.put, List.setIfInBounds_toArray, List.set_cons_zero, List.set_cons_succ, sel_of d17] at ha
            subst ha
            have hw0 := Lib.hid hw
            have g16 : l 16 = true := hc.up 19 17 16 d17 (by kernel_rfl)
            have g17 : l 17 = true := d17
            rw [selW_of g17] at hw
            obtain rfl : w5 = wr := hw.symm
            have hg16 := Lib.hid g16
            clear g16
            have hg17 := Lib.hid g17
            clear g17
            rw [if_pos (by rfl)]
            go_simp
            refine Shut.out hK _ _ ⟨?_, ?_⟩
            · simp only [fill_eq, List.take_succ_cons, List.take_zero, List.cons_append, List.nil_append, Act.put, List.setIfInBounds_toArray, List.set_cons_zero, List.set_cons_succ, sel_new, sel_dep d17]
              try rfl
            · exact hw0.out
        · rintro l a wc ⟨ha, hw⟩ hd
          simp only [fill_eq, List.take_succ_cons, List.take_zero, List.cons_append, List.nil_append, Act.put, List.setIfInBounds_toArray, List.set_cons_zero, List.set_cons_succ, sel_of (hd 0 (by decide)), sel_of (hd 1 (by decide)), sel_of (hd 2 (by decide)), sel_of (hd 3 (by decide)), sel_of (hd 4 (by decide)), sel_of (hd 5 (by decide)), sel_of (hd 6 (by decide)), sel_of (hd 7 (by decide)), sel_of (hd 8 (by decide)), sel_of (hd 9 (by decide)), sel_of (hd 10 (by decide)), sel_of (hd 11 (by decide)), sel_of (hd 12 (by decide)), sel_of (hd 13 (by decide)), sel_of (hd 14 (by decide)), sel_of (hd 15 (by decide)), sel_of (hd 16 (by decide)), sel_of (hd 17 (by decide)), sel_of (hd 18 (by decide))] at ha
          subst ha
          rw [selW_of (hd 17 (by decide))] at hw
          subst hw
          have hx := X7.out
          subst hx
          clear f1 f2 f3 f4 g1 g2 g3 m0 m1 m2 m3 D2 D3 HR5 HW4 HWd b0 b1 b2 b3 b0' b1' b2' b3' R17 R19 R10 R7 R18 R3 d0 d1
          go_wp2_with fail
          go_roundw
          case rel => exact ⟨t + 1, by omega, rfl, HRw.out, HO5.out⟩
          case measure => simp [intOf] <;> omega
    · obtain rfl : t = 64 := by omega
      have i1 : decide (((64 : Nat) : Int) < 64) = false := by decide
      obtain ⟨gw, cw, hv7, hcw, hBw, _, hxw⟩ := hr.form (by rw [wL_length]; decide)
      rw [wL_length] at hv7 hcw
      subst hv7
      obtain ⟨g1, off1, cap1, hv1, hc1, hx1⟩ := H1.out
      have hl1 : s.list.length = 8 := rfl
      rw [hl1] at hv1 hc1
      subst hv1
      obtain ⟨g2, off2, cap2, hv2, hc2, hx2⟩ := H2.out
      rw [HKL.out] at hv2 hc2
      subst hv2
      obtain ⟨W1, hW1⟩ : ∃ W1, W1 = wr.alloc (.cells #[] 42) := ⟨_, rfl⟩
      have hO1 : Off (fun _ => False) wr W1 := by rw [hW1]; exact (Off.refl _ wr).alloc _
      have r1 : RowW wr.heap.size W1 (.slice (some ⟨wr.heap.size, 0, none⟩) 0 0) [] := by rw [hW1]; exact World.ownsRow_lit wr #[] 0 (Nat.le_refl _) (by decide) rfl
      obtain ⟨v5, w5, hr5, r5, o5⟩ := app_words hO1 r1 (n := 8) (cap := cap1) (fun j x hj => (hO.trans hO1 (fun _ _ c => c)).cell (hx1 j x hj) (fun c => c)) rfl (by simp)
      rw [List.nil_append] at r5
      have hO5 := hO.trans o5 (fun _ _ c => c)
      have hB := hO.size
      have HR5 := Lib.hid hr5
      have HV5 := Lib.hid r5
      have HO5 := Lib.hid hO5
      have HX0 := Lib.hid hx1
      have HX1 := Lib.hid (fun j x hj => hO5.cell (hx1 j x hj) (fun c => c))
      have HX2 := Lib.hid (fun j x hj => hO5.cell (hx2 j x hj) (fun c => c))
      have HXW := Lib.hid (fun j x hj => o5.cell (hxw j x hj) (fun c => c))
      have HW1 := Lib.hid hW1
      have HSB := Lib.hid hB
      clear hr hO hcw hBw hxw hx1 hx2 hW1 hO1 r1 hr5 r5 o5 hO5 hB hlt ht H1 H2 H3 HBL
      go_wp2_with first | (at_builtin; rw [← HW1.out]; refine Go.Lib.wpList_append_run _ rfl _ _ _ _ rfl _ _ rfl rfl _ _ HR5.out ?_) | fail
      clear HR5 HW1
      obtain ⟨Bs, hBs⟩ : ∃ Bs, Bs = wr.heap.size := ⟨_, rfl⟩
      rw [← hBs] at HV5 HSB
      clear hBs
      go_loopw [13, 14] (fun v i wr => ∃ t : Nat, t ≤ 64 ∧ i = .int .i64 (t : Int) ∧ RowW w.heap.size wr v (vN s k (wL b 64) t).list ∧ Off (fun _ => False) w5 wr) (fun _ i _ => 64 - (intOf i).toNat)
      case atStart =>
        refine ⟨0, by omega, rfl, ?_, Off.refl _ _⟩
        exact HV5.out.base HSB.out
      case round =>
        obtain ⟨t, ht, rfl, hr, hO⟩ := hrel
        obtain ⟨gv, cv, hv13, hcv, hBv, hltv, hxv⟩ := hr.form (show 0 < 8 by decide)
        have hl8 : (vN s k (wL b 64) t).list.length = 8 := rfl
        rw [hl8] at hv13 hcv
        subst hv13
        by_cases hlt : t < 64
        · have i1 : decide ((t : Int) < 64) = true := by simp; omega
          have i2 : (t : Int) < 64 := by omega
          have i3 : IntKind.i64.wrap ((t : Int) + 1) = ((t + 1 : Nat) : Int) := by rw [IntKind.wrap_i64]; omega
          have hok := vN_ok HS.out k (wL b 64) t
          have hstep : vN s k (wL b 64) (t + 1) = stepV (vN s k (wL b 64) t) (k.getD t 0) ((wL b 64).getD t 0) := rfl
          have ck : wr.cell? ⟨g2, off2 + t, none⟩ = some (u32v (k.getD t 0)) := by
            have h : t < k.length := by rw [HKL.out]; exact hlt
            rw [List.getD_eq_getElem?_getD, List.getElem?_eq_getElem h]
            exact hO.cell (HX2.out _ _ (List.getElem?_eq_getElem h)) (fun c => c)
          have cw' : wr.cell? ⟨gw, t, none⟩ = some (u32v ((wL b 64).getD t 0)) := by
            have h : t < (wL b 64).length := by rw [wL_length]; exact hlt
            rw [List.getD_eq_getElem?_getD, List.getElem?_eq_getElem h]
            exact hO.cell (HXW.out _ _ (List.getElem?_eq_getElem h)) (fun c => c)
          have lk := HK.out.get t
          have lw := (wL_ws HB.out 64).get t
          obtain ⟨kt, hkt⟩ : ∃ x, x = k.getD t 0 := ⟨_, rfl⟩
          obtain ⟨wt, hwt⟩ : ∃ x, x = (wL b 64).getD t 0 := ⟨_, rfl⟩
          obtain ⟨V, hV⟩ : ∃ x, x = vN s k (wL b 64) t := ⟨_, rfl⟩
          rw [← hkt] at ck hstep lk
          rw [← hwt] at cw' hstep lw
          rw [← hV] at hok hstep hxv
          clear hkt hwt hr hV hcv hl8
          rcases V with ⟨x0, x1, x2, x3, x4, x5, x6, x7⟩
          obtain ⟨b0, b1, b2, b3, b4, b5, b6, b7⟩ := hok
          simp only at b0 b1 b2 b3 b4 b5 b6 b7
          have m0 := hxv 0 x0 rfl
          have m1 := hxv 1 x1 rfl
          have m2 := hxv 2 x2 rfl
          have m3 := hxv 3 x3 rfl
          have m4 := hxv 4 x4 rfl
          have m5 := hxv 5 x5 rfl
          have m6 := hxv 6 x6 rfl
          have m7 := hxv 7 x7 rfl
          clear hxv
          have R6 := Lib.hid (fun W => rotr_any x4 6 b4 (by decide) W)
          have R11 := Lib.hid (fun W => rotr_any x4 11 b4 (by decide) W)
          have R25 := Lib.hid (fun W => rotr_any x4 25 b4 (by decide) W)
          have R2 := Lib.hid (fun W => rotr_any x0 2 b0 (by decide) W)
          have R13 := Lib.hid (fun W => rotr_any x0 13 b0 (by decide) W)
          have R22 := Lib.hid (fun W => rotr_any x0 22 b0 (by decide) W)
          have k6 := ror_lt (x := x4) (n := 6) b4 (by decide)
          have k11 := ror_lt (x := x4) (n := 11) b4 (by decide)
          have k25 := ror_lt (x := x4) (n := 25) b4 (by decide)
          have k2 := ror_lt (x := x0) (n := 2) b0 (by decide)
          have k13 := ror_lt (x := x0) (n := 13) b0 (by decide)
          have k22 := ror_lt (x := x0) (n := 22) b0 (by decide)
          have f1 := xor_u32 k6 k11
          have f2 := xor_u32 (xor32 k6 k11) k25
          have f3 := xor_u32 k2 k13
          have f4 := xor_u32 (xor32 k2 k13) k22
          have hs1 : bs1 x4 = ror x4 6 ^^^ ror x4 11 ^^^ ror x4 25 := rfl
          have hs0 : bs0 x0 = ror x0 2 ^^^ ror x0 13 ^^^ ror x0 22 := rfl
          rw [← hs1] at f2
          rw [← hs0] at f4
          have f5 := and_u32 b4 b5
          have f6 : bits .xor .u32 IntKind.u32.max (x4 : Int) = (not32 x4 : Int) := by
            rw [show IntKind.u32.max = ((4294967295 : Nat) : Int) by decide, xor_u32 (by decide) b4, not32_xor b4]
          have f60 : (if IntKind.u32.signed = true then (-1 : Int) else IntKind.u32.max) = IntKind.u32.max := by decide
          have f7 := and_u32 (not32_lt x4) b6
          have f8 := xor_u32 (and32 x5 b4) (and32 x6 (not32_lt x4))
          have hch : chN x4 x5 x6 = ((x4 &&& x5) ^^^ (not32 x4 &&& x6)) := rfl
          rw [← hch] at f8
          have f9 := and_u32 b0 b1
          have f10 := and_u32 b0 b2
          have f11 := and_u32 b1 b2
          have f12 := xor_u32 (and32 x1 b0) (and32 x2 b0)
          have f13 := xor_u32 (xor32 (and32 x1 b0) (and32 x2 b0)) (and32 x2 b1)
          have hma : majN x0 x1 x2 = ((x0 &&& x1) ^^^ (x0 &&& x2) ^^^ (x1 &&& x2)) := rfl
          rw [← hma] at f13
          have ls1 := bs1_lt b4
          have ls0 := bs0_lt b0
          have lch := chN_lt (f := x5) (g := x6) b4
          have lma := majN_lt (c := x2) b0 b1
          have HT1 : t1N ⟨x0, x1, x2, x3, x4, x5, x6, x7⟩ kt wt = (x7 + bs1 x4 + chN x4 x5 x6 + kt + wt) % 4294967296 := rfl
          have HT2 : t2N ⟨x0, x1, x2, x3, x4, x5, x6, x7⟩ = (bs0 x0 + majN x0 x1 x2) % 4294967296 := rfl
          obtain ⟨s1, hs1'⟩ : ∃ u, u = bs1 x4 := ⟨_, rfl⟩
          obtain ⟨s0, hs0'⟩ : ∃ u, u = bs0 x0 := ⟨_, rfl⟩
          obtain ⟨ch, hch'⟩ : ∃ u, u = chN x4 x5 x6 := ⟨_, rfl⟩
          obtain ⟨ma, hma'⟩ : ∃ u, u = majN x0 x1 x2 := ⟨_, rfl⟩
          rw [← hs1'] at f2 HT1 ls1
          rw [← hs0'] at f4 HT2 ls0
          rw [← hch'] at f8 HT1 lch
          rw [← hma'] at f13 HT2 lma
          have g1 : IntKind.u32.wrap ((x7 : Int) + (s1 : Int)) = (((x7 + s1) % 4294967296 : Nat) : Int) := by rw [IntKind.wrap_u32]; omega
          have g2' : IntKind.u32.wrap ((((x7 + s1) % 4294967296 : Nat) : Int) + (ch : Int)) = (((x7 + s1 + ch) % 4294967296 : Nat) : Int) := by rw [IntKind.wrap_u32]; omega
          have g3' : IntKind.u32.wrap ((((x7 + s1 + ch) % 4294967296 : Nat) : Int) + (kt : Int)) = (((x7 + s1 + ch + kt) % 4294967296 : Nat) : Int) := by rw [IntKind.wrap_u32]; omega
          have g4 : IntKind.u32.wrap ((((x7 + s1 + ch + kt) % 4294967296 : Nat) : Int) + (wt : Int)) = (((x7 + s1 + ch + kt + wt) % 4294967296 : Nat) : Int) := by rw [IntKind.wrap_u32]; omega
          have g5 : IntKind.u32.wrap ((s0 : Int) + (ma : Int)) = (((s0 + ma) % 4294967296 : Nat) : Int) := by rw [IntKind.wrap_u32]; omega
          rw [← HT1] at g4
          rw [← HT2] at g5
          obtain ⟨y1, hy1⟩ : ∃ y, y = (x7 + s1) % 4294967296 := ⟨_, rfl⟩
          obtain ⟨y2, hy2⟩ : ∃ y, y = (x7 + s1 + ch) % 4294967296 := ⟨_, rfl⟩
          obtain ⟨y3, hy3⟩ : ∃ y, y = (x7 + s1 + ch + kt) % 4294967296 := ⟨_, rfl⟩
          have lt1 : t1N ⟨x0, x1, x2, x3, x4, x5, x6, x7⟩ kt wt < 4294967296 := HT1 ▸ Nat.mod_lt _ (by decide)
          have lt2 : t2N ⟨x0, x1, x2, x3, x4, x5, x6, x7⟩ < 4294967296 := HT2 ▸ Nat.mod_lt _ (by decide)
          unfold stepV at hstep
          simp only at hstep
          obtain ⟨t1, ht1⟩ : ∃ y, y = t1N ⟨x0, x1, x2, x3, x4, x5, x6, x7⟩ kt wt := ⟨_, rfl⟩
          obtain ⟨t2, ht2⟩ : ∃ y, y = t2N ⟨x0, x1, x2, x3, x4, x5, x6, x7⟩ := ⟨_, rfl⟩
          rw [← ht1] at g4 hstep lt1
          rw [← ht2] at g5 hstep lt2
          rw [← hy1] at g1 g2'
          rw [← hy2] at g2' g3'
          rw [← hy3] at g3' g4
          have g6 : IntKind.u32.wrap ((t1 : Int) + (t2 : Int)) = (((t1 + t2) % 4294967296 : Nat) : Int) := by rw [IntKind.wrap_u32]; omega
          have g7 : IntKind.u32.wrap ((x3 : Int) + (t1 : Int)) = (((x3 + t1) % 4294967296 : Nat) : Int) := by rw [IntKind.wrap_u32]; omega
          obtain ⟨z0, hz0⟩ : ∃ z, z = (t1 + t2) % 4294967296 := ⟨_, rfl⟩
          obtain ⟨z4, hz4⟩ : ∃ z, z = (x3 + t1) % 4294967296 := ⟨_, rfl⟩
          rw [← hz0] at g6 hstep
          rw [← hz4] at g7 hstep
          obtain ⟨r6, h6⟩ : ∃ r, r = ror x4 6 := ⟨_, rfl⟩
          obtain ⟨r11, h11⟩ : ∃ r, r = ror x4 11 := ⟨_, rfl⟩
          obtain ⟨r25, h25⟩ : ∃ r, r = ror x4 25 := ⟨_, rfl⟩
          obtain ⟨r2, h2⟩ : ∃ r, r = ror x0 2 := ⟨_, rfl⟩
          obtain ⟨r13, h13⟩ : ∃ r, r = ror x0 13 := ⟨_, rfl⟩
          obtain ⟨r22, h22⟩ : ∃ r, r = ror x0 22 := ⟨_, rfl⟩
          rw [← h6, ← h11] at f1 f2
          rw [← h25] at f2
          rw [← h2, ← h13] at f3 f4
          rw [← h22] at f4
          rw [← h6] at R6
          rw [← h11] at R11
          rw [← h25] at R25
          rw [← h2] at R2
          rw [← h13] at R13
          rw [← h22] at R22
          have HST := Lib.hid hstep
          have HO := Lib.hid hO
          clear hstep hO HT1 HT2 hs1 hs0 hch hma hs1' hs0' hch' hma' ls1 ls0 lch lma hy1 hy2 hy3 ht1 ht2 lt1 lt2 hz0 hz4 h6 h11 h25 h2 h13 h22 k6 k11 k25 k2 k13 k22 b0 b1 b2 b3 b4 b5 b6 b7 lk lw HXW HX1 HX2 HV5 HK HKL HB
          have HM : Hid (∀ W, Off (fun _ => False) wr W → (W.cell? ⟨gv, 0, none⟩ = some (u32v x0) ∧ W.cell? ⟨gv, 1, none⟩ = some (u32v x1) ∧ W.cell? ⟨gv, 2, none⟩ = some (u32v x2) ∧ W.cell? ⟨gv, 3, none⟩ = some (u32v x3) ∧ W.cell? ⟨gv, 4, none⟩ = some (u32v x4) ∧ W.cell? ⟨gv, 5, none⟩ = some (u32v x5) ∧ W.cell? ⟨gv, 6, none⟩ = some (u32v x6) ∧ W.cell? ⟨gv, 7, none⟩ = some (u32v x7)) ∧ Off (fun _ => False) w5 W) :=
            Lib.hid (fun W h => ⟨⟨h.cell m0 (fun c => c), h.cell m1 (fun c => c), h.cell m2 (fun c => c), h.cell m3 (fun c => c), h.cell m4 (fun c => c), h.cell m5 (fun c => c), h.cell m6 (fun c => c), h.cell m7 (fun c => c)⟩, HO.out.trans h (fun _ _ c => c)⟩)
          have HLT := Lib.hid hltv
          go_upto_region 18 with fail
          go_quiet (first | (go_at_call_of 27 (Value.int IntKind.i64 6); exact quiet_eq (R6.out _)) | (go_at_call_of 27 (Value.int IntKind.i64 11); exact quiet_eq (R11.out _)) | (go_at_call_of 27 (Value.int IntKind.i64 25); exact quiet_eq (R25.out _)))
          obtain ⟨w6, hw6⟩ : ∃ w6, w6 = wr.drewN nq := ⟨_, rfl⟩
          have ho6 : Off (fun _ => False) wr w6 := by rw [hw6]; exact off_drewN (Off.refl (fun _ => False) wr) nq
          rw [← hw6]
          clear m0 m1 m2 m3 m4 m5 m6 m7 ck cw' hw6 f1 f2 f5 f6 f60 f7 f8 g1 g2' g3' g4 R6 R11 R25
          obtain ⟨⟨m0, m1, m2, m3, m4, m5, m6, m7⟩, _⟩ := HM.out w6 ho6
          have HO6 := Lib.hid ho6
          clear ho6
          go_upto_region 19 with fail
          go_quiet (first | (go_at_call_of 27 (Value.int IntKind.i64 2); exact quiet_eq (R2.out _)) | (go_at_call_of 27 (Value.int IntKind.i64 13); exact quiet_eq (R13.out _)) | (go_at_call_of 27 (Value.int IntKind.i64 22); exact quiet_eq (R22.out _)))
          obtain ⟨w7, hw7⟩ : ∃ w7, w7 = w6.drewN nq := ⟨_, rfl⟩
          have ho7 : Off (fun _ => False) wr w7 := by rw [hw7]; exact off_drewN HO6.out nq
          rw [← hw7]
          clear m0 m1 m2 m3 m4 m5 m6 m7 hw7 f3 f4 f9 f10 f11 f12 f13 g5 R2 R13 R22 HO6
          obtain ⟨⟨m0, m1, m2, m3, m4, m5, m6, m7⟩, hO7⟩ := HM.out w7 ho7
          have HO7 := Lib.hid hO7
          clear ho7 hO7
          go_upto_region 20 with fail
          go_region
          have HRn := Lib.hid (show RowW w.heap.size (w7.alloc (.cells #[u32v z0, u32v x0, u32v x1, u32v x2, u32v z4, u32v x4, u32v x5, u32v x6] 42)).drew (.slice (some ⟨w7.heap.size, 0, none⟩) 8 8) (vN s k (wL b 64) (t + 1)).list by
            rw [HST.out]
            exact World.ownsRow_lit w7 #[u32v z0, u32v x0, u32v x1, u32v x2, u32v z4, u32v x4, u32v x5, u32v x6] 8 (Nat.le_trans HO5.out.size HO7.out.size) (by decide) rfl)
          clear m0 m1 m2 m3 m4 m5 m6 m7 g6 g7 HM HST
          go_wp2_with fail
          go_roundw
          case rel => exact ⟨t + 1, by omega, rfl, HRn.out, (HO7.out.alloc _).drew⟩
          case measure => simp [intOf] <;> omega
        · obtain rfl : t = 64 := by omega
          have i1 : decide (((64 : Nat) : Int) < 64) = false := by decide
          obtain ⟨V, hV⟩ : ∃ x, x = vN s k (wL b 64) 64 := ⟨_, rfl⟩
          rw [← hV] at hr
          have HVb := Lib.hid (show (addV V s).list = (blkV s k b).list by rw [hV]; rfl)
          have HOw := Lib.hid (HO5.out.trans hO (fun _ _ c => c))
          have HX := Lib.hid (fun j x hj => hO.cell (HX1.out j x hj) (fun c => c))
          have HBv := Lib.hid hBv
          have HG1 := Lib.hid (fun j x (hj : s.list[j]? = some x) => World.block_lt_of_cell? w _ (HX0.out j x hj))
          have HR := Lib.hid hr
          clear hr hO hxv hV HXW HX1 HX2 HV5 HK HKL HB hlt hltv hcv hl8
          obtain ⟨wq, rfl⟩ : ∃ wq, wq = wr := ⟨_, rfl⟩
          go_wp2_with fail
          go_loopw [19] (fun i wr => ∃ j : Nat, j ≤ 8 ∧ i = .int .i64 (j : Int) ∧ RowW w.heap.size wr (.slice (some ⟨gv, 0, none⟩) 8 cv) (adP V s j) ∧ Off (fun j => j = gv) wq wr) (fun i _ => 8 - (intOf i).toNat)
          case atStart => exact ⟨0, by omega, rfl, HR.out, Off.refl _ _⟩
          case round =>
            obtain ⟨j, hj, rfl, hr, hO⟩ := hrel
            by_cases hlt : j < 8
            · have i1 : decide ((j : Int) < 8) = true := by simp; omega
              have i2 : (j : Int) < 8 := by omega
              have i3 : IntKind.i64.wrap ((j : Int) + 1) = ((j + 1 : Nat) : Int) := by rw [IntKind.wrap_i64]; omega
              obtain ⟨x, hx⟩ : ∃ x, V.list[j]? = some x := ⟨_, List.getElem?_eq_getElem (show j < 8 from hlt)⟩
              obtain ⟨y, hy⟩ : ∃ y, s.list[j]? = some y := ⟨_, List.getElem?_eq_getElem (show j < 8 from hlt)⟩
              have hset := adP_set V s j x y hlt hx hy
              have hr' := hr
              unfold RowW RowT at hr'
              rw [adP_length V s j hj] at hr'
              have hc1 : wr.cell? ⟨gv, j, none⟩ = some (u32v x) := by
                have h := World.ownsRow.cellAt hr' j (by omega)
                rw [h, List.getElem?_map, adP_get V s j hlt, hx]; rfl
              have fz := World.ownsRow.frozenAt hr' j
              have lt := World.block_lt_of_cell? wr _ hc1
              have hg1 : g1 ≠ gv := by
                have h := HG1.out j y hy
                have := HBv.out
                intro e; subst e
                exact absurd (Nat.lt_of_lt_of_le h this) (Nat.lt_irrefl _)
              have hc2 : wr.cell? ⟨g1, off1 + j, none⟩ = some (u32v y) := hO.cell (HX.out j y hy) hg1
              have hst := (World.ownsRow.stored hr' j (u32v ((x + y) % 4294967296))).1
              have hst2 : RowW w.heap.size (wr.setCell ⟨gv, j, none⟩ (u32v ((x + y) % 4294967296))) (.slice (some ⟨gv, 0, none⟩) 8 cv) (adP V s (j + 1)) := by
                unfold RowW RowT
                rw [← hset, List.map_set, List.length_set, adP_length V s j hj]
                exact hst
              have e1 : IntKind.u32.wrap ((x : Int) + (y : Int)) = (((x + y) % 4294967296 : Nat) : Int) := by rw [IntKind.wrap_u32]; omega
              obtain ⟨z, hz⟩ : ∃ z, z = (x + y) % 4294967296 := ⟨_, rfl⟩
              rw [← hz] at e1 hst2
              have HST := Lib.hid hst2
              have HO := Lib.hid (hO.setCell (p := ⟨gv, j, none⟩) (fun _ => rfl) (u32v z))
              clear hst hst2 hO hx hy hz hset hr hr'
              go_upto_region 24 with fail
              go_region
              go_wp2_with fail
              go_roundw
              case rel => exact ⟨j + 1, by omega, rfl, HST.out, HO.out.drew⟩
              case measure => simp [intOf] <;> omega
            · obtain rfl : j = 8 := by omega
              have i1 : decide (((8 : Nat) : Int) < 8) = false := by decide
              rw [adP_full, HVb.out] at hr
              have hv := hr.lv (show 0 < 8 by decide)
              have HV := Lib.hid hv
              have HE := Lib.hid (show Off (fun _ => False) w wr from HOw.out.trans hO (fun k hk e => by subst e; have := HBv.out; omega))
              clear hr hO hv
              go_wp2_with fail
              go_ret
              exact ⟨_, rfl, HV.out, HE.out⟩
theorem blockC : BlockC := by
  intro s k b v1 v2 v3 w hs hk hkl hb hbl h1 h2 h3
  obtain ⟨g, off, cap, rfl, hc, hx⟩ := h3
  rw [hbl] at hc ⊢
  exact block_any s k b v1 v2 g off cap w hs hk hkl hb hbl h1 h2 hc hx
theorem refsum_any (a : Option Addr) (n cap : Nat) (bs : List Nat) (S : Nat → Prop) (w : World) (hb : BsAt w a bs S) (hn : n = bs.length) (hs : Sm bs) (hm : n ≤ 5000) :
    Calls Tryd.prog 12 #[.slice a n cap] w fun e w' => e = .returned (.agg ((shaN bs).map u8v).toArray) ∧ Off (fun _ => False) w w' := refsum_of blockC a n cap bs S w hb hn hs hm
end Go.Proofs.YthjfhgnmaepafaaDoor
