/-
  The contract of (*Tape).Count over this seat's translation: the number of events with the kind. Conditions: the tape lies in memory as TapeV says and has at most 90000 events.
-/
import Derived.Test.YtpaiigapffbinaaTapeIter
namespace Go.Proofs.Ytpaiigapffbinaa
open Go.RowKit Go.Shelf
attribute [local go_sem] Oper.semAt_some wide_fn

def countV (es : List Ev) (k : Int) : Nat := es.countP (fun e => decide (e.1 = k))

theorem countV_snoc (pre : List Ev) (e : Ev) (k : Int) : countV (pre ++ [e]) k = countV pre k + (if e.1 = k then 1 else 0) := by
  unfold countV
  rw [List.countP_append, List.countP_singleton]
  simp

set_option maxRecDepth 100000 in
set_option maxHeartbeats 2000000 in
theorem count_any (p : Option Addr) (es : List Ev) (S : Nat → Prop) (kind : Int) (w : World) (hT : TapeV w (.pointer p) es S) (hl : es.length ≤ 90000) :
    Calls Try.prog 17 #[.pointer p, .int .i64 kind] w fun e W' => e = .returned (.int .i64 (countV es kind : Nat)) ∧ Off (fun _ => False) w W' := by
  refine (callsIn_wide (n := 3)).1 ?_
  refine callsIn_of_wp_marks Try.func17 rfl trivial ?_ rfl
  simp only [Try.ntmps17, List.size_toArray, List.length_cons, List.length_nil, Nat.reduceAdd, Nat.reduceSub, Array.replicate_succ, Array.replicate_zero, List.push_toArray, List.append_toArray, List.nil_append, List.cons_append]
  have HA := fun w => callsIn_wide (n := 3 - 1).2 (after_any p 0 w)
  gi_wp2_with (gi_at_call 27; refine (HA _).mono ?_; rintro e w' ⟨rfl, rfl⟩)
  obtain ⟨W4, hW4⟩ : ∃ W4, W4 = (((w.alloc (.cells #[.int .i64 kind] 3)).alloc (.cells #[.int .i64 0] 3)).alloc (.cells #[.pointer p] 25)).alloc (.cells #[.int .i64 0] 3) := ⟨_, rfl⟩
  have hO : Off (fun _ => False) w W4 := by rw [hW4]; exact ((((Off.refl _ w).alloc _).alloc _).alloc _).alloc _
  have b0 : Boxed W4 w.heap.size 3 (.int .i64 kind) := by rw [hW4]; exact (((Boxed.new w _ _).alloc _).alloc _).alloc _
  have b1 : Boxed W4 (w.heap.size + 1) 3 (.int .i64 0) := by rw [hW4]; have := (Boxed.new (w.alloc (.cells #[.int .i64 kind] 3)) 3 (.int .i64 0)); rw [World.size_alloc] at this; exact (this.alloc _).alloc _
  have b2 : Boxed W4 (w.heap.size + 1 + 1) 25 (.pointer p) := by rw [hW4]; have := (Boxed.new ((w.alloc (.cells #[.int .i64 kind] 3)).alloc (.cells #[.int .i64 0] 3)) 25 (.pointer p)); rw [World.size_alloc, World.size_alloc] at this; exact this.alloc _
  have b3 : Boxed W4 (w.heap.size + 1 + 1 + 1) 3 (.int .i64 0) := by rw [hW4]; have := (Boxed.new (((w.alloc (.cells #[.int .i64 kind] 3)).alloc (.cells #[.int .i64 0] 3)).alloc (.cells #[.pointer p] 25)) 3 (.int .i64 0)); rw [World.size_alloc, World.size_alloc, World.size_alloc] at this; exact this
  have hsz : W4.heap.size = w.heap.size + 1 + 1 + 1 + 1 := by rw [hW4]; simp
  have hT4 : TapeV W4 (.pointer p) es (fun k => k < w.heap.size) := (hT.mono (fun k hk _ => hk)).off hO (fun _ _ _ c => c)
  rw [← hW4]
  clear hW4 hT HA
  obtain ⟨N, hN⟩ : ∃ N, N = w.heap.size := ⟨_, rfl⟩
  rw [← hN] at b0 b1 b2 b3 hsz hT4 ⊢
  have HN := Lib.hid hN
  have hNW : N = w.heap.size := hN
  clear hN
  have hs0 : Src (N + 1 + 1 + 1) (N + 1 + 1) 0 p es (fun k => k < N) W4 := ⟨hT4, b3, b2⟩
  refine wpIn_rangeFunc_ownH (F := Fence.wide) (n := 3) rfl (by omega) (gf := 30) (lb := #[.pointer (some ⟨N + 1 + 1 + 1, 0, none⟩), .pointer (some ⟨N + 1 + 1, 0, none⟩)]) rfl trivial (enters_of Try.func30 (by kernel_rfl) rfl)
    (after_stops (3 - 1) (by omega) (N + 1 + 1 + 1) (N + 1 + 1) 0 p es (Nat.zero_le _) (by omega) _ W4 b3.cell b2.cell hT4) (fun h k x => k (h x)) (fun W l o o' hl h hc hw => rdK_b W l o o' hl h hc hw) (Below.refl _ _) (fun _ => by rfl)
    (fun pre W => Src (N + 1 + 1 + 1) (N + 1 + 1) 0 p es (fun k => k < N) W ∧ Boxed W N 3 (.int .i64 kind) ∧ Boxed W (N + 1) 3 (.int .i64 (countV pre kind : Nat)) ∧ Off (fun _ => False) w W)
    (fun _ _ _ => False)
    (fun pre A B row hs hg hr => ⟨hs.1.kept hg (fun r e => (hr r e).2), Boxed.kept_own hs.2.1 hg (fun r e => (hr r e).2), Boxed.kept_own hs.2.2.1 hg (fun r e => (hr r e).2), hs.2.2.2.later hg (fun r e => by have := (hr r e).1; omega)⟩)
    (fun _ _ _ _ _ hs _ _ => hs)
    ⟨hs0, b0, b1, hO⟩
    (fun x a' W => ∃ B, N + 1 + 1 + 1 + 1 ≤ B ∧ W.heap[B]? = some (.cells #[.int .i64 x.1, .int .i64 x.2.1, .int .i64 x.2.2] 28 (0, 0)) ∧ a' = { tmps := #[.pointer p, .int .i64 kind, undef, .pointer (some ⟨N, 0, none⟩), .int .i64 0, .pointer (some ⟨N + 1, 0, none⟩), .pointer (some ⟨B, 0, none⟩), .pointer p, .func (.func 30) #[] #[.pointer (some ⟨N + 1 + 1 + 1, 0, none⟩), .pointer (some ⟨N + 1 + 1, 0, none⟩)], x.v, undef, undef, undef, undef, undef, undef, undef], defers := [] })
    (fun x a' _ A C row hs hg hr => by
      obtain ⟨B, h1, h2, h3⟩ := hs
      exact ⟨B, h1, (grownBy_keeps_cells hg (fun r e => (hr r e).2) h2 rfl).trans h2, h3⟩)
    ?assign ?body ?done ?stop
  case assign =>
    rintro l pre ⟨ek, ea, eo⟩ W K hI hK
    simp only [Ev.v]
    clear hNW
    obtain ⟨hs, h0, h1, hO'⟩ := hI
    gi_wp2
    have ho := (Off.refl (fun _ => False) W).alloc (.cells #[.int .i64 ek, .int .i64 ea, .int .i64 eo] 28)
    have hs' := hs.off ho (fun _ _ _ c => c) (fun c => c) (fun c => c)
    refine hK _ _ (ho.keeps.from _) (fun _ => hs'.rd (by omega)) ⟨hs', ho.heap h0 (fun c => c), ho.heap h1 (fun c => c), hO'.alloc _⟩ ⟨W.heap.size, ?_, World.alloc_heap_new W _, rfl⟩
    have := hO'.size
    have := hs.2.1.lt
    omega
  case body =>
    rintro l pre ⟨ek, ea, eo⟩ a' W _ _ ⟨hs, h0, h1, hO'⟩ ⟨B, hB, hc, rfl⟩ hlen
    simp only [List.drop_zero] at hlen
    have c0 := cell_of_heap hc 0
    have hc0 : W.cell? ⟨B, 0, none⟩ = some (.int .i64 ek) := by simpa using c0
    have k0 := h0.cell
    have k1 := h1.cell
    have f1 := h1.frozen
    have hcnt : countV pre kind ≤ pre.length := List.countP_le_length
    have HS := Lib.hid hs
    have H0 := Lib.hid h0
    have H1 := Lib.hid h1
    have HO := Lib.hid hO'
    obtain ⟨c, hcc⟩ : ∃ c, c = countV pre kind := ⟨_, rfl⟩
    have HC := Lib.hid hcc
    rw [← hcc] at k1 hcnt
    clear c0 hc hs h0 h1 hO' hcc hNW b0 b1 b2 b3 hs0 hT4 hO
    by_cases hk : ek = kind
    · have HK := Lib.hid hk
      have hk' : (ek == kind) = true := by simp [hk]
      clear hk
      gi_wp2
      have hNW := HN.out
      have hs := HS.out
      have ho : Off (fun k => k = N + 1) W (W.setCell ⟨N + 1, 0, none⟩ (.int .i64 ((c : Int) + 1))) := (Off.refl (fun k => k = N + 1) W).setCell (p := ⟨N + 1, 0, none⟩) (fun _ => rfl) _
      have hs' := hs.off ho (fun k _ hk e => by omega) (by omega) (by omega)
      have hce : countV (pre ++ [(ek, ea, eo)]) kind = c + 1 := by rw [countV_snoc, ← HC.out, if_pos HK.out]
      refine ⟨ho.keeps.from _, fun _ => hs'.rd (by omega), hs', ho.heap H0.out (by omega), ?_, HO.out.setCell (fun h => by simp at h; omega) _⟩
      rw [hce]
      exact Boxed.set _ H1.out
    · have HK := Lib.hid hk
      have hk' : (ek == kind) = false := by simp [hk]
      clear hk
      gi_wp2
      have hce : countV (pre ++ [(ek, ea, eo)]) kind = countV pre kind := by rw [countV_snoc, if_neg HK.out, Nat.add_zero]
      have hs := HS.out
      refine ⟨KeepsFrom.refl _ _, fun h => h, hs, H0.out, ?_, HO.out⟩
      rw [hce]
      exact H1.out
  case done =>
    rintro D ys W hD rfl ⟨hs, h0, h1, hO'⟩ hK
    try simp only [List.drop_zero] at h1
    have k1 := h1.cell
    have hD' : w.heap.size ≤ D := by omega
    clear hNW
    gi_wp2
    refine ⟨by simp, .inl ⟨_, _, rfl, run_takeDeferred hK, ?_⟩⟩
    refine ⟨_, results_tmp rfl _ _ _, rfl, ?_⟩
    exact hO'.later (grownBy_putObj' W D _) (fun r e => by cases e; exact hD')
  case stop =>
    rintro D c pre W _ _ h _
    exact h.elim
end Go.Proofs.Ytpaiigapffbinaa
