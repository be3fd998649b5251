/-
  Rows of the call's own that hold events or elements, and appends to them; a new tape. Plain facts; no condition.
-/
import Derived.Test.YtclehgconbdkpaaDoorElems
import Derived.Test.YtclehgconbdkpaaDoorInvTape
import Derived.Maps.AppendAt
import Derived.Test.YtclehgconbdkpaaDoorTapeMore
import Derived.Laws.AppendOwn
import Derived.Laws.OwnMore
namespace Go.Proofs.YtclehgconbdkpaaDoor
open Go.RowKit

theorem grown_off {w W w1 : World} {n k size : Nat} {T : TypeId} {v : Value} {xs : List Value} (hO : Off (fun _ => False) w W) (hn : w.heap.size ≤ n) (h : W.ownsRow n T size v k xs) (hg : W.grownBy w1 v.ownBlock) : Off (fun _ => False) w w1 :=
  hO.grown hg (fun j ej => by
    have hx := (h.lt j ej).1
    refine ⟨fun h => by omega, fun o ho => ?_⟩
    rcases h.2 with ⟨rfl, _⟩ | ⟨g, cap, cur, rfl, _, hgb, _⟩
    · simp [Value.ownBlock] at ej
    · obtain rfl : g = j := by simpa [Value.ownBlock] using ej
      rw [hgb] at ho; cases ho; rfl)
theorem words4_at {w : World} {b z : Nat} {T : TypeId} (h : w.heap[b]? = some (.cells #[.int .u64 (wd z 0 : Int), .int .u64 (wd z 1 : Int), .int .u64 (wd z 2 : Int), .int .u64 (wd z 3 : Int)] T (0, 0))) : ∀ j u, (words4 z)[j]? = some u → w.cell? ((⟨b, 0, none⟩ : Addr).add j) = some u := by
  intro j u hj
  rw [Addr.add_lit, Nat.zero_add, cell_of_heap h]
  simpa using hj
theorem append_oper {P : Program} {o : Oper} {a : Act} {w w' : World} {K : Act → World → Prop} {Q : Exit → Act → World → Prop} {s x : Operand} {t : TypeId} {v xv v' : Value}
    (ho : o.op = .call { callee := .builtin .append, args := #[s, x], argTypes := #[t, t] }) (hs : a.eval s = v) (hx : a.eval x = xv) (hr : (Builtin.append_ #[t, t] o.type #[v, xv]).run P w = .ok v' w') (hK : K (a.put o.dst v') w') : o.wp P a w K Q := by
  unfold Oper.wp execOp
  simp only [ho, resolve, invoke, builtin, Sem.run_bind, Sem.run_pure, Result.andThen_ok, List.map_toArray, List.map_cons, List.map_nil, hs, hx, hr]
  exact hK
/-- A row of the call's own that holds elements. -/
theorem ls_of_own {w : World} {base n cap : Nat} {a : Option Addr} {T : TypeId} {ys : List Nat} (h : w.ownsRow base T 4 (.slice a n cap) n (flat4 ys)) (hn : n = ys.length) (hl : n ≤ 100000) : LsAt w (.slice a n cap) ys (fun k => base ≤ k ∧ k < w.heap.size) := by
  refine ⟨a, cap, by rw [hn], by omega, fun hp => ?_⟩
  obtain ⟨m, rfl⟩ : ∃ m, n = m + 1 := ⟨n - 1, by omega⟩
  obtain ⟨g, c, e⟩ := ownsRow_succ h
  simp at e
  obtain ⟨rfl, rfl⟩ := e
  have hc := h.cells (g := g) rfl
  refine ⟨g, 0, rfl, h.lt g rfl, fun j x hx => ?_⟩
  obtain ⟨h0, h1, h2, h3⟩ := flat4_get ys j x hx
  have k0 := hc _ _ h0
  have k1 := hc _ _ h1
  have k2 := hc _ _ h2
  have k3 := hc _ _ h3
  rw [Addr.add_lit] at k0 k1 k2 k3
  exact ⟨k0, by rw [Nat.add_assoc]; exact k1, by rw [Nat.add_assoc]; exact k2, by rw [Nat.add_assoc]; exact k3⟩
/-- A new tape without events. -/
theorem new_tp (w : World) : Calls Tryd.prog 23 #[.slice none 0 0] w fun r w' => r = .returned (.pointer (some ⟨w.heap.size, 0, none⟩)) ∧ Tp w' (some ⟨w.heap.size, 0, none⟩) [] (fun k => w.heap.size ≤ k ∧ k < w'.heap.size) ∧ Off (fun _ => False) w w' := by
  refine (new_any (.slice none 0 0) [] (fun _ => False) w ⟨none, 0, rfl, Nat.le_refl _, by unfold maxLen; omega, fun _ => rfl, fun h => by simp at h⟩ (by simp)).mono ?_
  rintro r w' ⟨rfl, h1, h2⟩
  exact ⟨rfl, ⟨.inr ⟨w.heap.size, rfl, TapeG.mono h1 (fun k hk c => ⟨c, hk⟩)⟩, fun k c => c.2⟩, h2⟩
theorem ext_new (b : Nat) (l : List Ev) : ext (some ⟨b, 0, none⟩) [] l = l := by simp [ext]
theorem words4_one (z : Nat) : ∀ u ∈ words4 z, u.oneCell' = true := by
  intro u hu
  simp only [words4, List.mem_cons, List.not_mem_nil, or_false] at hu
  rcases hu with rfl | rfl | rfl | rfl <;> rfl
theorem own_off {w w' : World} {base size n : Nat} {T : TypeId} {v : Value} {xs : List Value} (h : w.ownsRow base T size v n xs) (ho : Off (fun _ => False) w w') : w'.ownsRow base T size v n xs :=
  h.kept ho.to_grown (by by_cases e : v.ownBlock = none; exact .inl e; exact .inr e)
end Go.Proofs.YtclehgconbdkpaaDoor
