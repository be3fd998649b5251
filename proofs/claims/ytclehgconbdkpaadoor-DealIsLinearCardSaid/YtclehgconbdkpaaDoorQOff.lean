/-
  Regions that draw their order, whose operations only read and whose callees leave the older memory as it was: one walk in the order of the text. Plain facts on the model's regions; no condition.
-/
import Derived.Test.YtclehgconbdkpaaDoorOff
import Derived.Deep.QuietTactic
import Derived.BigQuiet
namespace Go.Proofs.YtclehgconbdkpaaDoor
section
variable {P : Program} {W0 : World} {T : Type} {g : T → World}
/-- The worlds in which the memory of W0 is as it was, numbered by T. -/
structure OffC (W0 : World) (g : T → World) : Prop where
  off : ∀ t, Off (fun _ => False) W0 (g t)
  all : ∀ w, Off (fun _ => False) W0 w → ∃ t, w = g t
theorem OffC.cell (h : OffC W0 g) {p : Addr} {v : Value} (hc : W0.cell? p = some v) (t : T) : (g t).cell? p = some v := (h.off t).cell hc (fun c => c)
/-- A callee's contract, met in one of these worlds. -/
theorem OffC.call (h : OffC W0 g) {f : FuncId} {args : Array Value} {v : Value} {t : T} (hc : Calls P f args (g t) fun e w' => e = .returned v ∧ Off (fun _ => False) (g t) w') :
    Calls P f args (g t) fun e w'' => e = .returned v ∧ ∃ t', w'' = g t' :=
  hc.mono fun _ _ ⟨he, ho⟩ => ⟨he, h.all _ ((h.off t).trans ho (fun _ _ c => c))⟩
/-- The same of a contract that is told of every world in which the memory of W0 is as it was. -/
theorem OffC.call' (h : OffC W0 g) {f : FuncId} {args : Array Value} {v : Value} {t : T} (hc : ∀ W, Off (fun _ => False) W0 W → Calls P f args W fun e w' => e = .returned v ∧ Off (fun _ => False) W w') :
    Calls P f args (g t) fun e w'' => e = .returned v ∧ ∃ t', w'' = g t' := h.call (hc _ (h.off t))
theorem wp_region_off {id : Nat} {Q : Exit → Act → World → Prop} {a : Act} {l : List Oper} (hm : P.follows .mixedOrders = true) (hB : Region.lexB .any l.toArray = true)
    (h : ∀ (T : Type) [Nonempty T] (g : T → World), OffC W0 g → wpQuiet P l.toArray (fun w' => ∃ t, w' = g t) (fun a' => ∀ w', (∃ t, w' = g t) → Q .normal a' w') l a) : (Code.region id l.toArray true).wp P Q a W0 :=
  have : Nonempty {w : World // Off (fun _ => False) W0 w} := ⟨⟨W0, Off.refl _ W0⟩⟩
  wp_region_quiet (C := fun w' => ∃ t : {w : World // Off (fun _ => False) W0 w}, w' = t.1) hm hB ⟨⟨_, (Off.refl _ W0).drew⟩, rfl⟩
    (by simpa using h {w : World // Off (fun _ => False) W0 w} (fun t => t.1) ⟨fun t => t.2, fun w hw => ⟨⟨w, hw⟩, rfl⟩⟩)
end
end Go.Proofs.YtclehgconbdkpaaDoor
