/-
  DERIVED. GIVEN WITH THE SEED: THE CARDS: each row of YtggebccgiigboaaDoorRows.lean that lists a variable, with what it lists TIED to the program's text (the seventh form; the later family's looks); each row that meets fmt, with fmt's text TOLD by the authors' own Lean function (tested against real Go, not proved from fmt's source: count such statements apart). THE CARD IS WHAT COUNTS. Prove the row's statement (the work); the ties are given (YtggebccgiigboaaDoorTie.lean); close each card by the builder's one call (the guide's Derived/Test/ToyasCard.lean, 'card_holds'). Laid BY PROGRAM, IN A SANDBOX (cutbox-door.mjs). By AI agents, Wed Nov 11 2026. No macro, syntax, notation, axiom, sorry.
-/
import Derived.Test.YtggebccgiigboaaDoorRows
import GoSem.ClaimSeven
namespace Go.Proofs.YtggebccgiigboaaDoor
namespace Rows

/-- THE TIED CARD OF 'sharecorelaw10.DegreeFits'. -/
def degreeFitsCard : Claim7 := { stood := { row := degreeFitsRow, standIns := [], harness := (true, "427388ff9568da068c566f01fbebe31ca7ddb5823de2019176b8fd8e2e10c0e0"), looks := false }, kinds := [], alts := [], laidByText := true, laidKinds := [.data], laidTests := true, laidLooks := .later }
def DegreeFitsCardSaid : Prop := Claim7.holds Tryd.pinned (.plain (OpenSpec.ofChange degreeFitsSpec)) degreeFitsCard

/-- THE TIED CARD OF 'sharecorelaw10.DegreeAll'. -/
def degreeAllCard : Claim7 := { stood := { row := degreeAllRow, standIns := [], harness := (true, "427388ff9568da068c566f01fbebe31ca7ddb5823de2019176b8fd8e2e10c0e0"), looks := false }, kinds := [], alts := [], laidByText := true, laidKinds := [.data], laidTests := true, laidLooks := .later }
def DegreeAllCardSaid : Prop := Claim7.holds Tryd.pinned (.plain (OpenSpec.ofChange degreeAllSpec)) degreeAllCard

/-- THE TIED CARD OF 'sharecorelaw10.DegreeEvents'. -/
def degreeEventsCard : Claim7 := { stood := { row := degreeEventsRow, standIns := [], harness := (true, "427388ff9568da068c566f01fbebe31ca7ddb5823de2019176b8fd8e2e10c0e0"), looks := false }, kinds := [], alts := [], laidByText := true, laidKinds := [.data], laidTests := true, laidLooks := .later }
def DegreeEventsCardSaid : Prop := Claim7.holds Tryd.pinned (.plain (OpenSpec.ofChange degreeEventsSpec)) degreeEventsCard

/-- THE TIED CARD OF 'sharecorelaw10.DegreeAccepts'. -/
def degreeAcceptsCard : Claim7 := { stood := { row := degreeAcceptsRow, standIns := [], harness := (true, "427388ff9568da068c566f01fbebe31ca7ddb5823de2019176b8fd8e2e10c0e0"), looks := false }, kinds := [], alts := [], laidByText := true, laidKinds := [.data], laidTests := true, laidLooks := .later }
def DegreeAcceptsCardSaid : Prop := Claim7.holds Tryd.pinned (.plain (OpenSpec.ofChange degreeAcceptsSpec)) degreeAcceptsCard

/-- THE TIED CARD OF 'sharecorelaw10.DegreeRejects'. -/
def degreeRejectsCard : Claim7 := { stood := { row := degreeRejectsRow, standIns := [], harness := (true, "427388ff9568da068c566f01fbebe31ca7ddb5823de2019176b8fd8e2e10c0e0"), looks := false }, kinds := [], alts := [], laidByText := true, laidKinds := [.data], laidTests := true, laidLooks := .later }
def DegreeRejectsCardSaid : Prop := Claim7.holds Tryd.pinned (.plain (OpenSpec.ofChange degreeRejectsSpec)) degreeRejectsCard

/-- THE SECOND FORM's CARD OF 'sharecorelaw10.DegreeFits'. -/
def degreeFitsUptoCard : Claim7 := { stood := { row := degreeFitsUptoRow, standIns := [], harness := (true, "427388ff9568da068c566f01fbebe31ca7ddb5823de2019176b8fd8e2e10c0e0"), looks := false }, kinds := [], alts := [], laidByText := true, laidKinds := [.data], laidTests := true, laidLooks := .later }
def DegreeFitsUptoCardSaid : Prop := Claim7.holds Tryd.pinned (.plain (OpenSpec.upto degreeFitsSpec)) degreeFitsUptoCard

/-- THE SECOND FORM's CARD OF 'sharecorelaw10.DegreeAll'. -/
def degreeAllUptoCard : Claim7 := { stood := { row := degreeAllUptoRow, standIns := [], harness := (true, "427388ff9568da068c566f01fbebe31ca7ddb5823de2019176b8fd8e2e10c0e0"), looks := false }, kinds := [], alts := [], laidByText := true, laidKinds := [.data], laidTests := true, laidLooks := .later }
def DegreeAllUptoCardSaid : Prop := Claim7.holds Tryd.pinned (.plain (OpenSpec.upto degreeAllSpec)) degreeAllUptoCard

/-- THE SECOND FORM's CARD OF 'sharecorelaw10.DegreeEvents'. -/
def degreeEventsUptoCard : Claim7 := { stood := { row := degreeEventsUptoRow, standIns := [], harness := (true, "427388ff9568da068c566f01fbebe31ca7ddb5823de2019176b8fd8e2e10c0e0"), looks := false }, kinds := [], alts := [], laidByText := true, laidKinds := [.data], laidTests := true, laidLooks := .later }
def DegreeEventsUptoCardSaid : Prop := Claim7.holds Tryd.pinned (.plain (OpenSpec.upto degreeEventsSpec)) degreeEventsUptoCard

/-- THE SECOND FORM's CARD OF 'sharecorelaw10.DegreeAccepts'. -/
def degreeAcceptsUptoCard : Claim7 := { stood := { row := degreeAcceptsUptoRow, standIns := [], harness := (true, "427388ff9568da068c566f01fbebe31ca7ddb5823de2019176b8fd8e2e10c0e0"), looks := false }, kinds := [], alts := [], laidByText := true, laidKinds := [.data], laidTests := true, laidLooks := .later }
def DegreeAcceptsUptoCardSaid : Prop := Claim7.holds Tryd.pinned (.plain (OpenSpec.upto degreeAcceptsSpec)) degreeAcceptsUptoCard

/-- THE SECOND FORM's CARD OF 'sharecorelaw10.DegreeRejects'. -/
def degreeRejectsUptoCard : Claim7 := { stood := { row := degreeRejectsUptoRow, standIns := [], harness := (true, "427388ff9568da068c566f01fbebe31ca7ddb5823de2019176b8fd8e2e10c0e0"), looks := false }, kinds := [], alts := [], laidByText := true, laidKinds := [.data], laidTests := true, laidLooks := .later }
def DegreeRejectsUptoCardSaid : Prop := Claim7.holds Tryd.pinned (.plain (OpenSpec.upto degreeRejectsSpec)) degreeRejectsUptoCard
end Rows
end Go.Proofs.YtggebccgiigboaaDoor
