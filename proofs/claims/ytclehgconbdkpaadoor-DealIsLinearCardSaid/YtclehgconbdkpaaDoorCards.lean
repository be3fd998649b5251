/-
  DERIVED. GIVEN WITH THE SEED: THE CARDS: each row of YtclehgconbdkpaaDoorRows.lean that lists a variable, with what it lists TIED to the program's text (the seventh form; the later family's looks); each row that meets fmt, with fmt's text TOLD by the authors' own Lean function (tested against real Go, not proved from fmt's source: count such statements apart). THE CARD IS WHAT COUNTS. Prove the row's statement (the work); the ties are given (YtclehgconbdkpaaDoorTie.lean); close each card by the builder's one call (the guide's Derived/Test/ToyasCard.lean, 'card_holds'). Laid BY PROGRAM, IN A SANDBOX (cutbox-door.mjs). By AI agents, Wed Nov 11 2026. No macro, syntax, notation, axiom, sorry.
-/
import Derived.Test.YtclehgconbdkpaaDoorRows
import GoSem.ClaimSeven
namespace Go.Proofs.YtclehgconbdkpaaDoor
namespace Rows

/-- THE TIED CARD OF 'sharecorelaw16.DealPolynomials'. -/
def dealPolynomialsCard : Claim7 := { stood := { row := dealPolynomialsRow, standIns := [], harness := (true, "dc9d05a06bd05c20369e2833d9d45cce8227d62a1aa5c978d1cfbc5d369dc45f"), looks := false }, kinds := [], alts := [], laidByText := true, laidKinds := [.data], laidTests := true, laidLooks := .later }
def DealPolynomialsCardSaid : Prop := Claim7.holds Tryd.pinned (.plain (OpenSpec.ofChange dealPolynomialsSpec)) dealPolynomialsCard

/-- THE TIED CARD OF 'sharecorelaw16.DealShares'. -/
def dealSharesCard : Claim7 := { stood := { row := dealSharesRow, standIns := [], harness := (true, "dc9d05a06bd05c20369e2833d9d45cce8227d62a1aa5c978d1cfbc5d369dc45f"), looks := false }, kinds := [], alts := [], laidByText := true, laidKinds := [.data], laidTests := true, laidLooks := .later }
def DealSharesCardSaid : Prop := Claim7.holds Tryd.pinned (.plain (OpenSpec.ofChange dealSharesSpec)) dealSharesCard

/-- THE TIED CARD OF 'sharecorelaw16.DealEvaluates'. -/
def dealEvaluatesCard : Claim7 := { stood := { row := dealEvaluatesRow, standIns := [], harness := (true, "dc9d05a06bd05c20369e2833d9d45cce8227d62a1aa5c978d1cfbc5d369dc45f"), looks := false }, kinds := [], alts := [], laidByText := true, laidKinds := [.data], laidTests := true, laidLooks := .later }
def DealEvaluatesCardSaid : Prop := Claim7.holds Tryd.pinned (.plain (OpenSpec.ofChange dealEvaluatesSpec)) dealEvaluatesCard

/-- THE TIED CARD OF 'sharecorelaw16.DealEvents'. -/
def dealEventsCard : Claim7 := { stood := { row := dealEventsRow, standIns := [], harness := (true, "dc9d05a06bd05c20369e2833d9d45cce8227d62a1aa5c978d1cfbc5d369dc45f"), looks := false }, kinds := [], alts := [], laidByText := true, laidKinds := [.data], laidTests := true, laidLooks := .later }
def DealEventsCardSaid : Prop := Claim7.holds Tryd.pinned (.plain (OpenSpec.ofChange dealEventsSpec)) dealEventsCard

/-- THE TIED CARD OF 'sharecorelaw16.DealIsAccepted'. -/
def dealIsAcceptedCard : Claim7 := { stood := { row := dealIsAcceptedRow, standIns := [], harness := (true, "dc9d05a06bd05c20369e2833d9d45cce8227d62a1aa5c978d1cfbc5d369dc45f"), looks := false }, kinds := [], alts := [], laidByText := true, laidKinds := [.data], laidTests := true, laidLooks := .later }
def DealIsAcceptedCardSaid : Prop := Claim7.holds Tryd.pinned (.plain (OpenSpec.ofChange dealIsAcceptedSpec)) dealIsAcceptedCard

/-- THE TIED CARD OF 'sharecorelaw16.DealIsLinear'. -/
def dealIsLinearCard : Claim7 := { stood := { row := dealIsLinearRow, standIns := [], harness := (true, "dc9d05a06bd05c20369e2833d9d45cce8227d62a1aa5c978d1cfbc5d369dc45f"), looks := false }, kinds := [], alts := [], laidByText := true, laidKinds := [.data], laidTests := true, laidLooks := .later }
def DealIsLinearCardSaid : Prop := Claim7.holds Tryd.pinned (.plain (OpenSpec.ofChange dealIsLinearSpec)) dealIsLinearCard

/-- THE SECOND FORM's CARD OF 'sharecorelaw16.DealPolynomials'. -/
def dealPolynomialsUptoCard : Claim7 := { stood := { row := dealPolynomialsUptoRow, standIns := [], harness := (true, "dc9d05a06bd05c20369e2833d9d45cce8227d62a1aa5c978d1cfbc5d369dc45f"), looks := false }, kinds := [], alts := [], laidByText := true, laidKinds := [.data], laidTests := true, laidLooks := .later }
def DealPolynomialsUptoCardSaid : Prop := Claim7.holds Tryd.pinned (.plain (OpenSpec.upto dealPolynomialsSpec)) dealPolynomialsUptoCard

/-- THE SECOND FORM's CARD OF 'sharecorelaw16.DealShares'. -/
def dealSharesUptoCard : Claim7 := { stood := { row := dealSharesUptoRow, standIns := [], harness := (true, "dc9d05a06bd05c20369e2833d9d45cce8227d62a1aa5c978d1cfbc5d369dc45f"), looks := false }, kinds := [], alts := [], laidByText := true, laidKinds := [.data], laidTests := true, laidLooks := .later }
def DealSharesUptoCardSaid : Prop := Claim7.holds Tryd.pinned (.plain (OpenSpec.upto dealSharesSpec)) dealSharesUptoCard

/-- THE SECOND FORM's CARD OF 'sharecorelaw16.DealEvaluates'. -/
def dealEvaluatesUptoCard : Claim7 := { stood := { row := dealEvaluatesUptoRow, standIns := [], harness := (true, "dc9d05a06bd05c20369e2833d9d45cce8227d62a1aa5c978d1cfbc5d369dc45f"), looks := false }, kinds := [], alts := [], laidByText := true, laidKinds := [.data], laidTests := true, laidLooks := .later }
def DealEvaluatesUptoCardSaid : Prop := Claim7.holds Tryd.pinned (.plain (OpenSpec.upto dealEvaluatesSpec)) dealEvaluatesUptoCard

/-- THE SECOND FORM's CARD OF 'sharecorelaw16.DealEvents'. -/
def dealEventsUptoCard : Claim7 := { stood := { row := dealEventsUptoRow, standIns := [], harness := (true, "dc9d05a06bd05c20369e2833d9d45cce8227d62a1aa5c978d1cfbc5d369dc45f"), looks := false }, kinds := [], alts := [], laidByText := true, laidKinds := [.data], laidTests := true, laidLooks := .later }
def DealEventsUptoCardSaid : Prop := Claim7.holds Tryd.pinned (.plain (OpenSpec.upto dealEventsSpec)) dealEventsUptoCard

/-- THE SECOND FORM's CARD OF 'sharecorelaw16.DealIsAccepted'. -/
def dealIsAcceptedUptoCard : Claim7 := { stood := { row := dealIsAcceptedUptoRow, standIns := [], harness := (true, "dc9d05a06bd05c20369e2833d9d45cce8227d62a1aa5c978d1cfbc5d369dc45f"), looks := false }, kinds := [], alts := [], laidByText := true, laidKinds := [.data], laidTests := true, laidLooks := .later }
def DealIsAcceptedUptoCardSaid : Prop := Claim7.holds Tryd.pinned (.plain (OpenSpec.upto dealIsAcceptedSpec)) dealIsAcceptedUptoCard

/-- THE SECOND FORM's CARD OF 'sharecorelaw16.DealIsLinear'. -/
def dealIsLinearUptoCard : Claim7 := { stood := { row := dealIsLinearUptoRow, standIns := [], harness := (true, "dc9d05a06bd05c20369e2833d9d45cce8227d62a1aa5c978d1cfbc5d369dc45f"), looks := false }, kinds := [], alts := [], laidByText := true, laidKinds := [.data], laidTests := true, laidLooks := .later }
def DealIsLinearUptoCardSaid : Prop := Claim7.holds Tryd.pinned (.plain (OpenSpec.upto dealIsLinearSpec)) dealIsLinearUptoCard
end Rows
end Go.Proofs.YtclehgconbdkpaaDoor
