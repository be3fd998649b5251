/-
  DERIVED. GIVEN WITH THE SEED: THE CARDS: each row of YtpekmoegmdfmpaaDoorRows.lean that lists a variable, with what it lists TIED to the program's text (the seventh form; the later family's looks); each row that meets fmt, with fmt's text TOLD by the authors' own Lean function (tested against real Go, not proved from fmt's source: count such statements apart). THE CARD IS WHAT COUNTS. Prove the row's statement (the work); the ties are given (YtpekmoegmdfmpaaDoorTie.lean); close each card by the builder's one call (the guide's Derived/Test/ToyasCard.lean, 'card_holds'). Laid BY PROGRAM, IN A SANDBOX (cutbox-door.mjs). By AI agents, Wed Nov 11 2026. No macro, syntax, notation, axiom, sorry.
-/
import Derived.Test.YtpekmoegmdfmpaaDoorRows
import GoSem.ClaimSeven
namespace Go.Proofs.YtpekmoegmdfmpaaDoor
namespace Rows

/-- THE TIED CARD OF 'sharecorelaw05.MontMultiplies'. -/
def montMultipliesCard : Claim7 := { stood := { row := montMultipliesRow, standIns := [], harness := (true, "4c6eef73345a3410bd4bab3dc88cb1ebf74aad4678ff4b3ba42a5157f493b774"), looks := false }, kinds := [], alts := [], laidByText := true, laidKinds := [.data], laidTests := true, laidLooks := .later }
def MontMultipliesCardSaid : Prop := Claim7.holds Tryd.pinned (.plain (OpenSpec.ofChange montMultipliesSpec)) montMultipliesCard

/-- THE TIED CARD OF 'sharecorelaw05.MontAdds'. -/
def montAddsCard : Claim7 := { stood := { row := montAddsRow, standIns := [], harness := (true, "4c6eef73345a3410bd4bab3dc88cb1ebf74aad4678ff4b3ba42a5157f493b774"), looks := false }, kinds := [], alts := [], laidByText := true, laidKinds := [.data], laidTests := true, laidLooks := .later }
def MontAddsCardSaid : Prop := Claim7.holds Tryd.pinned (.plain (OpenSpec.ofChange montAddsSpec)) montAddsCard

/-- THE TIED CARD OF 'sharecorelaw05.MontConverts'. -/
def montConvertsCard : Claim7 := { stood := { row := montConvertsRow, standIns := [], harness := (true, "4c6eef73345a3410bd4bab3dc88cb1ebf74aad4678ff4b3ba42a5157f493b774"), looks := false }, kinds := [], alts := [], laidByText := true, laidKinds := [.data], laidTests := true, laidLooks := .later }
def MontConvertsCardSaid : Prop := Claim7.holds Tryd.pinned (.plain (OpenSpec.ofChange montConvertsSpec)) montConvertsCard

/-- THE TIED CARD OF 'sharecorelaw05.MontChooses'. -/
def montChoosesCard : Claim7 := { stood := { row := montChoosesRow, standIns := [], harness := (true, "4c6eef73345a3410bd4bab3dc88cb1ebf74aad4678ff4b3ba42a5157f493b774"), looks := false }, kinds := [], alts := [], laidByText := true, laidKinds := [.data], laidTests := true, laidLooks := .later }
def MontChoosesCardSaid : Prop := Claim7.holds Tryd.pinned (.plain (OpenSpec.ofChange montChoosesSpec)) montChoosesCard

/-- THE TIED CARD OF 'sharecorelaw05.MontIsRing'. -/
def montIsRingCard : Claim7 := { stood := { row := montIsRingRow, standIns := [], harness := (true, "4c6eef73345a3410bd4bab3dc88cb1ebf74aad4678ff4b3ba42a5157f493b774"), looks := false }, kinds := [], alts := [], laidByText := true, laidKinds := [.data], laidTests := true, laidLooks := .later }
def MontIsRingCardSaid : Prop := Claim7.holds Tryd.pinned (.plain (OpenSpec.ofChange montIsRingSpec)) montIsRingCard

/-- THE TIED CARD OF 'sharecorelaw05.MontStaysBelow'. -/
def montStaysBelowCard : Claim7 := { stood := { row := montStaysBelowRow, standIns := [], harness := (true, "4c6eef73345a3410bd4bab3dc88cb1ebf74aad4678ff4b3ba42a5157f493b774"), looks := false }, kinds := [], alts := [], laidByText := true, laidKinds := [.data], laidTests := true, laidLooks := .later }
def MontStaysBelowCardSaid : Prop := Claim7.holds Tryd.pinned (.plain (OpenSpec.ofChange montStaysBelowSpec)) montStaysBelowCard

/-- THE SECOND FORM's CARD OF 'sharecorelaw05.MontMultiplies'. -/
def montMultipliesUptoCard : Claim7 := { stood := { row := montMultipliesUptoRow, standIns := [], harness := (true, "4c6eef73345a3410bd4bab3dc88cb1ebf74aad4678ff4b3ba42a5157f493b774"), looks := false }, kinds := [], alts := [], laidByText := true, laidKinds := [.data], laidTests := true, laidLooks := .later }
def MontMultipliesUptoCardSaid : Prop := Claim7.holds Tryd.pinned (.plain (OpenSpec.upto montMultipliesSpec)) montMultipliesUptoCard

/-- THE SECOND FORM's CARD OF 'sharecorelaw05.MontAdds'. -/
def montAddsUptoCard : Claim7 := { stood := { row := montAddsUptoRow, standIns := [], harness := (true, "4c6eef73345a3410bd4bab3dc88cb1ebf74aad4678ff4b3ba42a5157f493b774"), looks := false }, kinds := [], alts := [], laidByText := true, laidKinds := [.data], laidTests := true, laidLooks := .later }
def MontAddsUptoCardSaid : Prop := Claim7.holds Tryd.pinned (.plain (OpenSpec.upto montAddsSpec)) montAddsUptoCard

/-- THE SECOND FORM's CARD OF 'sharecorelaw05.MontConverts'. -/
def montConvertsUptoCard : Claim7 := { stood := { row := montConvertsUptoRow, standIns := [], harness := (true, "4c6eef73345a3410bd4bab3dc88cb1ebf74aad4678ff4b3ba42a5157f493b774"), looks := false }, kinds := [], alts := [], laidByText := true, laidKinds := [.data], laidTests := true, laidLooks := .later }
def MontConvertsUptoCardSaid : Prop := Claim7.holds Tryd.pinned (.plain (OpenSpec.upto montConvertsSpec)) montConvertsUptoCard

/-- THE SECOND FORM's CARD OF 'sharecorelaw05.MontChooses'. -/
def montChoosesUptoCard : Claim7 := { stood := { row := montChoosesUptoRow, standIns := [], harness := (true, "4c6eef73345a3410bd4bab3dc88cb1ebf74aad4678ff4b3ba42a5157f493b774"), looks := false }, kinds := [], alts := [], laidByText := true, laidKinds := [.data], laidTests := true, laidLooks := .later }
def MontChoosesUptoCardSaid : Prop := Claim7.holds Tryd.pinned (.plain (OpenSpec.upto montChoosesSpec)) montChoosesUptoCard

/-- THE SECOND FORM's CARD OF 'sharecorelaw05.MontIsRing'. -/
def montIsRingUptoCard : Claim7 := { stood := { row := montIsRingUptoRow, standIns := [], harness := (true, "4c6eef73345a3410bd4bab3dc88cb1ebf74aad4678ff4b3ba42a5157f493b774"), looks := false }, kinds := [], alts := [], laidByText := true, laidKinds := [.data], laidTests := true, laidLooks := .later }
def MontIsRingUptoCardSaid : Prop := Claim7.holds Tryd.pinned (.plain (OpenSpec.upto montIsRingSpec)) montIsRingUptoCard

/-- THE SECOND FORM's CARD OF 'sharecorelaw05.MontStaysBelow'. -/
def montStaysBelowUptoCard : Claim7 := { stood := { row := montStaysBelowUptoRow, standIns := [], harness := (true, "4c6eef73345a3410bd4bab3dc88cb1ebf74aad4678ff4b3ba42a5157f493b774"), looks := false }, kinds := [], alts := [], laidByText := true, laidKinds := [.data], laidTests := true, laidLooks := .later }
def MontStaysBelowUptoCardSaid : Prop := Claim7.holds Tryd.pinned (.plain (OpenSpec.upto montStaysBelowSpec)) montStaysBelowUptoCard
end Rows
end Go.Proofs.YtpekmoegmdfmpaaDoor
