/-
  DERIVED. GIVEN WITH THE SEED: THE CARDS: each row of YtghacjhempmejaaDoorRows.lean that lists a variable, with what it lists TIED to the program's text (the seventh form; the later family's looks); each row that meets fmt, with fmt's text TOLD by the authors' own Lean function (tested against real Go, not proved from fmt's source: count such statements apart). THE CARD IS WHAT COUNTS. Prove the row's statement (the work); the ties are given (YtghacjhempmejaaDoorTie.lean); close each card by the builder's one call (the guide's Derived/Test/ToyasCard.lean, 'card_holds'). Laid BY PROGRAM, IN A SANDBOX (cutbox-door.mjs). By AI agents, Wed Nov 11 2026. No macro, syntax, notation, axiom, sorry.
-/
import Derived.Test.YtghacjhempmejaaDoorRows
import GoSem.ClaimSeven
namespace Go.Proofs.YtghacjhempmejaaDoor
namespace Rows

/-- THE TIED CARD OF 'sharecorelaw11.DftMultiplies'. -/
def dftMultipliesCard : Claim7 := { stood := { row := dftMultipliesRow, standIns := [], harness := (true, "a54383ae1ec94b8d7a338044b2fb747fa0409bfe29f2e7e860f0f0d16de69d0e"), looks := false }, kinds := [], alts := [], laidByText := true, laidKinds := [.data, .data, .data], laidTests := true, laidLooks := .later }
def DftMultipliesCardSaid : Prop := Claim7.holds Tryd.pinned (.plain (OpenSpec.ofChange dftMultipliesSpec)) dftMultipliesCard

/-- THE TIED CARD OF 'sharecorelaw11.DftRoots'. -/
def dftRootsCard : Claim7 := { stood := { row := dftRootsRow, standIns := [], harness := (true, "a54383ae1ec94b8d7a338044b2fb747fa0409bfe29f2e7e860f0f0d16de69d0e"), looks := false }, kinds := [], alts := [], laidByText := true, laidKinds := [.data, .data, .data], laidTests := true, laidLooks := .later }
def DftRootsCardSaid : Prop := Claim7.holds Tryd.pinned (.plain (OpenSpec.ofChange dftRootsSpec)) dftRootsCard

/-- THE TIED CARD OF 'sharecorelaw11.DftInverts'. -/
def dftInvertsCard : Claim7 := { stood := { row := dftInvertsRow, standIns := [], harness := (true, "a54383ae1ec94b8d7a338044b2fb747fa0409bfe29f2e7e860f0f0d16de69d0e"), looks := false }, kinds := [], alts := [], laidByText := true, laidKinds := [.data, .data, .data], laidTests := true, laidLooks := .later }
def DftInvertsCardSaid : Prop := Claim7.holds Tryd.pinned (.plain (OpenSpec.ofChange dftInvertsSpec)) dftInvertsCard

/-- THE TIED CARD OF 'sharecorelaw11.DftIsLinear'. -/
def dftIsLinearCard : Claim7 := { stood := { row := dftIsLinearRow, standIns := [], harness := (true, "a54383ae1ec94b8d7a338044b2fb747fa0409bfe29f2e7e860f0f0d16de69d0e"), looks := false }, kinds := [], alts := [], laidByText := true, laidKinds := [.data, .data, .data], laidTests := true, laidLooks := .later }
def DftIsLinearCardSaid : Prop := Claim7.holds Tryd.pinned (.plain (OpenSpec.ofChange dftIsLinearSpec)) dftIsLinearCard

/-- THE TIED CARD OF 'sharecorelaw11.DftCommutes'. -/
def dftCommutesCard : Claim7 := { stood := { row := dftCommutesRow, standIns := [], harness := (true, "a54383ae1ec94b8d7a338044b2fb747fa0409bfe29f2e7e860f0f0d16de69d0e"), looks := false }, kinds := [], alts := [], laidByText := true, laidKinds := [.data, .data, .data], laidTests := true, laidLooks := .later }
def DftCommutesCardSaid : Prop := Claim7.holds Tryd.pinned (.plain (OpenSpec.ofChange dftCommutesSpec)) dftCommutesCard

/-- THE TIED CARD OF 'sharecorelaw11.DftDistributes'. -/
def dftDistributesCard : Claim7 := { stood := { row := dftDistributesRow, standIns := [], harness := (true, "a54383ae1ec94b8d7a338044b2fb747fa0409bfe29f2e7e860f0f0d16de69d0e"), looks := false }, kinds := [], alts := [], laidByText := true, laidKinds := [.data, .data, .data], laidTests := true, laidLooks := .later }
def DftDistributesCardSaid : Prop := Claim7.holds Tryd.pinned (.plain (OpenSpec.ofChange dftDistributesSpec)) dftDistributesCard

/-- THE SECOND FORM's CARD OF 'sharecorelaw11.DftMultiplies'. -/
def dftMultipliesUptoCard : Claim7 := { stood := { row := dftMultipliesUptoRow, standIns := [], harness := (true, "a54383ae1ec94b8d7a338044b2fb747fa0409bfe29f2e7e860f0f0d16de69d0e"), looks := false }, kinds := [], alts := [], laidByText := true, laidKinds := [.data, .data, .data], laidTests := true, laidLooks := .later }
def DftMultipliesUptoCardSaid : Prop := Claim7.holds Tryd.pinned (.plain (OpenSpec.upto dftMultipliesSpec)) dftMultipliesUptoCard

/-- THE SECOND FORM's CARD OF 'sharecorelaw11.DftRoots'. -/
def dftRootsUptoCard : Claim7 := { stood := { row := dftRootsUptoRow, standIns := [], harness := (true, "a54383ae1ec94b8d7a338044b2fb747fa0409bfe29f2e7e860f0f0d16de69d0e"), looks := false }, kinds := [], alts := [], laidByText := true, laidKinds := [.data, .data, .data], laidTests := true, laidLooks := .later }
def DftRootsUptoCardSaid : Prop := Claim7.holds Tryd.pinned (.plain (OpenSpec.upto dftRootsSpec)) dftRootsUptoCard

/-- THE SECOND FORM's CARD OF 'sharecorelaw11.DftInverts'. -/
def dftInvertsUptoCard : Claim7 := { stood := { row := dftInvertsUptoRow, standIns := [], harness := (true, "a54383ae1ec94b8d7a338044b2fb747fa0409bfe29f2e7e860f0f0d16de69d0e"), looks := false }, kinds := [], alts := [], laidByText := true, laidKinds := [.data, .data, .data], laidTests := true, laidLooks := .later }
def DftInvertsUptoCardSaid : Prop := Claim7.holds Tryd.pinned (.plain (OpenSpec.upto dftInvertsSpec)) dftInvertsUptoCard

/-- THE SECOND FORM's CARD OF 'sharecorelaw11.DftIsLinear'. -/
def dftIsLinearUptoCard : Claim7 := { stood := { row := dftIsLinearUptoRow, standIns := [], harness := (true, "a54383ae1ec94b8d7a338044b2fb747fa0409bfe29f2e7e860f0f0d16de69d0e"), looks := false }, kinds := [], alts := [], laidByText := true, laidKinds := [.data, .data, .data], laidTests := true, laidLooks := .later }
def DftIsLinearUptoCardSaid : Prop := Claim7.holds Tryd.pinned (.plain (OpenSpec.upto dftIsLinearSpec)) dftIsLinearUptoCard

/-- THE SECOND FORM's CARD OF 'sharecorelaw11.DftCommutes'. -/
def dftCommutesUptoCard : Claim7 := { stood := { row := dftCommutesUptoRow, standIns := [], harness := (true, "a54383ae1ec94b8d7a338044b2fb747fa0409bfe29f2e7e860f0f0d16de69d0e"), looks := false }, kinds := [], alts := [], laidByText := true, laidKinds := [.data, .data, .data], laidTests := true, laidLooks := .later }
def DftCommutesUptoCardSaid : Prop := Claim7.holds Tryd.pinned (.plain (OpenSpec.upto dftCommutesSpec)) dftCommutesUptoCard

/-- THE SECOND FORM's CARD OF 'sharecorelaw11.DftDistributes'. -/
def dftDistributesUptoCard : Claim7 := { stood := { row := dftDistributesUptoRow, standIns := [], harness := (true, "a54383ae1ec94b8d7a338044b2fb747fa0409bfe29f2e7e860f0f0d16de69d0e"), looks := false }, kinds := [], alts := [], laidByText := true, laidKinds := [.data, .data, .data], laidTests := true, laidLooks := .later }
def DftDistributesUptoCardSaid : Prop := Claim7.holds Tryd.pinned (.plain (OpenSpec.upto dftDistributesSpec)) dftDistributesUptoCard
end Rows
end Go.Proofs.YtghacjhempmejaaDoor
