/-
  DERIVED. GIVEN WITH THE SEED: THE CARDS: each row of YtclknpkjnkgejaaDoorRows.lean that lists a variable, with what it lists TIED to the program's text (the seventh form; the later family's looks); each row that meets fmt, with fmt's text TOLD by the authors' own Lean function (tested against real Go, not proved from fmt's source: count such statements apart). THE CARD IS WHAT COUNTS. Prove the row's statement (the work); the ties are given (YtclknpkjnkgejaaDoorTie.lean); close each card by the builder's one call (the guide's Derived/Test/ToyasCard.lean, 'card_holds'). Laid BY PROGRAM, IN A SANDBOX (cutbox-door.mjs). By AI agents, Wed Nov 11 2026. No macro, syntax, notation, axiom, sorry.
-/
import Derived.Test.YtclknpkjnkgejaaDoorRows
import GoSem.ClaimSeven
namespace Go.Proofs.YtclknpkjnkgejaaDoor
namespace Rows

/-- THE TIED CARD OF 'sharecorelaw07.BytecodeEncodes'. -/
def bytecodeEncodesCard : Claim7 := { stood := { row := bytecodeEncodesRow, standIns := [], harness := (true, "0501a0b72a99cfb9ca1ff1f7e0f7f908ab47c28911e2dcee8a79923f14811295"), looks := false }, kinds := [], alts := [], laidByText := true, laidKinds := [.data], laidTests := true, laidLooks := .later }
def BytecodeEncodesCardSaid : Prop := Claim7.holds Tryd.pinned (.plain (OpenSpec.ofChange bytecodeEncodesSpec)) bytecodeEncodesCard

/-- THE TIED CARD OF 'sharecorelaw07.BytecodeDecodes'. -/
def bytecodeDecodesCard : Claim7 := { stood := { row := bytecodeDecodesRow, standIns := [], harness := (true, "0501a0b72a99cfb9ca1ff1f7e0f7f908ab47c28911e2dcee8a79923f14811295"), looks := false }, kinds := [], alts := [], laidByText := true, laidKinds := [.data], laidTests := true, laidLooks := .later }
def BytecodeDecodesCardSaid : Prop := Claim7.holds Tryd.pinned (.plain (OpenSpec.ofChange bytecodeDecodesSpec)) bytecodeDecodesCard

/-- THE TIED CARD OF 'sharecorelaw07.BytecodeReduces'. -/
def bytecodeReducesCard : Claim7 := { stood := { row := bytecodeReducesRow, standIns := [], harness := (true, "0501a0b72a99cfb9ca1ff1f7e0f7f908ab47c28911e2dcee8a79923f14811295"), looks := false }, kinds := [], alts := [], laidByText := true, laidKinds := [.data], laidTests := true, laidLooks := .later }
def BytecodeReducesCardSaid : Prop := Claim7.holds Tryd.pinned (.plain (OpenSpec.ofChange bytecodeReducesSpec)) bytecodeReducesCard

/-- THE TIED CARD OF 'sharecorelaw07.BytecodePacks'. -/
def bytecodePacksCard : Claim7 := { stood := { row := bytecodePacksRow, standIns := [], harness := (true, "0501a0b72a99cfb9ca1ff1f7e0f7f908ab47c28911e2dcee8a79923f14811295"), looks := false }, kinds := [], alts := [], laidByText := true, laidKinds := [.data], laidTests := true, laidLooks := .later }
def BytecodePacksCardSaid : Prop := Claim7.holds Tryd.pinned (.plain (OpenSpec.ofChange bytecodePacksSpec)) bytecodePacksCard

/-- THE TIED CARD OF 'sharecorelaw07.BytecodeUnpacks'. -/
def bytecodeUnpacksCard : Claim7 := { stood := { row := bytecodeUnpacksRow, standIns := [], harness := (true, "0501a0b72a99cfb9ca1ff1f7e0f7f908ab47c28911e2dcee8a79923f14811295"), looks := false }, kinds := [], alts := [], laidByText := true, laidKinds := [.data], laidTests := true, laidLooks := .later }
def BytecodeUnpacksCardSaid : Prop := Claim7.holds Tryd.pinned (.plain (OpenSpec.ofChange bytecodeUnpacksSpec)) bytecodeUnpacksCard

/-- THE TIED CARD OF 'sharecorelaw07.BytecodeAdds'. -/
def bytecodeAddsCard : Claim7 := { stood := { row := bytecodeAddsRow, standIns := [], harness := (true, "0501a0b72a99cfb9ca1ff1f7e0f7f908ab47c28911e2dcee8a79923f14811295"), looks := false }, kinds := [], alts := [], laidByText := true, laidKinds := [.data], laidTests := true, laidLooks := .later }
def BytecodeAddsCardSaid : Prop := Claim7.holds Tryd.pinned (.plain (OpenSpec.ofChange bytecodeAddsSpec)) bytecodeAddsCard

/-- THE SECOND FORM's CARD OF 'sharecorelaw07.BytecodeEncodes'. -/
def bytecodeEncodesUptoCard : Claim7 := { stood := { row := bytecodeEncodesUptoRow, standIns := [], harness := (true, "0501a0b72a99cfb9ca1ff1f7e0f7f908ab47c28911e2dcee8a79923f14811295"), looks := false }, kinds := [], alts := [], laidByText := true, laidKinds := [.data], laidTests := true, laidLooks := .later }
def BytecodeEncodesUptoCardSaid : Prop := Claim7.holds Tryd.pinned (.plain (OpenSpec.upto bytecodeEncodesSpec)) bytecodeEncodesUptoCard

/-- THE SECOND FORM's CARD OF 'sharecorelaw07.BytecodeDecodes'. -/
def bytecodeDecodesUptoCard : Claim7 := { stood := { row := bytecodeDecodesUptoRow, standIns := [], harness := (true, "0501a0b72a99cfb9ca1ff1f7e0f7f908ab47c28911e2dcee8a79923f14811295"), looks := false }, kinds := [], alts := [], laidByText := true, laidKinds := [.data], laidTests := true, laidLooks := .later }
def BytecodeDecodesUptoCardSaid : Prop := Claim7.holds Tryd.pinned (.plain (OpenSpec.upto bytecodeDecodesSpec)) bytecodeDecodesUptoCard

/-- THE SECOND FORM's CARD OF 'sharecorelaw07.BytecodeReduces'. -/
def bytecodeReducesUptoCard : Claim7 := { stood := { row := bytecodeReducesUptoRow, standIns := [], harness := (true, "0501a0b72a99cfb9ca1ff1f7e0f7f908ab47c28911e2dcee8a79923f14811295"), looks := false }, kinds := [], alts := [], laidByText := true, laidKinds := [.data], laidTests := true, laidLooks := .later }
def BytecodeReducesUptoCardSaid : Prop := Claim7.holds Tryd.pinned (.plain (OpenSpec.upto bytecodeReducesSpec)) bytecodeReducesUptoCard

/-- THE SECOND FORM's CARD OF 'sharecorelaw07.BytecodePacks'. -/
def bytecodePacksUptoCard : Claim7 := { stood := { row := bytecodePacksUptoRow, standIns := [], harness := (true, "0501a0b72a99cfb9ca1ff1f7e0f7f908ab47c28911e2dcee8a79923f14811295"), looks := false }, kinds := [], alts := [], laidByText := true, laidKinds := [.data], laidTests := true, laidLooks := .later }
def BytecodePacksUptoCardSaid : Prop := Claim7.holds Tryd.pinned (.plain (OpenSpec.upto bytecodePacksSpec)) bytecodePacksUptoCard

/-- THE SECOND FORM's CARD OF 'sharecorelaw07.BytecodeUnpacks'. -/
def bytecodeUnpacksUptoCard : Claim7 := { stood := { row := bytecodeUnpacksUptoRow, standIns := [], harness := (true, "0501a0b72a99cfb9ca1ff1f7e0f7f908ab47c28911e2dcee8a79923f14811295"), looks := false }, kinds := [], alts := [], laidByText := true, laidKinds := [.data], laidTests := true, laidLooks := .later }
def BytecodeUnpacksUptoCardSaid : Prop := Claim7.holds Tryd.pinned (.plain (OpenSpec.upto bytecodeUnpacksSpec)) bytecodeUnpacksUptoCard

/-- THE SECOND FORM's CARD OF 'sharecorelaw07.BytecodeAdds'. -/
def bytecodeAddsUptoCard : Claim7 := { stood := { row := bytecodeAddsUptoRow, standIns := [], harness := (true, "0501a0b72a99cfb9ca1ff1f7e0f7f908ab47c28911e2dcee8a79923f14811295"), looks := false }, kinds := [], alts := [], laidByText := true, laidKinds := [.data], laidTests := true, laidLooks := .later }
def BytecodeAddsUptoCardSaid : Prop := Claim7.holds Tryd.pinned (.plain (OpenSpec.upto bytecodeAddsSpec)) bytecodeAddsUptoCard
end Rows
end Go.Proofs.YtclknpkjnkgejaaDoor
