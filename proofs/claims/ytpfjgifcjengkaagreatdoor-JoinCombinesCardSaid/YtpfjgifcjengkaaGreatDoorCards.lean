/-
  DERIVED. GIVEN WITH THE SEED: THE CARDS: each row of YtpfjgifcjengkaaGreatDoorRows.lean that lists a variable, with what it lists TIED to the program's text (the seventh form; the later family's looks); each row that meets fmt, with fmt's text TOLD by the authors' own Lean function (tested against real Go, not proved from fmt's source: count such statements apart). THE CARD IS WHAT COUNTS. Prove the row's statement (the work); the ties are given (YtpfjgifcjengkaaGreatDoorTie.lean); close each card by the builder's one call (the guide's Derived/Test/ToyasCard.lean, 'card_holds'). Laid BY PROGRAM, IN A SANDBOX (cutbox-door.mjs). By AI agents, Wed Nov 11 2026. No macro, syntax, notation, axiom, sorry.
-/
import Derived.Test.YtpfjgifcjengkaaGreatDoorRows
import GoSem.ClaimSeven
namespace Go.Proofs.YtpfjgifcjengkaaGreatDoor
namespace Rows

/-- THE TIED CARD OF 'sharecorelaw17.JoinValues'. -/
def joinValuesCard : Claim7 := { stood := { row := joinValuesRow, standIns := [], harness := (true, "7bce38bddea7484173693267af3896808f2e64751bf740681a295740933c261b"), looks := false }, kinds := [], alts := [], laidByText := true, laidKinds := [.data], laidTests := true, laidLooks := .later }
def JoinValuesCardSaid : Prop := Claim7.holds Tryz.pinned (.plain (OpenSpec.ofChange joinValuesSpec)) joinValuesCard

/-- THE TIED CARD OF 'sharecorelaw17.JoinCombines'. -/
def joinCombinesCard : Claim7 := { stood := { row := joinCombinesRow, standIns := [], harness := (true, "7bce38bddea7484173693267af3896808f2e64751bf740681a295740933c261b"), looks := false }, kinds := [], alts := [], laidByText := true, laidKinds := [.data], laidTests := true, laidLooks := .later }
def JoinCombinesCardSaid : Prop := Claim7.holds Tryz.pinned (.plain (OpenSpec.ofChange joinCombinesSpec)) joinCombinesCard

/-- THE TIED CARD OF 'sharecorelaw17.JoinAt'. -/
def joinAtCard : Claim7 := { stood := { row := joinAtRow, standIns := [], harness := (true, "7bce38bddea7484173693267af3896808f2e64751bf740681a295740933c261b"), looks := false }, kinds := [], alts := [], laidByText := true, laidKinds := [.data], laidTests := true, laidLooks := .later }
def JoinAtCardSaid : Prop := Claim7.holds Tryz.pinned (.plain (OpenSpec.ofChange joinAtSpec)) joinAtCard

/-- THE TIED CARD OF 'sharecorelaw17.JoinEvents'. -/
def joinEventsCard : Claim7 := { stood := { row := joinEventsRow, standIns := [], harness := (true, "7bce38bddea7484173693267af3896808f2e64751bf740681a295740933c261b"), looks := false }, kinds := [], alts := [], laidByText := true, laidKinds := [.data], laidTests := true, laidLooks := .later }
def JoinEventsCardSaid : Prop := Claim7.holds Tryz.pinned (.plain (OpenSpec.ofChange joinEventsSpec)) joinEventsCard

/-- THE TIED CARD OF 'sharecorelaw17.JoinRecovers'. -/
def joinRecoversCard : Claim7 := { stood := { row := joinRecoversRow, standIns := [], harness := (true, "7bce38bddea7484173693267af3896808f2e64751bf740681a295740933c261b"), looks := false }, kinds := [], alts := [], laidByText := true, laidKinds := [.data], laidTests := true, laidLooks := .later }
def JoinRecoversCardSaid : Prop := Claim7.holds Tryz.pinned (.plain (OpenSpec.ofChange joinRecoversSpec)) joinRecoversCard

/-- THE TIED CARD OF 'sharecorelaw17.JoinExtends'. -/
def joinExtendsCard : Claim7 := { stood := { row := joinExtendsRow, standIns := [], harness := (true, "7bce38bddea7484173693267af3896808f2e64751bf740681a295740933c261b"), looks := false }, kinds := [], alts := [], laidByText := true, laidKinds := [.data], laidTests := true, laidLooks := .later }
def JoinExtendsCardSaid : Prop := Claim7.holds Tryz.pinned (.plain (OpenSpec.ofChange joinExtendsSpec)) joinExtendsCard

/-- THE SECOND FORM's CARD OF 'sharecorelaw17.JoinValues'. -/
def joinValuesUptoCard : Claim7 := { stood := { row := joinValuesUptoRow, standIns := [], harness := (true, "7bce38bddea7484173693267af3896808f2e64751bf740681a295740933c261b"), looks := false }, kinds := [], alts := [], laidByText := true, laidKinds := [.data], laidTests := true, laidLooks := .later }
def JoinValuesUptoCardSaid : Prop := Claim7.holds Tryz.pinned (.plain (OpenSpec.upto joinValuesSpec)) joinValuesUptoCard

/-- THE SECOND FORM's CARD OF 'sharecorelaw17.JoinCombines'. -/
def joinCombinesUptoCard : Claim7 := { stood := { row := joinCombinesUptoRow, standIns := [], harness := (true, "7bce38bddea7484173693267af3896808f2e64751bf740681a295740933c261b"), looks := false }, kinds := [], alts := [], laidByText := true, laidKinds := [.data], laidTests := true, laidLooks := .later }
def JoinCombinesUptoCardSaid : Prop := Claim7.holds Tryz.pinned (.plain (OpenSpec.upto joinCombinesSpec)) joinCombinesUptoCard

/-- THE SECOND FORM's CARD OF 'sharecorelaw17.JoinAt'. -/
def joinAtUptoCard : Claim7 := { stood := { row := joinAtUptoRow, standIns := [], harness := (true, "7bce38bddea7484173693267af3896808f2e64751bf740681a295740933c261b"), looks := false }, kinds := [], alts := [], laidByText := true, laidKinds := [.data], laidTests := true, laidLooks := .later }
def JoinAtUptoCardSaid : Prop := Claim7.holds Tryz.pinned (.plain (OpenSpec.upto joinAtSpec)) joinAtUptoCard

/-- THE SECOND FORM's CARD OF 'sharecorelaw17.JoinEvents'. -/
def joinEventsUptoCard : Claim7 := { stood := { row := joinEventsUptoRow, standIns := [], harness := (true, "7bce38bddea7484173693267af3896808f2e64751bf740681a295740933c261b"), looks := false }, kinds := [], alts := [], laidByText := true, laidKinds := [.data], laidTests := true, laidLooks := .later }
def JoinEventsUptoCardSaid : Prop := Claim7.holds Tryz.pinned (.plain (OpenSpec.upto joinEventsSpec)) joinEventsUptoCard

/-- THE SECOND FORM's CARD OF 'sharecorelaw17.JoinRecovers'. -/
def joinRecoversUptoCard : Claim7 := { stood := { row := joinRecoversUptoRow, standIns := [], harness := (true, "7bce38bddea7484173693267af3896808f2e64751bf740681a295740933c261b"), looks := false }, kinds := [], alts := [], laidByText := true, laidKinds := [.data], laidTests := true, laidLooks := .later }
def JoinRecoversUptoCardSaid : Prop := Claim7.holds Tryz.pinned (.plain (OpenSpec.upto joinRecoversSpec)) joinRecoversUptoCard

/-- THE SECOND FORM's CARD OF 'sharecorelaw17.JoinExtends'. -/
def joinExtendsUptoCard : Claim7 := { stood := { row := joinExtendsUptoRow, standIns := [], harness := (true, "7bce38bddea7484173693267af3896808f2e64751bf740681a295740933c261b"), looks := false }, kinds := [], alts := [], laidByText := true, laidKinds := [.data], laidTests := true, laidLooks := .later }
def JoinExtendsUptoCardSaid : Prop := Claim7.holds Tryz.pinned (.plain (OpenSpec.upto joinExtendsSpec)) joinExtendsUptoCard
end Rows
end Go.Proofs.YtpfjgifcjengkaaGreatDoor
