/-
  DERIVED. GIVEN WITH THE SEED: THE CARDS: each row of YtbkgghhngeibhaaGreatDoorRows.lean that lists a variable, with what it lists TIED to the program's text (the seventh form; the later family's looks); each row that meets fmt, with fmt's text TOLD by the authors' own Lean function (tested against real Go, not proved from fmt's source: count such statements apart). THE CARD IS WHAT COUNTS. Prove the row's statement (the work); the ties are given (YtbkgghhngeibhaaGreatDoorTie.lean); close each card by the builder's one call (the guide's Derived/Test/ToyasCard.lean, 'card_holds'). Laid BY PROGRAM, IN A SANDBOX (cutbox-door.mjs). By AI agents, Wed Nov 11 2026. No macro, syntax, notation, axiom, sorry.
-/
import Derived.Test.YtbkgghhngeibhaaGreatDoorRows
import GoSem.ClaimSeven
namespace Go.Proofs.YtbkgghhngeibhaaGreatDoor
namespace Rows

/-- THE TIED CARD OF 'sharecorelaw18.AuditConsistent'. -/
def auditConsistentCard : Claim7 := { stood := { row := auditConsistentRow, standIns := [], harness := (true, "0fc5020064acd828dfc8f62f6b9ca55535e9ae70cf342fa538ab833d24d2144e"), looks := false }, kinds := [], alts := [], laidByText := true, laidKinds := [.data], laidTests := true, laidLooks := .later }
def AuditConsistentCardSaid : Prop := Claim7.holds Tryz.pinned (.plain (OpenSpec.ofChange auditConsistentSpec)) auditConsistentCard

/-- THE TIED CARD OF 'sharecorelaw18.AuditChunks'. -/
def auditChunksCard : Claim7 := { stood := { row := auditChunksRow, standIns := [], harness := (true, "0fc5020064acd828dfc8f62f6b9ca55535e9ae70cf342fa538ab833d24d2144e"), looks := false }, kinds := [], alts := [], laidByText := true, laidKinds := [.data], laidTests := true, laidLooks := .later }
def AuditChunksCardSaid : Prop := Claim7.holds Tryz.pinned (.plain (OpenSpec.ofChange auditChunksSpec)) auditChunksCard

/-- THE TIED CARD OF 'sharecorelaw18.AuditSuspects'. -/
def auditSuspectsCard : Claim7 := { stood := { row := auditSuspectsRow, standIns := [], harness := (true, "0fc5020064acd828dfc8f62f6b9ca55535e9ae70cf342fa538ab833d24d2144e"), looks := false }, kinds := [], alts := [], laidByText := true, laidKinds := [.data], laidTests := true, laidLooks := .later }
def AuditSuspectsCardSaid : Prop := Claim7.holds Tryz.pinned (.plain (OpenSpec.ofChange auditSuspectsSpec)) auditSuspectsCard

/-- THE TIED CARD OF 'sharecorelaw18.AuditEvents'. -/
def auditEventsCard : Claim7 := { stood := { row := auditEventsRow, standIns := [], harness := (true, "0fc5020064acd828dfc8f62f6b9ca55535e9ae70cf342fa538ab833d24d2144e"), looks := false }, kinds := [], alts := [], laidByText := true, laidKinds := [.data], laidTests := true, laidLooks := .later }
def AuditEventsCardSaid : Prop := Claim7.holds Tryz.pinned (.plain (OpenSpec.ofChange auditEventsSpec)) auditEventsCard

/-- THE TIED CARD OF 'sharecorelaw18.AuditAccepts'. -/
def auditAcceptsCard : Claim7 := { stood := { row := auditAcceptsRow, standIns := [], harness := (true, "0fc5020064acd828dfc8f62f6b9ca55535e9ae70cf342fa538ab833d24d2144e"), looks := false }, kinds := [], alts := [], laidByText := true, laidKinds := [.data], laidTests := true, laidLooks := .later }
def AuditAcceptsCardSaid : Prop := Claim7.holds Tryz.pinned (.plain (OpenSpec.ofChange auditAcceptsSpec)) auditAcceptsCard

/-- THE TIED CARD OF 'sharecorelaw18.AuditRejects'. -/
def auditRejectsCard : Claim7 := { stood := { row := auditRejectsRow, standIns := [], harness := (true, "0fc5020064acd828dfc8f62f6b9ca55535e9ae70cf342fa538ab833d24d2144e"), looks := false }, kinds := [], alts := [], laidByText := true, laidKinds := [.data], laidTests := true, laidLooks := .later }
def AuditRejectsCardSaid : Prop := Claim7.holds Tryz.pinned (.plain (OpenSpec.ofChange auditRejectsSpec)) auditRejectsCard

/-- THE SECOND FORM's CARD OF 'sharecorelaw18.AuditConsistent'. -/
def auditConsistentUptoCard : Claim7 := { stood := { row := auditConsistentUptoRow, standIns := [], harness := (true, "0fc5020064acd828dfc8f62f6b9ca55535e9ae70cf342fa538ab833d24d2144e"), looks := false }, kinds := [], alts := [], laidByText := true, laidKinds := [.data], laidTests := true, laidLooks := .later }
def AuditConsistentUptoCardSaid : Prop := Claim7.holds Tryz.pinned (.plain (OpenSpec.upto auditConsistentSpec)) auditConsistentUptoCard

/-- THE SECOND FORM's CARD OF 'sharecorelaw18.AuditChunks'. -/
def auditChunksUptoCard : Claim7 := { stood := { row := auditChunksUptoRow, standIns := [], harness := (true, "0fc5020064acd828dfc8f62f6b9ca55535e9ae70cf342fa538ab833d24d2144e"), looks := false }, kinds := [], alts := [], laidByText := true, laidKinds := [.data], laidTests := true, laidLooks := .later }
def AuditChunksUptoCardSaid : Prop := Claim7.holds Tryz.pinned (.plain (OpenSpec.upto auditChunksSpec)) auditChunksUptoCard

/-- THE SECOND FORM's CARD OF 'sharecorelaw18.AuditSuspects'. -/
def auditSuspectsUptoCard : Claim7 := { stood := { row := auditSuspectsUptoRow, standIns := [], harness := (true, "0fc5020064acd828dfc8f62f6b9ca55535e9ae70cf342fa538ab833d24d2144e"), looks := false }, kinds := [], alts := [], laidByText := true, laidKinds := [.data], laidTests := true, laidLooks := .later }
def AuditSuspectsUptoCardSaid : Prop := Claim7.holds Tryz.pinned (.plain (OpenSpec.upto auditSuspectsSpec)) auditSuspectsUptoCard

/-- THE SECOND FORM's CARD OF 'sharecorelaw18.AuditEvents'. -/
def auditEventsUptoCard : Claim7 := { stood := { row := auditEventsUptoRow, standIns := [], harness := (true, "0fc5020064acd828dfc8f62f6b9ca55535e9ae70cf342fa538ab833d24d2144e"), looks := false }, kinds := [], alts := [], laidByText := true, laidKinds := [.data], laidTests := true, laidLooks := .later }
def AuditEventsUptoCardSaid : Prop := Claim7.holds Tryz.pinned (.plain (OpenSpec.upto auditEventsSpec)) auditEventsUptoCard

/-- THE SECOND FORM's CARD OF 'sharecorelaw18.AuditAccepts'. -/
def auditAcceptsUptoCard : Claim7 := { stood := { row := auditAcceptsUptoRow, standIns := [], harness := (true, "0fc5020064acd828dfc8f62f6b9ca55535e9ae70cf342fa538ab833d24d2144e"), looks := false }, kinds := [], alts := [], laidByText := true, laidKinds := [.data], laidTests := true, laidLooks := .later }
def AuditAcceptsUptoCardSaid : Prop := Claim7.holds Tryz.pinned (.plain (OpenSpec.upto auditAcceptsSpec)) auditAcceptsUptoCard

/-- THE SECOND FORM's CARD OF 'sharecorelaw18.AuditRejects'. -/
def auditRejectsUptoCard : Claim7 := { stood := { row := auditRejectsUptoRow, standIns := [], harness := (true, "0fc5020064acd828dfc8f62f6b9ca55535e9ae70cf342fa538ab833d24d2144e"), looks := false }, kinds := [], alts := [], laidByText := true, laidKinds := [.data], laidTests := true, laidLooks := .later }
def AuditRejectsUptoCardSaid : Prop := Claim7.holds Tryz.pinned (.plain (OpenSpec.upto auditRejectsSpec)) auditRejectsUptoCard
end Rows
end Go.Proofs.YtbkgghhngeibhaaGreatDoor
