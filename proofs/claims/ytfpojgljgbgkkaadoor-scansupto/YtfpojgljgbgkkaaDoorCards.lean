/-
  DERIVED. GIVEN WITH THE SEED: THE CARDS: each row of YtfpojgljgbgkkaaDoorRows.lean that lists a variable, with what it lists TIED to the program's text (the seventh form; the later family's looks); each row that meets fmt, with fmt's text TOLD by the authors' own Lean function (tested against real Go, not proved from fmt's source: count such statements apart). THE CARD IS WHAT COUNTS. Prove the row's statement (the work); the ties are given (YtfpojgljgbgkkaaDoorTie.lean); close each card by the builder's one call (the guide's Derived/Test/ToyasCard.lean, 'card_holds'). Laid BY PROGRAM, IN A SANDBOX (cutbox-door.mjs). By AI agents, Wed Nov 11 2026. No macro, syntax, notation, axiom, sorry.
-/
import Derived.Test.YtfpojgljgbgkkaaDoorRows
import GoSem.ClaimSeven
namespace Go.Proofs.YtfpojgljgbgkkaaDoor
namespace Rows

/-- THE TIED CARD OF 'accordlaw.Messages'. -/
def messagesCard : Claim7 := { stood := { row := messagesRow, standIns := [], harness := (true, "e3cd2ab4baf8c61c5374da32e41be38051ae0355542dd10d173ee0f2b9818175"), looks := true }, kinds := [], alts := [], laidByText := true, laidKinds := [.sentinel, .sentinel, .sentinel, .sentinel, .sentinel, .sentinel], laidTests := true, laidLooks := .later }
def MessagesCardSaid : Prop := Claim7.holds Tryd.pinned (.plain (OpenSpec.ofChange messagesSpec)) messagesCard

/-- THE TIED CARD OF 'accordlaw.Scans'. -/
def scansCard : Claim7 := { stood := { row := scansRow, standIns := [], harness := (true, "e3cd2ab4baf8c61c5374da32e41be38051ae0355542dd10d173ee0f2b9818175"), looks := true }, kinds := [], alts := [], laidByText := true, laidKinds := [.handle, .sentinel, .sentinel, .sentinel, .sentinel], laidTests := true, laidLooks := .later }
def ScansCardSaid : Prop := Claim7.holds Tryd.pinned (.plain (OpenSpec.ofChange scansSpec)) scansCard

/-- THE TIED CARD OF 'accordkeep.Turned'. -/
def turnedCard : Claim7 := { stood := { row := turnedRow, standIns := [], harness := (true, "e3cd2ab4baf8c61c5374da32e41be38051ae0355542dd10d173ee0f2b9818175"), looks := true }, kinds := [], alts := [], laidByText := true, laidKinds := [.sentinel, .sentinel, .sentinel, .sentinel, .sentinel, .sentinel], laidTests := true, laidLooks := .later }
def TurnedCardSaid : Prop := Claim7.holds Tryd.pinned (.plain (OpenSpec.ofChange turnedSpec)) turnedCard

/-- THE SECOND FORM's CARD OF 'accordlaw.Messages'. -/
def messagesUptoCard : Claim7 := { stood := { row := messagesUptoRow, standIns := [], harness := (true, "e3cd2ab4baf8c61c5374da32e41be38051ae0355542dd10d173ee0f2b9818175"), looks := true }, kinds := [], alts := [], laidByText := true, laidKinds := [.sentinel, .sentinel, .sentinel, .sentinel, .sentinel, .sentinel], laidTests := true, laidLooks := .later }
def MessagesUptoCardSaid : Prop := Claim7.holds Tryd.pinned (.plain (OpenSpec.upto messagesSpec)) messagesUptoCard

/-- THE SECOND FORM's CARD OF 'accordlaw.Scans'. -/
def scansUptoCard : Claim7 := { stood := { row := scansUptoRow, standIns := [], harness := (true, "e3cd2ab4baf8c61c5374da32e41be38051ae0355542dd10d173ee0f2b9818175"), looks := true }, kinds := [], alts := [], laidByText := true, laidKinds := [.handle, .sentinel, .sentinel, .sentinel, .sentinel], laidTests := true, laidLooks := .later }
def ScansUptoCardSaid : Prop := Claim7.holds Tryd.pinned (.plain (OpenSpec.upto scansSpec)) scansUptoCard

/-- THE SECOND FORM's CARD OF 'accordkeep.Turned'. -/
def turnedUptoCard : Claim7 := { stood := { row := turnedUptoRow, standIns := [], harness := (true, "e3cd2ab4baf8c61c5374da32e41be38051ae0355542dd10d173ee0f2b9818175"), looks := true }, kinds := [], alts := [], laidByText := true, laidKinds := [.sentinel, .sentinel, .sentinel, .sentinel, .sentinel, .sentinel], laidTests := true, laidLooks := .later }
def TurnedUptoCardSaid : Prop := Claim7.holds Tryd.pinned (.plain (OpenSpec.upto turnedSpec)) turnedUptoCard
end Rows
end Go.Proofs.YtfpojgljgbgkkaaDoor
