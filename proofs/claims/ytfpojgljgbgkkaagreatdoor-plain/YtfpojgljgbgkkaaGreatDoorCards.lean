/-
  DERIVED. GIVEN WITH THE SEED: THE CARDS: each row of YtfpojgljgbgkkaaGreatDoorRows.lean that lists a variable, with what it lists TIED to the program's text (the seventh form; the later family's looks); each row that meets fmt, with fmt's text TOLD by the authors' own Lean function (tested against real Go, not proved from fmt's source: count such statements apart). THE CARD IS WHAT COUNTS. Prove the row's statement (the work); the ties are given (YtfpojgljgbgkkaaGreatDoorTie.lean); close each card by the builder's one call (the guide's Derived/Test/ToyasCard.lean, 'card_holds'). Laid BY PROGRAM, IN A SANDBOX (cutbox-door.mjs). By AI agents, Wed Nov 11 2026. No macro, syntax, notation, axiom, sorry.
-/
import Derived.Test.YtfpojgljgbgkkaaGreatDoorRows
import GoSem.ClaimSeven
namespace Go.Proofs.YtfpojgljgbgkkaaGreatDoor
namespace Rows

/-- THE TIED CARD OF 'accordlaw.Steps'. -/
def stepsCard : Claim7 := { stood := { row := stepsRow, standIns := [], harness := (true, "363913392640d4455b2a41d44ac83dc4c8b4f74375319a1ea69f19f6ea7cb606"), looks := true }, kinds := [], alts := [], goes := true, laidByText := true, laidKinds := [.sentinel, .sentinel, .sentinel, .sentinel, .sentinel, .sentinel], laidTests := true, laidLooks := .later }
def StepsCardSaid : Prop := Claim7.holds Tryz.pinned (.plain (OpenSpec.ofChange stepsSpec)) stepsCard

/-- THE TIED CARD OF 'accordkeep.Plain'. -/
def plainCard : Claim7 := { stood := { row := plainRow, standIns := [], harness := (true, "363913392640d4455b2a41d44ac83dc4c8b4f74375319a1ea69f19f6ea7cb606"), looks := true }, kinds := [], alts := [], goes := true, laidByText := true, laidKinds := [.sentinel, .sentinel, .sentinel, .sentinel, .sentinel, .sentinel], laidTests := true, laidLooks := .later }
def PlainCardSaid : Prop := Claim7.holds Tryz.pinned (.plain (OpenSpec.ofChange plainSpec)) plainCard

/-- THE TIED CARD OF 'accordlaw.All'. -/
def allCard : Claim7 := { stood := { row := allRow, standIns := [], harness := (true, "363913392640d4455b2a41d44ac83dc4c8b4f74375319a1ea69f19f6ea7cb606"), looks := true }, kinds := [], alts := [], goes := true, laidByText := true, laidKinds := [.sentinel, .sentinel, .sentinel, .sentinel, .sentinel, .sentinel], laidTests := true, laidLooks := .later }
def AllCardSaid : Prop := Claim7.holds Tryz.pinned (.plain (OpenSpec.ofChange allSpec)) allCard

/-- THE TIED CARD OF 'accordkeep.Agreed'. -/
def agreedCard : Claim7 := { stood := { row := agreedRow, standIns := [], harness := (true, "363913392640d4455b2a41d44ac83dc4c8b4f74375319a1ea69f19f6ea7cb606"), looks := true }, kinds := [], alts := [], goes := true, laidByText := true, laidKinds := [.sentinel, .sentinel, .sentinel, .sentinel, .sentinel, .sentinel], laidTests := true, laidLooks := .later }
def AgreedCardSaid : Prop := Claim7.holds Tryz.pinned (.plain (OpenSpec.ofChange agreedSpec)) agreedCard

/-- THE TIED CARD OF 'accordkeep.Settled'. -/
def settledCard : Claim7 := { stood := { row := settledRow, standIns := [], harness := (true, "363913392640d4455b2a41d44ac83dc4c8b4f74375319a1ea69f19f6ea7cb606"), looks := true }, kinds := [], alts := [], goes := true, laidByText := true, laidKinds := [.sentinel, .sentinel, .sentinel, .sentinel, .sentinel, .sentinel], laidTests := true, laidLooks := .later }
def SettledCardSaid : Prop := Claim7.holds Tryz.pinned (.plain (OpenSpec.ofChange settledSpec)) settledCard

/-- THE TIED CARD OF 'accordkeep.Safe'. -/
def safeCard : Claim7 := { stood := { row := safeRow, standIns := [], harness := (true, "363913392640d4455b2a41d44ac83dc4c8b4f74375319a1ea69f19f6ea7cb606"), looks := true }, kinds := [], alts := [], goes := true, laidByText := true, laidKinds := [.handle, .sentinel, .sentinel, .sentinel, .sentinel, .sentinel, .sentinel], laidTests := true, laidLooks := .later }
def SafeCardSaid : Prop := Claim7.holds Tryz.pinned (.plain (OpenSpec.ofChange safeSpec)) safeCard

/-- THE SECOND FORM's CARD OF 'accordlaw.Steps'. -/
def stepsUptoCard : Claim7 := { stood := { row := stepsUptoRow, standIns := [], harness := (true, "363913392640d4455b2a41d44ac83dc4c8b4f74375319a1ea69f19f6ea7cb606"), looks := true }, kinds := [], alts := [], goes := true, laidByText := true, laidKinds := [.sentinel, .sentinel, .sentinel, .sentinel, .sentinel, .sentinel], laidTests := true, laidLooks := .later }
def StepsUptoCardSaid : Prop := Claim7.holds Tryz.pinned (.plain (OpenSpec.upto stepsSpec)) stepsUptoCard

/-- THE SECOND FORM's CARD OF 'accordkeep.Plain'. -/
def plainUptoCard : Claim7 := { stood := { row := plainUptoRow, standIns := [], harness := (true, "363913392640d4455b2a41d44ac83dc4c8b4f74375319a1ea69f19f6ea7cb606"), looks := true }, kinds := [], alts := [], goes := true, laidByText := true, laidKinds := [.sentinel, .sentinel, .sentinel, .sentinel, .sentinel, .sentinel], laidTests := true, laidLooks := .later }
def PlainUptoCardSaid : Prop := Claim7.holds Tryz.pinned (.plain (OpenSpec.upto plainSpec)) plainUptoCard

/-- THE SECOND FORM's CARD OF 'accordlaw.All'. -/
def allUptoCard : Claim7 := { stood := { row := allUptoRow, standIns := [], harness := (true, "363913392640d4455b2a41d44ac83dc4c8b4f74375319a1ea69f19f6ea7cb606"), looks := true }, kinds := [], alts := [], goes := true, laidByText := true, laidKinds := [.sentinel, .sentinel, .sentinel, .sentinel, .sentinel, .sentinel], laidTests := true, laidLooks := .later }
def AllUptoCardSaid : Prop := Claim7.holds Tryz.pinned (.plain (OpenSpec.upto allSpec)) allUptoCard

/-- THE SECOND FORM's CARD OF 'accordkeep.Agreed'. -/
def agreedUptoCard : Claim7 := { stood := { row := agreedUptoRow, standIns := [], harness := (true, "363913392640d4455b2a41d44ac83dc4c8b4f74375319a1ea69f19f6ea7cb606"), looks := true }, kinds := [], alts := [], goes := true, laidByText := true, laidKinds := [.sentinel, .sentinel, .sentinel, .sentinel, .sentinel, .sentinel], laidTests := true, laidLooks := .later }
def AgreedUptoCardSaid : Prop := Claim7.holds Tryz.pinned (.plain (OpenSpec.upto agreedSpec)) agreedUptoCard

/-- THE SECOND FORM's CARD OF 'accordkeep.Settled'. -/
def settledUptoCard : Claim7 := { stood := { row := settledUptoRow, standIns := [], harness := (true, "363913392640d4455b2a41d44ac83dc4c8b4f74375319a1ea69f19f6ea7cb606"), looks := true }, kinds := [], alts := [], goes := true, laidByText := true, laidKinds := [.sentinel, .sentinel, .sentinel, .sentinel, .sentinel, .sentinel], laidTests := true, laidLooks := .later }
def SettledUptoCardSaid : Prop := Claim7.holds Tryz.pinned (.plain (OpenSpec.upto settledSpec)) settledUptoCard

/-- THE SECOND FORM's CARD OF 'accordkeep.Safe'. -/
def safeUptoCard : Claim7 := { stood := { row := safeUptoRow, standIns := [], harness := (true, "363913392640d4455b2a41d44ac83dc4c8b4f74375319a1ea69f19f6ea7cb606"), looks := true }, kinds := [], alts := [], goes := true, laidByText := true, laidKinds := [.handle, .sentinel, .sentinel, .sentinel, .sentinel, .sentinel, .sentinel], laidTests := true, laidLooks := .later }
def SafeUptoCardSaid : Prop := Claim7.holds Tryz.pinned (.plain (OpenSpec.upto safeSpec)) safeUptoCard
end Rows
end Go.Proofs.YtfpojgljgbgkkaaGreatDoor
