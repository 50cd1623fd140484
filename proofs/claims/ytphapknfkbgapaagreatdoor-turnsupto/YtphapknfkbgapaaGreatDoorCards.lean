/-
  DERIVED. GIVEN WITH THE SEED: THE CARDS: each row of YtphapknfkbgapaaGreatDoorRows.lean that lists a variable, with what it lists TIED to the program's text (the seventh form; the later family's looks); each row that meets fmt, with fmt's text TOLD by the authors' own Lean function (tested against real Go, not proved from fmt's source: count such statements apart). THE CARD IS WHAT COUNTS. Prove the row's statement (the work); the ties are given (YtphapknfkbgapaaGreatDoorTie.lean); close each card by the builder's one call (the guide's Derived/Test/ToyasCard.lean, 'card_holds'). Laid BY PROGRAM, IN A SANDBOX (cutbox-door.mjs). By AI agents, Wed Nov 11 2026. No macro, syntax, notation, axiom, sorry.
-/
import Derived.Test.YtphapknfkbgapaaGreatDoorRows
import GoSem.ClaimSeven
namespace Go.Proofs.YtphapknfkbgapaaGreatDoor
namespace Rows

/-- THE TIED CARD OF 'cofferlaw.Stores'. -/
def storesCard : Claim7 := { stood := { row := storesRow, standIns := [], harness := (true, "8a3d51b17721b21a59205a82a7e0052678d374a0077d6bee1a9b8f6c598cc396"), looks := false }, kinds := [], alts := [], laidByText := true, laidKinds := [.data], laidTests := true, laidLooks := .later }
def StoresCardSaid : Prop := Claim7.holds Tryz.pinned (.plain (OpenSpec.ofChange storesSpec)) storesCard

/-- THE TIED CARD OF 'cofferlaw.Turns'. -/
def turnsCard : Claim7 := { stood := { row := turnsRow, standIns := [], harness := (true, "8a3d51b17721b21a59205a82a7e0052678d374a0077d6bee1a9b8f6c598cc396"), looks := false }, kinds := [], alts := [], laidByText := true, laidKinds := [.data], laidTests := true, laidLooks := .later }
def TurnsCardSaid : Prop := Claim7.holds Tryz.pinned (.plain (OpenSpec.ofChange turnsSpec)) turnsCard

/-- THE TIED CARD OF 'cofferlaw.All'. -/
def allCard : Claim7 := { stood := { row := allRow, standIns := [], harness := (true, "8a3d51b17721b21a59205a82a7e0052678d374a0077d6bee1a9b8f6c598cc396"), looks := false }, kinds := [], alts := [], laidByText := true, laidKinds := [.data], laidTests := true, laidLooks := .later }
def AllCardSaid : Prop := Claim7.holds Tryz.pinned (.plain (OpenSpec.ofChange allSpec)) allCard

/-- THE TIED CARD OF 'cofferlaw.Apart'. -/
def apartCard : Claim7 := { stood := { row := apartRow, standIns := [], harness := (true, "8a3d51b17721b21a59205a82a7e0052678d374a0077d6bee1a9b8f6c598cc396"), looks := false }, kinds := [], alts := [], laidByText := true, laidKinds := [.data], laidTests := true, laidLooks := .later }
def ApartCardSaid : Prop := Claim7.holds Tryz.pinned (.plain (OpenSpec.ofChange apartSpec)) apartCard

/-- THE SECOND FORM's CARD OF 'cofferlaw.Stores'. -/
def storesUptoCard : Claim7 := { stood := { row := storesUptoRow, standIns := [], harness := (true, "8a3d51b17721b21a59205a82a7e0052678d374a0077d6bee1a9b8f6c598cc396"), looks := false }, kinds := [], alts := [], laidByText := true, laidKinds := [.data], laidTests := true, laidLooks := .later }
def StoresUptoCardSaid : Prop := Claim7.holds Tryz.pinned (.plain (OpenSpec.upto storesSpec)) storesUptoCard

/-- THE SECOND FORM's CARD OF 'cofferlaw.Turns'. -/
def turnsUptoCard : Claim7 := { stood := { row := turnsUptoRow, standIns := [], harness := (true, "8a3d51b17721b21a59205a82a7e0052678d374a0077d6bee1a9b8f6c598cc396"), looks := false }, kinds := [], alts := [], laidByText := true, laidKinds := [.data], laidTests := true, laidLooks := .later }
def TurnsUptoCardSaid : Prop := Claim7.holds Tryz.pinned (.plain (OpenSpec.upto turnsSpec)) turnsUptoCard

/-- THE SECOND FORM's CARD OF 'cofferlaw.All'. -/
def allUptoCard : Claim7 := { stood := { row := allUptoRow, standIns := [], harness := (true, "8a3d51b17721b21a59205a82a7e0052678d374a0077d6bee1a9b8f6c598cc396"), looks := false }, kinds := [], alts := [], laidByText := true, laidKinds := [.data], laidTests := true, laidLooks := .later }
def AllUptoCardSaid : Prop := Claim7.holds Tryz.pinned (.plain (OpenSpec.upto allSpec)) allUptoCard

/-- THE SECOND FORM's CARD OF 'cofferlaw.Apart'. -/
def apartUptoCard : Claim7 := { stood := { row := apartUptoRow, standIns := [], harness := (true, "8a3d51b17721b21a59205a82a7e0052678d374a0077d6bee1a9b8f6c598cc396"), looks := false }, kinds := [], alts := [], laidByText := true, laidKinds := [.data], laidTests := true, laidLooks := .later }
def ApartUptoCardSaid : Prop := Claim7.holds Tryz.pinned (.plain (OpenSpec.upto apartSpec)) apartUptoCard
end Rows
end Go.Proofs.YtphapknfkbgapaaGreatDoor
