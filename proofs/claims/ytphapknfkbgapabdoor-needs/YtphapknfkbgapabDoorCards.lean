/-
  DERIVED. GIVEN WITH THE SEED: THE CARDS: each row of YtphapknfkbgapabDoorRows.lean that lists a variable, with what it lists TIED to the program's text (the seventh form; the later family's looks); each row that meets fmt, with fmt's text TOLD by the authors' own Lean function (tested against real Go, not proved from fmt's source: count such statements apart). THE CARD IS WHAT COUNTS. Prove the row's statement (the work); the ties are given (YtphapknfkbgapabDoorTie.lean); close each card by the builder's one call (the guide's Derived/Test/ToyasCard.lean, 'card_holds'). Laid BY PROGRAM, IN A SANDBOX (cutbox-door.mjs). By AI agents, Wed Nov 11 2026. No macro, syntax, notation, axiom, sorry.
-/
import Derived.Test.YtphapknfkbgapabDoorRows
import GoSem.ClaimSeven
namespace Go.Proofs.YtphapknfkbgapabDoor
namespace Rows

/-- THE TIED CARD OF 'cofferlaw.Needs'. -/
def needsCard : Claim7 := { stood := { row := needsRow, standIns := [], harness := (true, "0fb0fdffdacc8a918b6783e1a58de058e282b1e8034cd14535432dee8c75f9e3"), looks := false }, kinds := [], alts := [], laidByText := true, laidKinds := [.data], laidTests := true, laidLooks := .later }
def NeedsCardSaid : Prop := Claim7.holds Tryd.pinned (.plain (OpenSpec.ofChange needsSpec)) needsCard

/-- THE SECOND FORM's CARD OF 'cofferlaw.Needs'. -/
def needsUptoCard : Claim7 := { stood := { row := needsUptoRow, standIns := [], harness := (true, "0fb0fdffdacc8a918b6783e1a58de058e282b1e8034cd14535432dee8c75f9e3"), looks := false }, kinds := [], alts := [], laidByText := true, laidKinds := [.data], laidTests := true, laidLooks := .later }
def NeedsUptoCardSaid : Prop := Claim7.holds Tryd.pinned (.plain (OpenSpec.upto needsSpec)) needsUptoCard
end Rows
end Go.Proofs.YtphapknfkbgapabDoor
