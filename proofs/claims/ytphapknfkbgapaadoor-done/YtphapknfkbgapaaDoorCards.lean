/-
  DERIVED. GIVEN WITH THE SEED: THE CARDS: each row of YtphapknfkbgapaaDoorRows.lean that lists a variable, with what it lists TIED to the program's text (the seventh form; the later family's looks); each row that meets fmt, with fmt's text TOLD by the authors' own Lean function (tested against real Go, not proved from fmt's source: count such statements apart). THE CARD IS WHAT COUNTS. Prove the row's statement (the work); the ties are given (YtphapknfkbgapaaDoorTie.lean); close each card by the builder's one call (the guide's Derived/Test/ToyasCard.lean, 'card_holds'). Laid BY PROGRAM, IN A SANDBOX (cutbox-door.mjs). By AI agents, Wed Nov 11 2026. No macro, syntax, notation, axiom, sorry.
-/
import Derived.Test.YtphapknfkbgapaaDoorRows
import GoSem.ClaimSeven
namespace Go.Proofs.YtphapknfkbgapaaDoor
namespace Rows

/-- THE TIED CARD OF 'cofferlaw.Streams'. -/
def streamsCard : Claim7 := { stood := { row := streamsRow, standIns := [], harness := (true, "4a1a0a2d0505c5b240826fef67687e473c65a9625bf0bed66b8186c5e5e04ca3"), looks := false }, kinds := [], alts := [], laidByText := true, laidKinds := [.data], laidTests := true, laidLooks := .later }
def StreamsCardSaid : Prop := Claim7.holds Tryd.pinned (.plain (OpenSpec.ofChange streamsSpec)) streamsCard

/-- THE TIED CARD OF 'cofferlaw.Seals'. -/
def sealsCard : Claim7 := { stood := { row := sealsRow, standIns := [], harness := (true, "4a1a0a2d0505c5b240826fef67687e473c65a9625bf0bed66b8186c5e5e04ca3"), looks := false }, kinds := [], alts := [], laidByText := true, laidKinds := [.data], laidTests := true, laidLooks := .later }
def SealsCardSaid : Prop := Claim7.holds Tryd.pinned (.plain (OpenSpec.ofChange sealsSpec)) sealsCard

/-- THE TIED CARD OF 'cofferlaw.Prefix'. -/
def prefixCard : Claim7 := { stood := { row := prefixRow, standIns := [], harness := (true, "4a1a0a2d0505c5b240826fef67687e473c65a9625bf0bed66b8186c5e5e04ca3"), looks := false }, kinds := [], alts := [], laidByText := true, laidKinds := [.data], laidTests := true, laidLooks := .later }
def PrefixCardSaid : Prop := Claim7.holds Tryd.pinned (.plain (OpenSpec.ofChange prefixSpec)) prefixCard

/-- THE TIED CARD OF 'cofferlaw.Back'. -/
def backCard : Claim7 := { stood := { row := backRow, standIns := [], harness := (true, "4a1a0a2d0505c5b240826fef67687e473c65a9625bf0bed66b8186c5e5e04ca3"), looks := false }, kinds := [], alts := [], laidByText := true, laidKinds := [.data], laidTests := true, laidLooks := .later }
def BackCardSaid : Prop := Claim7.holds Tryd.pinned (.plain (OpenSpec.ofChange backSpec)) backCard

/-- THE TIED CARD OF 'cofferlaw.Told'. -/
def toldCard : Claim7 := { stood := { row := toldRow, standIns := [], harness := (true, "4a1a0a2d0505c5b240826fef67687e473c65a9625bf0bed66b8186c5e5e04ca3"), looks := false }, kinds := [], alts := [], laidByText := true, laidKinds := [.data], laidTests := true, laidLooks := .later }
def ToldCardSaid : Prop := Claim7.holds Tryd.pinned (.plain (OpenSpec.ofChange toldSpec)) toldCard

/-- THE TIED CARD OF 'cofferlaw.Never'. -/
def neverCard : Claim7 := { stood := { row := neverRow, standIns := [], harness := (true, "4a1a0a2d0505c5b240826fef67687e473c65a9625bf0bed66b8186c5e5e04ca3"), looks := false }, kinds := [], alts := [], laidByText := true, laidKinds := [.data], laidTests := true, laidLooks := .later }
def NeverCardSaid : Prop := Claim7.holds Tryd.pinned (.plain (OpenSpec.ofChange neverSpec)) neverCard

/-- THE TIED CARD OF 'cofferlaw.Done'. -/
def doneCard : Claim7 := { stood := { row := doneRow, standIns := [], harness := (true, "4a1a0a2d0505c5b240826fef67687e473c65a9625bf0bed66b8186c5e5e04ca3"), looks := false }, kinds := [], alts := [], laidByText := true, laidKinds := [.data], laidTests := true, laidLooks := .later }
def DoneCardSaid : Prop := Claim7.holds Tryd.pinned (.plain (OpenSpec.ofChange doneSpec)) doneCard

/-- THE SECOND FORM's CARD OF 'cofferlaw.Streams'. -/
def streamsUptoCard : Claim7 := { stood := { row := streamsUptoRow, standIns := [], harness := (true, "4a1a0a2d0505c5b240826fef67687e473c65a9625bf0bed66b8186c5e5e04ca3"), looks := false }, kinds := [], alts := [], laidByText := true, laidKinds := [.data], laidTests := true, laidLooks := .later }
def StreamsUptoCardSaid : Prop := Claim7.holds Tryd.pinned (.plain (OpenSpec.upto streamsSpec)) streamsUptoCard

/-- THE SECOND FORM's CARD OF 'cofferlaw.Seals'. -/
def sealsUptoCard : Claim7 := { stood := { row := sealsUptoRow, standIns := [], harness := (true, "4a1a0a2d0505c5b240826fef67687e473c65a9625bf0bed66b8186c5e5e04ca3"), looks := false }, kinds := [], alts := [], laidByText := true, laidKinds := [.data], laidTests := true, laidLooks := .later }
def SealsUptoCardSaid : Prop := Claim7.holds Tryd.pinned (.plain (OpenSpec.upto sealsSpec)) sealsUptoCard

/-- THE SECOND FORM's CARD OF 'cofferlaw.Prefix'. -/
def prefixUptoCard : Claim7 := { stood := { row := prefixUptoRow, standIns := [], harness := (true, "4a1a0a2d0505c5b240826fef67687e473c65a9625bf0bed66b8186c5e5e04ca3"), looks := false }, kinds := [], alts := [], laidByText := true, laidKinds := [.data], laidTests := true, laidLooks := .later }
def PrefixUptoCardSaid : Prop := Claim7.holds Tryd.pinned (.plain (OpenSpec.upto prefixSpec)) prefixUptoCard

/-- THE SECOND FORM's CARD OF 'cofferlaw.Back'. -/
def backUptoCard : Claim7 := { stood := { row := backUptoRow, standIns := [], harness := (true, "4a1a0a2d0505c5b240826fef67687e473c65a9625bf0bed66b8186c5e5e04ca3"), looks := false }, kinds := [], alts := [], laidByText := true, laidKinds := [.data], laidTests := true, laidLooks := .later }
def BackUptoCardSaid : Prop := Claim7.holds Tryd.pinned (.plain (OpenSpec.upto backSpec)) backUptoCard

/-- THE SECOND FORM's CARD OF 'cofferlaw.Told'. -/
def toldUptoCard : Claim7 := { stood := { row := toldUptoRow, standIns := [], harness := (true, "4a1a0a2d0505c5b240826fef67687e473c65a9625bf0bed66b8186c5e5e04ca3"), looks := false }, kinds := [], alts := [], laidByText := true, laidKinds := [.data], laidTests := true, laidLooks := .later }
def ToldUptoCardSaid : Prop := Claim7.holds Tryd.pinned (.plain (OpenSpec.upto toldSpec)) toldUptoCard

/-- THE SECOND FORM's CARD OF 'cofferlaw.Never'. -/
def neverUptoCard : Claim7 := { stood := { row := neverUptoRow, standIns := [], harness := (true, "4a1a0a2d0505c5b240826fef67687e473c65a9625bf0bed66b8186c5e5e04ca3"), looks := false }, kinds := [], alts := [], laidByText := true, laidKinds := [.data], laidTests := true, laidLooks := .later }
def NeverUptoCardSaid : Prop := Claim7.holds Tryd.pinned (.plain (OpenSpec.upto neverSpec)) neverUptoCard

/-- THE SECOND FORM's CARD OF 'cofferlaw.Done'. -/
def doneUptoCard : Claim7 := { stood := { row := doneUptoRow, standIns := [], harness := (true, "4a1a0a2d0505c5b240826fef67687e473c65a9625bf0bed66b8186c5e5e04ca3"), looks := false }, kinds := [], alts := [], laidByText := true, laidKinds := [.data], laidTests := true, laidLooks := .later }
def DoneUptoCardSaid : Prop := Claim7.holds Tryd.pinned (.plain (OpenSpec.upto doneSpec)) doneUptoCard
end Rows
end Go.Proofs.YtphapknfkbgapaaDoor
