/-
  NARROWER THAN 'FOR EVERY INPUT', by the rows' own cells (each row's printed sentence says how): Streams: laid · Seals: laid · Prefix: laid · Back: laid · Told: laid · Never: laid · Done: laid.
  DERIVED. THE GIVEN ROWS OF THIS SEAT. 7 by the template 'for every input the law returns true; each argument reads behind the call as it read before'; 0 by the template 'total and deterministic' (their statements: YtphapknfkbgapaaDoorTotals.lean).
  GIVEN WITH THE SEED: the statements are not yours to turn. If you find one false, say at which input.
  Laid BY PROGRAM, IN A SANDBOX (cutbox-rows.mjs): the forced cells as the released guide's own fill.sh prints them over the translation 6c40f72c940273c3… (all of the seat's roots in one cut). By AI agents, Wed Nov 11 2026. No macro, syntax, notation, axiom, sorry.
-/
import Derived.Test.YtphapknfkbgapaaDoorChecked
import GoSem.Claim
import GoSem.ClaimJoined
import GoSem.ClaimMapViews
import Derived.JoinedTies
import Derived.KernelRfl
namespace Go.Proofs.YtphapknfkbgapaaDoor
/- THE CELL 'sum', in the pinned program and in every row, IS THE sha256 OF THE DUMP (.gsa) THAT YtphapknfkbgapaaDoorProg.lean LOADS. Nothing in Lean hashes anything: it is a label: what it is worth is what the hold of that sum in a sandbox is worth. -/
noncomputable def Tryd.pinned : Pinned := { name := "ytphapknfkbgapaadoor", sum := "6c40f72c940273c3defc05c176da3b5a1ec45f19886629a0aff9fd571c7b7c2f", checked := Tryd.checked }
namespace Rows
def none {H : Type} : Left H := { results := [], args := [] }

/- WHAT THE LISTED PACKAGE-LEVEL VARIABLES READ AS WHEN THE CALL BEGINS. Each datum BY PROGRAM (the guide's laid-datum.mjs) off the statement by which the dump's own 'gosem.cut.vars' lays the variable. In a bare row this is a premise. The card (YtphapknfkbgapaaDoorCards.lean) ties it to the program's text. -/
def laid_coffer_seal_fours {H : Type} : DataW H := .agg [.agg [.lit (.int .i64 0), .lit (.int .i64 4), .lit (.int .i64 8), .lit (.int .i64 12)], .agg [.lit (.int .i64 1), .lit (.int .i64 5), .lit (.int .i64 9), .lit (.int .i64 13)], .agg [.lit (.int .i64 2), .lit (.int .i64 6), .lit (.int .i64 10), .lit (.int .i64 14)], .agg [.lit (.int .i64 3), .lit (.int .i64 7), .lit (.int .i64 11), .lit (.int .i64 15)], .agg [.lit (.int .i64 0), .lit (.int .i64 5), .lit (.int .i64 10), .lit (.int .i64 15)], .agg [.lit (.int .i64 1), .lit (.int .i64 6), .lit (.int .i64 11), .lit (.int .i64 12)], .agg [.lit (.int .i64 2), .lit (.int .i64 7), .lit (.int .i64 8), .lit (.int .i64 13)], .agg [.lit (.int .i64 3), .lit (.int .i64 4), .lit (.int .i64 9), .lit (.int .i64 14)]]

/-- 'cofferlaw.Streams': WHATEVER THE INPUT: true; the input reads as it did. -/
def streamsSpec : ChangeSpec := { name := "streams", fn := fun _ => fun
  | [d1, d2, d3, d4] => { results := [.lit (.bool true)], args := [d1, d2, d3, d4] }
  | _ => none }
def streamsRow : OpenClaim := { program := "ytphapknfkbgapaadoor", sum := "6c40f72c940273c3defc05c176da3b5a1ec45f19886629a0aff9fd571c7b7c2f", func := "coffer/cofferlaw.Streams", spec := "streams", named := ["coffer/seal.fours"], apart := false, laid := [("coffer/seal.fours", laid_coffer_seal_fours)] }
def StreamsSaid : Prop := streamsRow.holds Tryd.pinned (OpenSpec.ofChange streamsSpec)

/-- ITS FALSE NEIGHBOUR: 'it returns false'. Refute it at one input. -/
def streamsWrong : ChangeSpec := { name := "streams", fn := fun _ => fun
  | [d1, d2, d3, d4] => { results := [.lit (.bool false)], args := [d1, d2, d3, d4] }
  | _ => none }
def StreamsWrongFalsely : Prop := streamsRow.holds Tryd.pinned (OpenSpec.ofChange streamsWrong)

/-- 'cofferlaw.Seals': WHATEVER THE INPUT: true; the input reads as it did. -/
def sealsSpec : ChangeSpec := { name := "seals", fn := fun _ => fun
  | [d1, d2, d3, d4, d5, d6] => { results := [.lit (.bool true)], args := [d1, d2, d3, d4, d5, d6] }
  | _ => none }
def sealsRow : OpenClaim := { program := "ytphapknfkbgapaadoor", sum := "6c40f72c940273c3defc05c176da3b5a1ec45f19886629a0aff9fd571c7b7c2f", func := "coffer/cofferlaw.Seals", spec := "seals", recurses := true, named := ["coffer/seal.fours"], apart := false, laid := [("coffer/seal.fours", laid_coffer_seal_fours)] }
def SealsSaid : Prop := sealsRow.holds Tryd.pinned (OpenSpec.ofChange sealsSpec)

/-- ITS FALSE NEIGHBOUR: 'it returns false'. Refute it at one input. -/
def sealsWrong : ChangeSpec := { name := "seals", fn := fun _ => fun
  | [d1, d2, d3, d4, d5, d6] => { results := [.lit (.bool false)], args := [d1, d2, d3, d4, d5, d6] }
  | _ => none }
def SealsWrongFalsely : Prop := sealsRow.holds Tryd.pinned (OpenSpec.ofChange sealsWrong)

/-- 'cofferlaw.Prefix': WHATEVER THE INPUT: true; the input reads as it did. -/
def prefixSpec : ChangeSpec := { name := "prefix", fn := fun _ => fun
  | [d1, d2, d3, d4, d5] => { results := [.lit (.bool true)], args := [d1, d2, d3, d4, d5] }
  | _ => none }
def prefixRow : OpenClaim := { program := "ytphapknfkbgapaadoor", sum := "6c40f72c940273c3defc05c176da3b5a1ec45f19886629a0aff9fd571c7b7c2f", func := "coffer/cofferlaw.Prefix", spec := "prefix", named := ["coffer/seal.fours"], apart := false, laid := [("coffer/seal.fours", laid_coffer_seal_fours)] }
def PrefixSaid : Prop := prefixRow.holds Tryd.pinned (OpenSpec.ofChange prefixSpec)

/-- ITS FALSE NEIGHBOUR: 'it returns false'. Refute it at one input. -/
def prefixWrong : ChangeSpec := { name := "prefix", fn := fun _ => fun
  | [d1, d2, d3, d4, d5] => { results := [.lit (.bool false)], args := [d1, d2, d3, d4, d5] }
  | _ => none }
def PrefixWrongFalsely : Prop := prefixRow.holds Tryd.pinned (OpenSpec.ofChange prefixWrong)

/-- 'cofferlaw.Back': WHATEVER THE INPUT: true; the input reads as it did. -/
def backSpec : ChangeSpec := { name := "back", fn := fun _ => fun
  | [d1, d2, d3, d4, d5] => { results := [.lit (.bool true)], args := [d1, d2, d3, d4, d5] }
  | _ => none }
def backRow : OpenClaim := { program := "ytphapknfkbgapaadoor", sum := "6c40f72c940273c3defc05c176da3b5a1ec45f19886629a0aff9fd571c7b7c2f", func := "coffer/cofferlaw.Back", spec := "back", named := ["coffer/seal.fours"], apart := false, laid := [("coffer/seal.fours", laid_coffer_seal_fours)] }
def BackSaid : Prop := backRow.holds Tryd.pinned (OpenSpec.ofChange backSpec)

/-- ITS FALSE NEIGHBOUR: 'it returns false'. Refute it at one input. -/
def backWrong : ChangeSpec := { name := "back", fn := fun _ => fun
  | [d1, d2, d3, d4, d5] => { results := [.lit (.bool false)], args := [d1, d2, d3, d4, d5] }
  | _ => none }
def BackWrongFalsely : Prop := backRow.holds Tryd.pinned (OpenSpec.ofChange backWrong)

/-- 'cofferlaw.Told': WHATEVER THE INPUT: true; the input reads as it did. -/
def toldSpec : ChangeSpec := { name := "told", fn := fun _ => fun
  | [d1, d2, d3] => { results := [.lit (.bool true)], args := [d1, d2, d3] }
  | _ => none }
def toldRow : OpenClaim := { program := "ytphapknfkbgapaadoor", sum := "6c40f72c940273c3defc05c176da3b5a1ec45f19886629a0aff9fd571c7b7c2f", func := "coffer/cofferlaw.Told", spec := "told", named := ["coffer/seal.fours"], apart := false, laid := [("coffer/seal.fours", laid_coffer_seal_fours)] }
def ToldSaid : Prop := toldRow.holds Tryd.pinned (OpenSpec.ofChange toldSpec)

/-- ITS FALSE NEIGHBOUR: 'it returns false'. Refute it at one input. -/
def toldWrong : ChangeSpec := { name := "told", fn := fun _ => fun
  | [d1, d2, d3] => { results := [.lit (.bool false)], args := [d1, d2, d3] }
  | _ => none }
def ToldWrongFalsely : Prop := toldRow.holds Tryd.pinned (OpenSpec.ofChange toldWrong)

/-- 'cofferlaw.Never': WHATEVER THE INPUT: true; the input reads as it did. -/
def neverSpec : ChangeSpec := { name := "never", fn := fun _ => fun
  | [d1, d2] => { results := [.lit (.bool true)], args := [d1, d2] }
  | _ => none }
def neverRow : OpenClaim := { program := "ytphapknfkbgapaadoor", sum := "6c40f72c940273c3defc05c176da3b5a1ec45f19886629a0aff9fd571c7b7c2f", func := "coffer/cofferlaw.Never", spec := "never", named := ["coffer/seal.fours"], apart := false, laid := [("coffer/seal.fours", laid_coffer_seal_fours)] }
def NeverSaid : Prop := neverRow.holds Tryd.pinned (OpenSpec.ofChange neverSpec)

/-- ITS FALSE NEIGHBOUR: 'it returns false'. Refute it at one input. -/
def neverWrong : ChangeSpec := { name := "never", fn := fun _ => fun
  | [d1, d2] => { results := [.lit (.bool false)], args := [d1, d2] }
  | _ => none }
def NeverWrongFalsely : Prop := neverRow.holds Tryd.pinned (OpenSpec.ofChange neverWrong)

/-- 'cofferlaw.Done': WHATEVER THE INPUT: true; the input reads as it did. -/
def doneSpec : ChangeSpec := { name := "done", fn := fun _ => fun
  | [d1, d2, d3] => { results := [.lit (.bool true)], args := [d1, d2, d3] }
  | _ => none }
def doneRow : OpenClaim := { program := "ytphapknfkbgapaadoor", sum := "6c40f72c940273c3defc05c176da3b5a1ec45f19886629a0aff9fd571c7b7c2f", func := "coffer/cofferlaw.Done", spec := "done", named := ["coffer/seal.fours"], apart := false, laid := [("coffer/seal.fours", laid_coffer_seal_fours)] }
def DoneSaid : Prop := doneRow.holds Tryd.pinned (OpenSpec.ofChange doneSpec)

/-- ITS FALSE NEIGHBOUR: 'it returns false'. Refute it at one input. -/
def doneWrong : ChangeSpec := { name := "done", fn := fun _ => fun
  | [d1, d2, d3] => { results := [.lit (.bool false)], args := [d1, d2, d3] }
  | _ => none }
def DoneWrongFalsely : Prop := doneRow.holds Tryd.pinned (OpenSpec.ofChange doneWrong)

/- THE SECOND FORM. 'bulk': how many values and letters a reading holds, each counted each time it is reached (what is shared counts as often as it is met; a slice's spare places count too). A statement '..UptoSaid' is the law's where the arguments, and the package variables that the reading takes, are together of bulk at most 1048576: NARROWER than '..Said'. Prove '..Said' where nothing that the law and all that it calls make is longer than what came in: it says more and counts as full. Else prove '..UptoSaid'. A law counts once. -/
mutual
def uptoBulk {H : Type} : DataW H → Nat
  | .lit (.string bytes) => bytes.length + 1
  | .lit _ => 1
  | .nil => 1
  | .ptr d => uptoBulk d + 1
  | .slice elems spare => uptoBulkAll elems + uptoBulkAll spare + 1
  | .agg parts => uptoBulkAll parts + 1
  | .iface _ d => uptoBulk d + 1
  | .map entries => uptoBulkEntries entries + 1
  | .held _ => 1
def uptoBulkAll {H : Type} : List (DataW H) → Nat
  | [] => 0
  | d :: r => uptoBulk d + uptoBulkAll r
def uptoBulkEntries {H : Type} : List (Lit × DataW H) → Nat
  | [] => 0
  | x :: r => uptoBulkEntry x + uptoBulkEntries r
def uptoBulkEntry {H : Type} : Lit × DataW H → Nat
  | (.string bytes, d) => bytes.length + uptoBulk d + 1
  | (_, d) => uptoBulk d + 1
 end
def uptoSmall : (H : Type) → List (DataW H) → Bool := fun _ ds => decide (uptoBulkAll ds ≤ 1048576)
def OpenSpec.upto (s : _root_.Go.ChangeSpec) : _root_.Go.OpenSpec := { _root_.Go.OpenSpec.ofChange s with cond := some uptoSmall }

/-- 'cofferlaw.Streams', WHERE WHAT IT READS IS OF BULK AT MOST 1048576: true; the input reads as it did. -/
def streamsUptoRow : OpenClaim := { program := "ytphapknfkbgapaadoor", sum := "6c40f72c940273c3defc05c176da3b5a1ec45f19886629a0aff9fd571c7b7c2f", func := "coffer/cofferlaw.Streams", spec := "streams", named := ["coffer/seal.fours"], apart := false, laid := [("coffer/seal.fours", laid_coffer_seal_fours)], narrowed := true }
def StreamsUptoSaid : Prop := streamsUptoRow.holds Tryd.pinned (OpenSpec.upto streamsSpec)

/-- 'cofferlaw.Seals', WHERE WHAT IT READS IS OF BULK AT MOST 1048576: true; the input reads as it did. -/
def sealsUptoRow : OpenClaim := { program := "ytphapknfkbgapaadoor", sum := "6c40f72c940273c3defc05c176da3b5a1ec45f19886629a0aff9fd571c7b7c2f", func := "coffer/cofferlaw.Seals", spec := "seals", recurses := true, named := ["coffer/seal.fours"], apart := false, laid := [("coffer/seal.fours", laid_coffer_seal_fours)], narrowed := true }
def SealsUptoSaid : Prop := sealsUptoRow.holds Tryd.pinned (OpenSpec.upto sealsSpec)

/-- 'cofferlaw.Prefix', WHERE WHAT IT READS IS OF BULK AT MOST 1048576: true; the input reads as it did. -/
def prefixUptoRow : OpenClaim := { program := "ytphapknfkbgapaadoor", sum := "6c40f72c940273c3defc05c176da3b5a1ec45f19886629a0aff9fd571c7b7c2f", func := "coffer/cofferlaw.Prefix", spec := "prefix", named := ["coffer/seal.fours"], apart := false, laid := [("coffer/seal.fours", laid_coffer_seal_fours)], narrowed := true }
def PrefixUptoSaid : Prop := prefixUptoRow.holds Tryd.pinned (OpenSpec.upto prefixSpec)

/-- 'cofferlaw.Back', WHERE WHAT IT READS IS OF BULK AT MOST 1048576: true; the input reads as it did. -/
def backUptoRow : OpenClaim := { program := "ytphapknfkbgapaadoor", sum := "6c40f72c940273c3defc05c176da3b5a1ec45f19886629a0aff9fd571c7b7c2f", func := "coffer/cofferlaw.Back", spec := "back", named := ["coffer/seal.fours"], apart := false, laid := [("coffer/seal.fours", laid_coffer_seal_fours)], narrowed := true }
def BackUptoSaid : Prop := backUptoRow.holds Tryd.pinned (OpenSpec.upto backSpec)

/-- 'cofferlaw.Told', WHERE WHAT IT READS IS OF BULK AT MOST 1048576: true; the input reads as it did. -/
def toldUptoRow : OpenClaim := { program := "ytphapknfkbgapaadoor", sum := "6c40f72c940273c3defc05c176da3b5a1ec45f19886629a0aff9fd571c7b7c2f", func := "coffer/cofferlaw.Told", spec := "told", named := ["coffer/seal.fours"], apart := false, laid := [("coffer/seal.fours", laid_coffer_seal_fours)], narrowed := true }
def ToldUptoSaid : Prop := toldUptoRow.holds Tryd.pinned (OpenSpec.upto toldSpec)

/-- 'cofferlaw.Never', WHERE WHAT IT READS IS OF BULK AT MOST 1048576: true; the input reads as it did. -/
def neverUptoRow : OpenClaim := { program := "ytphapknfkbgapaadoor", sum := "6c40f72c940273c3defc05c176da3b5a1ec45f19886629a0aff9fd571c7b7c2f", func := "coffer/cofferlaw.Never", spec := "never", named := ["coffer/seal.fours"], apart := false, laid := [("coffer/seal.fours", laid_coffer_seal_fours)], narrowed := true }
def NeverUptoSaid : Prop := neverUptoRow.holds Tryd.pinned (OpenSpec.upto neverSpec)

/-- 'cofferlaw.Done', WHERE WHAT IT READS IS OF BULK AT MOST 1048576: true; the input reads as it did. -/
def doneUptoRow : OpenClaim := { program := "ytphapknfkbgapaadoor", sum := "6c40f72c940273c3defc05c176da3b5a1ec45f19886629a0aff9fd571c7b7c2f", func := "coffer/cofferlaw.Done", spec := "done", named := ["coffer/seal.fours"], apart := false, laid := [("coffer/seal.fours", laid_coffer_seal_fours)], narrowed := true }
def DoneUptoSaid : Prop := doneUptoRow.holds Tryd.pinned (OpenSpec.upto doneSpec)

end Rows
end Go.Proofs.YtphapknfkbgapaaDoor
