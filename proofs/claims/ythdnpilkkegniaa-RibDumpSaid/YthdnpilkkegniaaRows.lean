/-
  No cell of these rows narrows 'for every input' (looked for: loops, veiled, ifaces, maps, wideKeys, modest, calm, conditions, laid).
  DERIVED. THE GIVEN ROWS OF THIS SEAT. 8 by the template 'for every input the law returns true; each argument reads behind the call as it read before'; 0 by the template 'total and deterministic' (their statements: YthdnpilkkegniaaTotals.lean).
  GIVEN WITH THE SEED: the statements are not yours to turn. If you find one false, say at which input.
  Laid BY PROGRAM, IN A SANDBOX (cutbox-rows.mjs): the forced cells as the released guide's own fill.sh prints them over the translation 3608684a1854090b… (all of the seat's roots in one cut). By AI agents, Wed Nov 11 2026. No macro, syntax, notation, axiom, sorry.
-/
import Derived.Test.YthdnpilkkegniaaChecked
import GoSem.Claim
import GoSem.ClaimJoined
import GoSem.ClaimMapViews
import Derived.JoinedTies
import Derived.KernelRfl
namespace Go.Proofs.Ythdnpilkkegniaa
/- THE CELL 'sum', in the pinned program and in every row, IS THE sha256 OF THE DUMP (.gsa) THAT YthdnpilkkegniaaProg.lean LOADS. Nothing in Lean hashes anything: it is a label: what it is worth is what the hold of that sum in a sandbox is worth. -/
noncomputable def Try.pinned : Pinned := { name := "ythdnpilkkegniaa", sum := "3608684a1854090b8b9c6084c26203bcc9a9d8fc6bdeb80b841209b59a2efd03", checked := Try.checked }
namespace Rows
def none {H : Type} : Left H := { results := [], args := [] }

/-- 'kedgelaw05.TriePlays': WHATEVER THE INPUT: true; the input reads as it did. -/
def triePlaysSpec : ChangeSpec := { name := "triePlays", fn := fun _ => fun
  | [d1, d2, d3] => { results := [.lit (.bool true)], args := [d1, d2, d3] }
  | _ => none }
def triePlaysRow : OpenClaim := { program := "ythdnpilkkegniaa", sum := "3608684a1854090b8b9c6084c26203bcc9a9d8fc6bdeb80b841209b59a2efd03", func := "kedge/kedgelaw05.TriePlays", spec := "triePlays", unfollowed := true, recurses := true, apart := false }
def TriePlaysSaid : Prop := triePlaysRow.holds Try.pinned (OpenSpec.ofChange triePlaysSpec)

/-- ITS FALSE NEIGHBOUR: 'it returns false'. Refute it at one input. -/
def triePlaysWrong : ChangeSpec := { name := "triePlays", fn := fun _ => fun
  | [d1, d2, d3] => { results := [.lit (.bool false)], args := [d1, d2, d3] }
  | _ => none }
def TriePlaysWrongFalsely : Prop := triePlaysRow.holds Try.pinned (OpenSpec.ofChange triePlaysWrong)

/-- 'kedgelaw06.RibDump': WHATEVER THE INPUT: true; the input reads as it did. -/
def ribDumpSpec : ChangeSpec := { name := "ribDump", fn := fun _ => fun
  | [d1, d2, d3] => { results := [.lit (.bool true)], args := [d1, d2, d3] }
  | _ => none }
def ribDumpRow : OpenClaim := { program := "ythdnpilkkegniaa", sum := "3608684a1854090b8b9c6084c26203bcc9a9d8fc6bdeb80b841209b59a2efd03", func := "kedge/kedgelaw06.RibDump", spec := "ribDump", unfollowed := true, recurses := true, apart := false }
def RibDumpSaid : Prop := ribDumpRow.holds Try.pinned (OpenSpec.ofChange ribDumpSpec)

/-- ITS FALSE NEIGHBOUR: 'it returns false'. Refute it at one input. -/
def ribDumpWrong : ChangeSpec := { name := "ribDump", fn := fun _ => fun
  | [d1, d2, d3] => { results := [.lit (.bool false)], args := [d1, d2, d3] }
  | _ => none }
def RibDumpWrongFalsely : Prop := ribDumpRow.holds Try.pinned (OpenSpec.ofChange ribDumpWrong)

/-- 'kedgelaw08.CoverIs': WHATEVER THE INPUT: true; the input reads as it did. -/
def coverIsSpec : ChangeSpec := { name := "coverIs", fn := fun _ => fun
  | [d1, d2, d3] => { results := [.lit (.bool true)], args := [d1, d2, d3] }
  | _ => none }
def coverIsRow : OpenClaim := { program := "ythdnpilkkegniaa", sum := "3608684a1854090b8b9c6084c26203bcc9a9d8fc6bdeb80b841209b59a2efd03", func := "kedge/kedgelaw08.CoverIs", spec := "coverIs", unfollowed := true, recurses := true, apart := false }
def CoverIsSaid : Prop := coverIsRow.holds Try.pinned (OpenSpec.ofChange coverIsSpec)

/-- ITS FALSE NEIGHBOUR: 'it returns false'. Refute it at one input. -/
def coverIsWrong : ChangeSpec := { name := "coverIs", fn := fun _ => fun
  | [d1, d2, d3] => { results := [.lit (.bool false)], args := [d1, d2, d3] }
  | _ => none }
def CoverIsWrongFalsely : Prop := coverIsRow.holds Try.pinned (OpenSpec.ofChange coverIsWrong)

/-- 'kedgelaw08.CoverSqueezes': WHATEVER THE INPUT: true; the input reads as it did. -/
def coverSqueezesSpec : ChangeSpec := { name := "coverSqueezes", fn := fun _ => fun
  | [d1, d2] => { results := [.lit (.bool true)], args := [d1, d2] }
  | _ => none }
def coverSqueezesRow : OpenClaim := { program := "ythdnpilkkegniaa", sum := "3608684a1854090b8b9c6084c26203bcc9a9d8fc6bdeb80b841209b59a2efd03", func := "kedge/kedgelaw08.CoverSqueezes", spec := "coverSqueezes", inPlace := ["slices.overlaps[kedge/cover.Piece]"], unfollowed := true, recurses := true, apart := false }
def CoverSqueezesSaid : Prop := coverSqueezesRow.holds Try.pinned (OpenSpec.ofChange coverSqueezesSpec)

/-- ITS FALSE NEIGHBOUR: 'it returns false'. Refute it at one input. -/
def coverSqueezesWrong : ChangeSpec := { name := "coverSqueezes", fn := fun _ => fun
  | [d1, d2] => { results := [.lit (.bool false)], args := [d1, d2] }
  | _ => none }
def CoverSqueezesWrongFalsely : Prop := coverSqueezesRow.holds Try.pinned (OpenSpec.ofChange coverSqueezesWrong)

/-- 'kedgelaw08.CoverWhole': WHATEVER THE INPUT: true; the input reads as it did. -/
def coverWholeSpec : ChangeSpec := { name := "coverWhole", fn := fun _ => fun
  | [d1, d2] => { results := [.lit (.bool true)], args := [d1, d2] }
  | _ => none }
def coverWholeRow : OpenClaim := { program := "ythdnpilkkegniaa", sum := "3608684a1854090b8b9c6084c26203bcc9a9d8fc6bdeb80b841209b59a2efd03", func := "kedge/kedgelaw08.CoverWhole", spec := "coverWhole", unfollowed := true, recurses := true, apart := false }
def CoverWholeSaid : Prop := coverWholeRow.holds Try.pinned (OpenSpec.ofChange coverWholeSpec)

/-- ITS FALSE NEIGHBOUR: 'it returns false'. Refute it at one input. -/
def coverWholeWrong : ChangeSpec := { name := "coverWhole", fn := fun _ => fun
  | [d1, d2] => { results := [.lit (.bool false)], args := [d1, d2] }
  | _ => none }
def CoverWholeWrongFalsely : Prop := coverWholeRow.holds Try.pinned (OpenSpec.ofChange coverWholeWrong)

/-- 'kedgelaw08.CoverSame': WHATEVER THE INPUT: true; the input reads as it did. -/
def coverSameSpec : ChangeSpec := { name := "coverSame", fn := fun _ => fun
  | [d1, d2, d3] => { results := [.lit (.bool true)], args := [d1, d2, d3] }
  | _ => none }
def coverSameRow : OpenClaim := { program := "ythdnpilkkegniaa", sum := "3608684a1854090b8b9c6084c26203bcc9a9d8fc6bdeb80b841209b59a2efd03", func := "kedge/kedgelaw08.CoverSame", spec := "coverSame", inPlace := ["slices.overlaps[kedge/cover.Piece]"], unfollowed := true, recurses := true, apart := false }
def CoverSameSaid : Prop := coverSameRow.holds Try.pinned (OpenSpec.ofChange coverSameSpec)

/-- ITS FALSE NEIGHBOUR: 'it returns false'. Refute it at one input. -/
def coverSameWrong : ChangeSpec := { name := "coverSame", fn := fun _ => fun
  | [d1, d2, d3] => { results := [.lit (.bool false)], args := [d1, d2, d3] }
  | _ => none }
def CoverSameWrongFalsely : Prop := coverSameRow.holds Try.pinned (OpenSpec.ofChange coverSameWrong)

/-- 'kedgelaw08.CoverLeaves': WHATEVER THE INPUT: true; the input reads as it did. -/
def coverLeavesSpec : ChangeSpec := { name := "coverLeaves", fn := fun _ => fun
  | [d1, d2] => { results := [.lit (.bool true)], args := [d1, d2] }
  | _ => none }
def coverLeavesRow : OpenClaim := { program := "ythdnpilkkegniaa", sum := "3608684a1854090b8b9c6084c26203bcc9a9d8fc6bdeb80b841209b59a2efd03", func := "kedge/kedgelaw08.CoverLeaves", spec := "coverLeaves", unfollowed := true, recurses := true, apart := false }
def CoverLeavesSaid : Prop := coverLeavesRow.holds Try.pinned (OpenSpec.ofChange coverLeavesSpec)

/-- ITS FALSE NEIGHBOUR: 'it returns false'. Refute it at one input. -/
def coverLeavesWrong : ChangeSpec := { name := "coverLeaves", fn := fun _ => fun
  | [d1, d2] => { results := [.lit (.bool false)], args := [d1, d2] }
  | _ => none }
def CoverLeavesWrongFalsely : Prop := coverLeavesRow.holds Try.pinned (OpenSpec.ofChange coverLeavesWrong)

/-- 'kedgelaw08.CoverMost': WHATEVER THE INPUT: true; the input reads as it did. -/
def coverMostSpec : ChangeSpec := { name := "coverMost", fn := fun _ => fun
  | [d1, d2, d3] => { results := [.lit (.bool true)], args := [d1, d2, d3] }
  | _ => none }
def coverMostRow : OpenClaim := { program := "ythdnpilkkegniaa", sum := "3608684a1854090b8b9c6084c26203bcc9a9d8fc6bdeb80b841209b59a2efd03", func := "kedge/kedgelaw08.CoverMost", spec := "coverMost", unfollowed := true, recurses := true, apart := false }
def CoverMostSaid : Prop := coverMostRow.holds Try.pinned (OpenSpec.ofChange coverMostSpec)

/-- ITS FALSE NEIGHBOUR: 'it returns false'. Refute it at one input. -/
def coverMostWrong : ChangeSpec := { name := "coverMost", fn := fun _ => fun
  | [d1, d2, d3] => { results := [.lit (.bool false)], args := [d1, d2, d3] }
  | _ => none }
def CoverMostWrongFalsely : Prop := coverMostRow.holds Try.pinned (OpenSpec.ofChange coverMostWrong)

/- THE SECOND FORM. 'bulk': how many values and letters a reading holds, each counted each time it is reached (what is shared counts as often as it is met; a slice's spare places count too). A statement '..UptoSaid' is the law's where the arguments, and the package variables that the reading takes, are together of bulk at most 1048576: NARROWER than '..Said'. Prove '..Said' where nothing that the law and all that it calls make is longer than what came in: it says more and counts as full. Else prove '..UptoSaid'. A law counts once. -/
mutual
def uptoBulk {H : Type} : DataW H → Nat
  | .lit (.string bytes) => bytes.length + 1
  | .lit _ => 1
  | .nil => 1
  | .ptr d => uptoBulk d + 1
  | .slice elems spare => uptoBulkAll elems + uptoBulkAll spare + 1
  | .agg parts => uptoBulkAll parts + 1
  | .iface _ d => uptoBulk d + 1
  | .map entries => uptoBulkEntries entries + 1
  | .held _ => 1
def uptoBulkAll {H : Type} : List (DataW H) → Nat
  | [] => 0
  | d :: r => uptoBulk d + uptoBulkAll r
def uptoBulkEntries {H : Type} : List (Lit × DataW H) → Nat
  | [] => 0
  | x :: r => uptoBulkEntry x + uptoBulkEntries r
def uptoBulkEntry {H : Type} : Lit × DataW H → Nat
  | (.string bytes, d) => bytes.length + uptoBulk d + 1
  | (_, d) => uptoBulk d + 1
 end
def uptoSmall : (H : Type) → List (DataW H) → Bool := fun _ ds => decide (uptoBulkAll ds ≤ 1048576)
def OpenSpec.upto (s : _root_.Go.ChangeSpec) : _root_.Go.OpenSpec := { _root_.Go.OpenSpec.ofChange s with cond := some uptoSmall }

/-- 'kedgelaw05.TriePlays', WHERE WHAT IT READS IS OF BULK AT MOST 1048576: true; the input reads as it did. -/
def triePlaysUptoRow : OpenClaim := { program := "ythdnpilkkegniaa", sum := "3608684a1854090b8b9c6084c26203bcc9a9d8fc6bdeb80b841209b59a2efd03", func := "kedge/kedgelaw05.TriePlays", spec := "triePlays", unfollowed := true, recurses := true, apart := false, narrowed := true }
def TriePlaysUptoSaid : Prop := triePlaysUptoRow.holds Try.pinned (OpenSpec.upto triePlaysSpec)

/-- 'kedgelaw06.RibDump', WHERE WHAT IT READS IS OF BULK AT MOST 1048576: true; the input reads as it did. -/
def ribDumpUptoRow : OpenClaim := { program := "ythdnpilkkegniaa", sum := "3608684a1854090b8b9c6084c26203bcc9a9d8fc6bdeb80b841209b59a2efd03", func := "kedge/kedgelaw06.RibDump", spec := "ribDump", unfollowed := true, recurses := true, apart := false, narrowed := true }
def RibDumpUptoSaid : Prop := ribDumpUptoRow.holds Try.pinned (OpenSpec.upto ribDumpSpec)

/-- 'kedgelaw08.CoverIs', WHERE WHAT IT READS IS OF BULK AT MOST 1048576: true; the input reads as it did. -/
def coverIsUptoRow : OpenClaim := { program := "ythdnpilkkegniaa", sum := "3608684a1854090b8b9c6084c26203bcc9a9d8fc6bdeb80b841209b59a2efd03", func := "kedge/kedgelaw08.CoverIs", spec := "coverIs", unfollowed := true, recurses := true, apart := false, narrowed := true }
def CoverIsUptoSaid : Prop := coverIsUptoRow.holds Try.pinned (OpenSpec.upto coverIsSpec)

/-- 'kedgelaw08.CoverSqueezes', WHERE WHAT IT READS IS OF BULK AT MOST 1048576: true; the input reads as it did. -/
def coverSqueezesUptoRow : OpenClaim := { program := "ythdnpilkkegniaa", sum := "3608684a1854090b8b9c6084c26203bcc9a9d8fc6bdeb80b841209b59a2efd03", func := "kedge/kedgelaw08.CoverSqueezes", spec := "coverSqueezes", inPlace := ["slices.overlaps[kedge/cover.Piece]"], unfollowed := true, recurses := true, apart := false, narrowed := true }
def CoverSqueezesUptoSaid : Prop := coverSqueezesUptoRow.holds Try.pinned (OpenSpec.upto coverSqueezesSpec)

/-- 'kedgelaw08.CoverWhole', WHERE WHAT IT READS IS OF BULK AT MOST 1048576: true; the input reads as it did. -/
def coverWholeUptoRow : OpenClaim := { program := "ythdnpilkkegniaa", sum := "3608684a1854090b8b9c6084c26203bcc9a9d8fc6bdeb80b841209b59a2efd03", func := "kedge/kedgelaw08.CoverWhole", spec := "coverWhole", unfollowed := true, recurses := true, apart := false, narrowed := true }
def CoverWholeUptoSaid : Prop := coverWholeUptoRow.holds Try.pinned (OpenSpec.upto coverWholeSpec)

/-- 'kedgelaw08.CoverSame', WHERE WHAT IT READS IS OF BULK AT MOST 1048576: true; the input reads as it did. -/
def coverSameUptoRow : OpenClaim := { program := "ythdnpilkkegniaa", sum := "3608684a1854090b8b9c6084c26203bcc9a9d8fc6bdeb80b841209b59a2efd03", func := "kedge/kedgelaw08.CoverSame", spec := "coverSame", inPlace := ["slices.overlaps[kedge/cover.Piece]"], unfollowed := true, recurses := true, apart := false, narrowed := true }
def CoverSameUptoSaid : Prop := coverSameUptoRow.holds Try.pinned (OpenSpec.upto coverSameSpec)

/-- 'kedgelaw08.CoverLeaves', WHERE WHAT IT READS IS OF BULK AT MOST 1048576: true; the input reads as it did. -/
def coverLeavesUptoRow : OpenClaim := { program := "ythdnpilkkegniaa", sum := "3608684a1854090b8b9c6084c26203bcc9a9d8fc6bdeb80b841209b59a2efd03", func := "kedge/kedgelaw08.CoverLeaves", spec := "coverLeaves", unfollowed := true, recurses := true, apart := false, narrowed := true }
def CoverLeavesUptoSaid : Prop := coverLeavesUptoRow.holds Try.pinned (OpenSpec.upto coverLeavesSpec)

/-- 'kedgelaw08.CoverMost', WHERE WHAT IT READS IS OF BULK AT MOST 1048576: true; the input reads as it did. -/
def coverMostUptoRow : OpenClaim := { program := "ythdnpilkkegniaa", sum := "3608684a1854090b8b9c6084c26203bcc9a9d8fc6bdeb80b841209b59a2efd03", func := "kedge/kedgelaw08.CoverMost", spec := "coverMost", unfollowed := true, recurses := true, apart := false, narrowed := true }
def CoverMostUptoSaid : Prop := coverMostUptoRow.holds Try.pinned (OpenSpec.upto coverMostSpec)

end Rows
end Go.Proofs.Ythdnpilkkegniaa
