/-
  No cell of these rows narrows 'for every input' (looked for: loops, veiled, ifaces, maps, wideKeys, modest, calm, conditions, laid).
  DERIVED. THE GIVEN ROWS OF THIS SEAT. 10 by the template 'for every input the law returns true; each argument reads behind the call as it read before'; 0 by the template 'total and deterministic' (their statements: YtnepmlhbheaonaaTotals.lean).
  GIVEN WITH THE SEED: the statements are not yours to turn. If you find one false, say at which input.
  Laid BY PROGRAM, IN A SANDBOX (cutbox-rows.mjs): the forced cells as the released guide's own fill.sh prints them over the translation 0087d447f0ec7d8f… (all of the seat's roots in one cut). By AI agents, Wed Nov 11 2026. No macro, syntax, notation, axiom, sorry.
-/
import Derived.Test.YtnepmlhbheaonaaChecked
import GoSem.Claim
import GoSem.ClaimJoined
import GoSem.ClaimMapViews
import Derived.JoinedTies
import Derived.KernelRfl
namespace Go.Proofs.Ytnepmlhbheaonaa
/- THE CELL 'sum', in the pinned program and in every row, IS THE sha256 OF THE DUMP (.gsa) THAT YtnepmlhbheaonaaProg.lean LOADS. Nothing in Lean hashes anything: it is a label: what it is worth is what the hold of that sum in a sandbox is worth. -/
noncomputable def Try.pinned : Pinned := { name := "ytnepmlhbheaonaa", sum := "0087d447f0ec7d8fd1ad094985986fcee7952e7d510116460b16df37b670d059", checked := Try.checked }
namespace Rows
def none {H : Type} : Left H := { results := [], args := [] }

/-- 'kedgelaw06.RibNone': WHATEVER THE INPUT: true; the input reads as it did. -/
def ribNoneSpec : ChangeSpec := { name := "ribNone", fn := fun _ => fun
  | [d1, d2, d3] => { results := [.lit (.bool true)], args := [d1, d2, d3] }
  | _ => none }
def ribNoneRow : OpenClaim := { program := "ytnepmlhbheaonaa", sum := "0087d447f0ec7d8fd1ad094985986fcee7952e7d510116460b16df37b670d059", func := "kedge/kedgelaw06.RibNone", spec := "ribNone", unfollowed := true, recurses := true, apart := false }
def RibNoneSaid : Prop := ribNoneRow.holds Try.pinned (OpenSpec.ofChange ribNoneSpec)

/-- ITS FALSE NEIGHBOUR: 'it returns false'. Refute it at one input. -/
def ribNoneWrong : ChangeSpec := { name := "ribNone", fn := fun _ => fun
  | [d1, d2, d3] => { results := [.lit (.bool false)], args := [d1, d2, d3] }
  | _ => none }
def RibNoneWrongFalsely : Prop := ribNoneRow.holds Try.pinned (OpenSpec.ofChange ribNoneWrong)

/-- 'kedgelaw06.RibErrors': WHATEVER THE INPUT: true; the input reads as it did. -/
def ribErrorsSpec : ChangeSpec := { name := "ribErrors", fn := fun _ => fun
  | [d1, d2, d3, d4] => { results := [.lit (.bool true)], args := [d1, d2, d3, d4] }
  | _ => none }
def ribErrorsRow : OpenClaim := { program := "ytnepmlhbheaonaa", sum := "0087d447f0ec7d8fd1ad094985986fcee7952e7d510116460b16df37b670d059", func := "kedge/kedgelaw06.RibErrors", spec := "ribErrors", unfollowed := true, recurses := true, apart := false }
def RibErrorsSaid : Prop := ribErrorsRow.holds Try.pinned (OpenSpec.ofChange ribErrorsSpec)

/-- ITS FALSE NEIGHBOUR: 'it returns false'. Refute it at one input. -/
def ribErrorsWrong : ChangeSpec := { name := "ribErrors", fn := fun _ => fun
  | [d1, d2, d3, d4] => { results := [.lit (.bool false)], args := [d1, d2, d3, d4] }
  | _ => none }
def RibErrorsWrongFalsely : Prop := ribErrorsRow.holds Try.pinned (OpenSpec.ofChange ribErrorsWrong)

/-- 'kedgelaw06.RibRoom': WHATEVER THE INPUT: true; the input reads as it did. -/
def ribRoomSpec : ChangeSpec := { name := "ribRoom", fn := fun _ => fun
  | [d1, d2, d3, d4] => { results := [.lit (.bool true)], args := [d1, d2, d3, d4] }
  | _ => none }
def ribRoomRow : OpenClaim := { program := "ytnepmlhbheaonaa", sum := "0087d447f0ec7d8fd1ad094985986fcee7952e7d510116460b16df37b670d059", func := "kedge/kedgelaw06.RibRoom", spec := "ribRoom", unfollowed := true, recurses := true, apart := false }
def RibRoomSaid : Prop := ribRoomRow.holds Try.pinned (OpenSpec.ofChange ribRoomSpec)

/-- ITS FALSE NEIGHBOUR: 'it returns false'. Refute it at one input. -/
def ribRoomWrong : ChangeSpec := { name := "ribRoom", fn := fun _ => fun
  | [d1, d2, d3, d4] => { results := [.lit (.bool false)], args := [d1, d2, d3, d4] }
  | _ => none }
def RibRoomWrongFalsely : Prop := ribRoomRow.holds Try.pinned (OpenSpec.ofChange ribRoomWrong)

/-- 'kedgelaw06.RibLongest': WHATEVER THE INPUT: true; the input reads as it did. -/
def ribLongestSpec : ChangeSpec := { name := "ribLongest", fn := fun _ => fun
  | [d1, d2, d3] => { results := [.lit (.bool true)], args := [d1, d2, d3] }
  | _ => none }
def ribLongestRow : OpenClaim := { program := "ytnepmlhbheaonaa", sum := "0087d447f0ec7d8fd1ad094985986fcee7952e7d510116460b16df37b670d059", func := "kedge/kedgelaw06.RibLongest", spec := "ribLongest", unfollowed := true, recurses := true, apart := false }
def RibLongestSaid : Prop := ribLongestRow.holds Try.pinned (OpenSpec.ofChange ribLongestSpec)

/-- ITS FALSE NEIGHBOUR: 'it returns false'. Refute it at one input. -/
def ribLongestWrong : ChangeSpec := { name := "ribLongest", fn := fun _ => fun
  | [d1, d2, d3] => { results := [.lit (.bool false)], args := [d1, d2, d3] }
  | _ => none }
def RibLongestWrongFalsely : Prop := ribLongestRow.holds Try.pinned (OpenSpec.ofChange ribLongestWrong)

/-- 'kedgelaw06.RibDump': WHATEVER THE INPUT: true; the input reads as it did. -/
def ribDumpSpec : ChangeSpec := { name := "ribDump", fn := fun _ => fun
  | [d1, d2, d3] => { results := [.lit (.bool true)], args := [d1, d2, d3] }
  | _ => none }
def ribDumpRow : OpenClaim := { program := "ytnepmlhbheaonaa", sum := "0087d447f0ec7d8fd1ad094985986fcee7952e7d510116460b16df37b670d059", func := "kedge/kedgelaw06.RibDump", spec := "ribDump", unfollowed := true, recurses := true, apart := false }
def RibDumpSaid : Prop := ribDumpRow.holds Try.pinned (OpenSpec.ofChange ribDumpSpec)

/-- ITS FALSE NEIGHBOUR: 'it returns false'. Refute it at one input. -/
def ribDumpWrong : ChangeSpec := { name := "ribDump", fn := fun _ => fun
  | [d1, d2, d3] => { results := [.lit (.bool false)], args := [d1, d2, d3] }
  | _ => none }
def RibDumpWrongFalsely : Prop := ribDumpRow.holds Try.pinned (OpenSpec.ofChange ribDumpWrong)

/-- 'kedgelaw06.RibFull': WHATEVER THE INPUT: true; the input reads as it did. -/
def ribFullSpec : ChangeSpec := { name := "ribFull", fn := fun _ => fun
  | [d1, d2, d3, d4] => { results := [.lit (.bool true)], args := [d1, d2, d3, d4] }
  | _ => none }
def ribFullRow : OpenClaim := { program := "ytnepmlhbheaonaa", sum := "0087d447f0ec7d8fd1ad094985986fcee7952e7d510116460b16df37b670d059", func := "kedge/kedgelaw06.RibFull", spec := "ribFull", unfollowed := true, recurses := true, apart := false }
def RibFullSaid : Prop := ribFullRow.holds Try.pinned (OpenSpec.ofChange ribFullSpec)

/-- ITS FALSE NEIGHBOUR: 'it returns false'. Refute it at one input. -/
def ribFullWrong : ChangeSpec := { name := "ribFull", fn := fun _ => fun
  | [d1, d2, d3, d4] => { results := [.lit (.bool false)], args := [d1, d2, d3, d4] }
  | _ => none }
def RibFullWrongFalsely : Prop := ribFullRow.holds Try.pinned (OpenSpec.ofChange ribFullWrong)

/-- 'kedgelaw05.TriePlays': WHATEVER THE INPUT: true; the input reads as it did. -/
def triePlaysSpec : ChangeSpec := { name := "triePlays", fn := fun _ => fun
  | [d1, d2, d3] => { results := [.lit (.bool true)], args := [d1, d2, d3] }
  | _ => none }
def triePlaysRow : OpenClaim := { program := "ytnepmlhbheaonaa", sum := "0087d447f0ec7d8fd1ad094985986fcee7952e7d510116460b16df37b670d059", func := "kedge/kedgelaw05.TriePlays", spec := "triePlays", unfollowed := true, recurses := true, apart := false }
def TriePlaysSaid : Prop := triePlaysRow.holds Try.pinned (OpenSpec.ofChange triePlaysSpec)

/-- ITS FALSE NEIGHBOUR: 'it returns false'. Refute it at one input. -/
def triePlaysWrong : ChangeSpec := { name := "triePlays", fn := fun _ => fun
  | [d1, d2, d3] => { results := [.lit (.bool false)], args := [d1, d2, d3] }
  | _ => none }
def TriePlaysWrongFalsely : Prop := triePlaysRow.holds Try.pinned (OpenSpec.ofChange triePlaysWrong)

/-- 'kedgelaw05.TrieNone': WHATEVER THE INPUT: true; the input reads as it did. -/
def trieNoneSpec : ChangeSpec := { name := "trieNone", fn := fun _ => fun
  | [d1, d2, d3] => { results := [.lit (.bool true)], args := [d1, d2, d3] }
  | _ => none }
def trieNoneRow : OpenClaim := { program := "ytnepmlhbheaonaa", sum := "0087d447f0ec7d8fd1ad094985986fcee7952e7d510116460b16df37b670d059", func := "kedge/kedgelaw05.TrieNone", spec := "trieNone", unfollowed := true, recurses := true, apart := false }
def TrieNoneSaid : Prop := trieNoneRow.holds Try.pinned (OpenSpec.ofChange trieNoneSpec)

/-- ITS FALSE NEIGHBOUR: 'it returns false'. Refute it at one input. -/
def trieNoneWrong : ChangeSpec := { name := "trieNone", fn := fun _ => fun
  | [d1, d2, d3] => { results := [.lit (.bool false)], args := [d1, d2, d3] }
  | _ => none }
def TrieNoneWrongFalsely : Prop := trieNoneRow.holds Try.pinned (OpenSpec.ofChange trieNoneWrong)

/-- 'kedgelaw05.TrieLongest': WHATEVER THE INPUT: true; the input reads as it did. -/
def trieLongestSpec : ChangeSpec := { name := "trieLongest", fn := fun _ => fun
  | [d1, d2] => { results := [.lit (.bool true)], args := [d1, d2] }
  | _ => none }
def trieLongestRow : OpenClaim := { program := "ytnepmlhbheaonaa", sum := "0087d447f0ec7d8fd1ad094985986fcee7952e7d510116460b16df37b670d059", func := "kedge/kedgelaw05.TrieLongest", spec := "trieLongest", unfollowed := true, recurses := true, apart := false }
def TrieLongestSaid : Prop := trieLongestRow.holds Try.pinned (OpenSpec.ofChange trieLongestSpec)

/-- ITS FALSE NEIGHBOUR: 'it returns false'. Refute it at one input. -/
def trieLongestWrong : ChangeSpec := { name := "trieLongest", fn := fun _ => fun
  | [d1, d2] => { results := [.lit (.bool false)], args := [d1, d2] }
  | _ => none }
def TrieLongestWrongFalsely : Prop := trieLongestRow.holds Try.pinned (OpenSpec.ofChange trieLongestWrong)

/-- 'kedgelaw05.TrieUnder': WHATEVER THE INPUT: true; the input reads as it did. -/
def trieUnderSpec : ChangeSpec := { name := "trieUnder", fn := fun _ => fun
  | [d1, d2] => { results := [.lit (.bool true)], args := [d1, d2] }
  | _ => none }
def trieUnderRow : OpenClaim := { program := "ytnepmlhbheaonaa", sum := "0087d447f0ec7d8fd1ad094985986fcee7952e7d510116460b16df37b670d059", func := "kedge/kedgelaw05.TrieUnder", spec := "trieUnder", unfollowed := true, recurses := true, apart := false }
def TrieUnderSaid : Prop := trieUnderRow.holds Try.pinned (OpenSpec.ofChange trieUnderSpec)

/-- ITS FALSE NEIGHBOUR: 'it returns false'. Refute it at one input. -/
def trieUnderWrong : ChangeSpec := { name := "trieUnder", fn := fun _ => fun
  | [d1, d2] => { results := [.lit (.bool false)], args := [d1, d2] }
  | _ => none }
def TrieUnderWrongFalsely : Prop := trieUnderRow.holds Try.pinned (OpenSpec.ofChange trieUnderWrong)

/- THE SECOND FORM. 'bulk': how many values and letters a reading holds, each counted each time it is reached (what is shared counts as often as it is met; a slice's spare places count too). A statement '..UptoSaid' is the law's where the arguments, and the package variables that the reading takes, are together of bulk at most 1048576: NARROWER than '..Said'. Prove '..Said' where nothing that the law and all that it calls make is longer than what came in: it says more and counts as full. Else prove '..UptoSaid'. A law counts once. -/
mutual
def uptoBulk {H : Type} : DataW H → Nat
  | .lit (.string bytes) => bytes.length + 1
  | .lit _ => 1
  | .nil => 1
  | .ptr d => uptoBulk d + 1
  | .slice elems spare => uptoBulkAll elems + uptoBulkAll spare + 1
  | .agg parts => uptoBulkAll parts + 1
  | .iface _ d => uptoBulk d + 1
  | .map entries => uptoBulkEntries entries + 1
  | .held _ => 1
def uptoBulkAll {H : Type} : List (DataW H) → Nat
  | [] => 0
  | d :: r => uptoBulk d + uptoBulkAll r
def uptoBulkEntries {H : Type} : List (Lit × DataW H) → Nat
  | [] => 0
  | x :: r => uptoBulkEntry x + uptoBulkEntries r
def uptoBulkEntry {H : Type} : Lit × DataW H → Nat
  | (.string bytes, d) => bytes.length + uptoBulk d + 1
  | (_, d) => uptoBulk d + 1
 end
def uptoSmall : (H : Type) → List (DataW H) → Bool := fun _ ds => decide (uptoBulkAll ds ≤ 1048576)
def OpenSpec.upto (s : _root_.Go.ChangeSpec) : _root_.Go.OpenSpec := { _root_.Go.OpenSpec.ofChange s with cond := some uptoSmall }

/-- 'kedgelaw06.RibNone', WHERE WHAT IT READS IS OF BULK AT MOST 1048576: true; the input reads as it did. -/
def ribNoneUptoRow : OpenClaim := { program := "ytnepmlhbheaonaa", sum := "0087d447f0ec7d8fd1ad094985986fcee7952e7d510116460b16df37b670d059", func := "kedge/kedgelaw06.RibNone", spec := "ribNone", unfollowed := true, recurses := true, apart := false, narrowed := true }
def RibNoneUptoSaid : Prop := ribNoneUptoRow.holds Try.pinned (OpenSpec.upto ribNoneSpec)

/-- 'kedgelaw06.RibErrors', WHERE WHAT IT READS IS OF BULK AT MOST 1048576: true; the input reads as it did. -/
def ribErrorsUptoRow : OpenClaim := { program := "ytnepmlhbheaonaa", sum := "0087d447f0ec7d8fd1ad094985986fcee7952e7d510116460b16df37b670d059", func := "kedge/kedgelaw06.RibErrors", spec := "ribErrors", unfollowed := true, recurses := true, apart := false, narrowed := true }
def RibErrorsUptoSaid : Prop := ribErrorsUptoRow.holds Try.pinned (OpenSpec.upto ribErrorsSpec)

/-- 'kedgelaw06.RibRoom', WHERE WHAT IT READS IS OF BULK AT MOST 1048576: true; the input reads as it did. -/
def ribRoomUptoRow : OpenClaim := { program := "ytnepmlhbheaonaa", sum := "0087d447f0ec7d8fd1ad094985986fcee7952e7d510116460b16df37b670d059", func := "kedge/kedgelaw06.RibRoom", spec := "ribRoom", unfollowed := true, recurses := true, apart := false, narrowed := true }
def RibRoomUptoSaid : Prop := ribRoomUptoRow.holds Try.pinned (OpenSpec.upto ribRoomSpec)

/-- 'kedgelaw06.RibLongest', WHERE WHAT IT READS IS OF BULK AT MOST 1048576: true; the input reads as it did. -/
def ribLongestUptoRow : OpenClaim := { program := "ytnepmlhbheaonaa", sum := "0087d447f0ec7d8fd1ad094985986fcee7952e7d510116460b16df37b670d059", func := "kedge/kedgelaw06.RibLongest", spec := "ribLongest", unfollowed := true, recurses := true, apart := false, narrowed := true }
def RibLongestUptoSaid : Prop := ribLongestUptoRow.holds Try.pinned (OpenSpec.upto ribLongestSpec)

/-- 'kedgelaw06.RibDump', WHERE WHAT IT READS IS OF BULK AT MOST 1048576: true; the input reads as it did. -/
def ribDumpUptoRow : OpenClaim := { program := "ytnepmlhbheaonaa", sum := "0087d447f0ec7d8fd1ad094985986fcee7952e7d510116460b16df37b670d059", func := "kedge/kedgelaw06.RibDump", spec := "ribDump", unfollowed := true, recurses := true, apart := false, narrowed := true }
def RibDumpUptoSaid : Prop := ribDumpUptoRow.holds Try.pinned (OpenSpec.upto ribDumpSpec)

/-- 'kedgelaw06.RibFull', WHERE WHAT IT READS IS OF BULK AT MOST 1048576: true; the input reads as it did. -/
def ribFullUptoRow : OpenClaim := { program := "ytnepmlhbheaonaa", sum := "0087d447f0ec7d8fd1ad094985986fcee7952e7d510116460b16df37b670d059", func := "kedge/kedgelaw06.RibFull", spec := "ribFull", unfollowed := true, recurses := true, apart := false, narrowed := true }
def RibFullUptoSaid : Prop := ribFullUptoRow.holds Try.pinned (OpenSpec.upto ribFullSpec)

/-- 'kedgelaw05.TriePlays', WHERE WHAT IT READS IS OF BULK AT MOST 1048576: true; the input reads as it did. -/
def triePlaysUptoRow : OpenClaim := { program := "ytnepmlhbheaonaa", sum := "0087d447f0ec7d8fd1ad094985986fcee7952e7d510116460b16df37b670d059", func := "kedge/kedgelaw05.TriePlays", spec := "triePlays", unfollowed := true, recurses := true, apart := false, narrowed := true }
def TriePlaysUptoSaid : Prop := triePlaysUptoRow.holds Try.pinned (OpenSpec.upto triePlaysSpec)

/-- 'kedgelaw05.TrieNone', WHERE WHAT IT READS IS OF BULK AT MOST 1048576: true; the input reads as it did. -/
def trieNoneUptoRow : OpenClaim := { program := "ytnepmlhbheaonaa", sum := "0087d447f0ec7d8fd1ad094985986fcee7952e7d510116460b16df37b670d059", func := "kedge/kedgelaw05.TrieNone", spec := "trieNone", unfollowed := true, recurses := true, apart := false, narrowed := true }
def TrieNoneUptoSaid : Prop := trieNoneUptoRow.holds Try.pinned (OpenSpec.upto trieNoneSpec)

/-- 'kedgelaw05.TrieLongest', WHERE WHAT IT READS IS OF BULK AT MOST 1048576: true; the input reads as it did. -/
def trieLongestUptoRow : OpenClaim := { program := "ytnepmlhbheaonaa", sum := "0087d447f0ec7d8fd1ad094985986fcee7952e7d510116460b16df37b670d059", func := "kedge/kedgelaw05.TrieLongest", spec := "trieLongest", unfollowed := true, recurses := true, apart := false, narrowed := true }
def TrieLongestUptoSaid : Prop := trieLongestUptoRow.holds Try.pinned (OpenSpec.upto trieLongestSpec)

/-- 'kedgelaw05.TrieUnder', WHERE WHAT IT READS IS OF BULK AT MOST 1048576: true; the input reads as it did. -/
def trieUnderUptoRow : OpenClaim := { program := "ytnepmlhbheaonaa", sum := "0087d447f0ec7d8fd1ad094985986fcee7952e7d510116460b16df37b670d059", func := "kedge/kedgelaw05.TrieUnder", spec := "trieUnder", unfollowed := true, recurses := true, apart := false, narrowed := true }
def TrieUnderUptoSaid : Prop := trieUnderUptoRow.holds Try.pinned (OpenSpec.upto trieUnderSpec)

end Rows
end Go.Proofs.Ytnepmlhbheaonaa
