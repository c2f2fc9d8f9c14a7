/-
  No cell of these rows narrows 'for every input' (looked for: loops, veiled, ifaces, maps, wideKeys, modest, calm, conditions, laid).
  DERIVED. THE GIVEN ROWS OF THIS SEAT. 5 by the template 'for every input the law returns true; each argument reads behind the call as it read before'; 0 by the template 'total and deterministic' (their statements: YtpigdjlanabacaaTotals.lean).
  GIVEN WITH THE SEED: the statements are not yours to turn. If you find one false, say at which input.
  Laid BY PROGRAM, IN A SANDBOX (cutbox-rows.mjs): the forced cells as the released guide's own fill.sh prints them over the translation 1aefc36194c07d8a… (all of the seat's roots in one cut). By AI agents, Wed Nov 11 2026. No macro, syntax, notation, axiom, sorry.
-/
import Derived.Test.YtpigdjlanabacaaChecked
import GoSem.Claim
import GoSem.ClaimJoined
import GoSem.ClaimMapViews
import Derived.JoinedTies
import Derived.KernelRfl
namespace Go.Proofs.Ytpigdjlanabacaa
/- THE CELL 'sum', in the pinned program and in every row, IS THE sha256 OF THE DUMP (.gsa) THAT YtpigdjlanabacaaProg.lean LOADS. Nothing in Lean hashes anything: it is a label: what it is worth is what the hold of that sum in a sandbox is worth. -/
noncomputable def Try.pinned : Pinned := { name := "ytpigdjlanabacaa", sum := "1aefc36194c07d8a110d098fdcf563c4e22ec3b7090783eb36dbf9cbbd32a941", checked := Try.checked }
namespace Rows
def none {H : Type} : Left H := { results := [], args := [] }

/-- 'kedgelaw11.SketchPlays': WHATEVER THE INPUT: true; the input reads as it did. -/
def sketchPlaysSpec : ChangeSpec := { name := "sketchPlays", fn := fun _ => fun
  | [d1, d2, d3, d4, d5] => { results := [.lit (.bool true)], args := [d1, d2, d3, d4, d5] }
  | _ => none }
def sketchPlaysRow : OpenClaim := { program := "ytpigdjlanabacaa", sum := "1aefc36194c07d8a110d098fdcf563c4e22ec3b7090783eb36dbf9cbbd32a941", func := "kedge/kedgelaw11.SketchPlays", spec := "sketchPlays", apart := false }
def SketchPlaysSaid : Prop := sketchPlaysRow.holds Try.pinned (OpenSpec.ofChange sketchPlaysSpec)

/-- ITS FALSE NEIGHBOUR: 'it returns false'. Refute it at one input. -/
def sketchPlaysWrong : ChangeSpec := { name := "sketchPlays", fn := fun _ => fun
  | [d1, d2, d3, d4, d5] => { results := [.lit (.bool false)], args := [d1, d2, d3, d4, d5] }
  | _ => none }
def SketchPlaysWrongFalsely : Prop := sketchPlaysRow.holds Try.pinned (OpenSpec.ofChange sketchPlaysWrong)

/-- 'kedgelaw11.SketchNone': WHATEVER THE INPUT: true; the input reads as it did. -/
def sketchNoneSpec : ChangeSpec := { name := "sketchNone", fn := fun _ => fun
  | [d] => { results := [.lit (.bool true)], args := [d] }
  | _ => none }
def sketchNoneRow : OpenClaim := { program := "ytpigdjlanabacaa", sum := "1aefc36194c07d8a110d098fdcf563c4e22ec3b7090783eb36dbf9cbbd32a941", func := "kedge/kedgelaw11.SketchNone", spec := "sketchNone", apart := false }
def SketchNoneSaid : Prop := sketchNoneRow.holds Try.pinned (OpenSpec.ofChange sketchNoneSpec)

/-- ITS FALSE NEIGHBOUR: 'it returns false'. Refute it at one input. -/
def sketchNoneWrong : ChangeSpec := { name := "sketchNone", fn := fun _ => fun
  | [d] => { results := [.lit (.bool false)], args := [d] }
  | _ => none }
def SketchNoneWrongFalsely : Prop := sketchNoneRow.holds Try.pinned (OpenSpec.ofChange sketchNoneWrong)

/-- 'kedgelaw11.SketchLeast': WHATEVER THE INPUT: true; the input reads as it did. -/
def sketchLeastSpec : ChangeSpec := { name := "sketchLeast", fn := fun _ => fun
  | [d1, d2, d3, d4] => { results := [.lit (.bool true)], args := [d1, d2, d3, d4] }
  | _ => none }
def sketchLeastRow : OpenClaim := { program := "ytpigdjlanabacaa", sum := "1aefc36194c07d8a110d098fdcf563c4e22ec3b7090783eb36dbf9cbbd32a941", func := "kedge/kedgelaw11.SketchLeast", spec := "sketchLeast", apart := false }
def SketchLeastSaid : Prop := sketchLeastRow.holds Try.pinned (OpenSpec.ofChange sketchLeastSpec)

/-- ITS FALSE NEIGHBOUR: 'it returns false'. Refute it at one input. -/
def sketchLeastWrong : ChangeSpec := { name := "sketchLeast", fn := fun _ => fun
  | [d1, d2, d3, d4] => { results := [.lit (.bool false)], args := [d1, d2, d3, d4] }
  | _ => none }
def SketchLeastWrongFalsely : Prop := sketchLeastRow.holds Try.pinned (OpenSpec.ofChange sketchLeastWrong)

/-- 'kedgelaw11.SketchFull': WHATEVER THE INPUT: true; the input reads as it did. -/
def sketchFullSpec : ChangeSpec := { name := "sketchFull", fn := fun _ => fun
  | [d1, d2, d3] => { results := [.lit (.bool true)], args := [d1, d2, d3] }
  | _ => none }
def sketchFullRow : OpenClaim := { program := "ytpigdjlanabacaa", sum := "1aefc36194c07d8a110d098fdcf563c4e22ec3b7090783eb36dbf9cbbd32a941", func := "kedge/kedgelaw11.SketchFull", spec := "sketchFull", apart := false }
def SketchFullSaid : Prop := sketchFullRow.holds Try.pinned (OpenSpec.ofChange sketchFullSpec)

/-- ITS FALSE NEIGHBOUR: 'it returns false'. Refute it at one input. -/
def sketchFullWrong : ChangeSpec := { name := "sketchFull", fn := fun _ => fun
  | [d1, d2, d3] => { results := [.lit (.bool false)], args := [d1, d2, d3] }
  | _ => none }
def SketchFullWrongFalsely : Prop := sketchFullRow.holds Try.pinned (OpenSpec.ofChange sketchFullWrong)

/-- 'kedgelaw11.SketchApart': WHATEVER THE INPUT: true; the input reads as it did. -/
def sketchApartSpec : ChangeSpec := { name := "sketchApart", fn := fun _ => fun
  | [d1, d2, d3, d4] => { results := [.lit (.bool true)], args := [d1, d2, d3, d4] }
  | _ => none }
def sketchApartRow : OpenClaim := { program := "ytpigdjlanabacaa", sum := "1aefc36194c07d8a110d098fdcf563c4e22ec3b7090783eb36dbf9cbbd32a941", func := "kedge/kedgelaw11.SketchApart", spec := "sketchApart", apart := false }
def SketchApartSaid : Prop := sketchApartRow.holds Try.pinned (OpenSpec.ofChange sketchApartSpec)

/-- ITS FALSE NEIGHBOUR: 'it returns false'. Refute it at one input. -/
def sketchApartWrong : ChangeSpec := { name := "sketchApart", fn := fun _ => fun
  | [d1, d2, d3, d4] => { results := [.lit (.bool false)], args := [d1, d2, d3, d4] }
  | _ => none }
def SketchApartWrongFalsely : Prop := sketchApartRow.holds Try.pinned (OpenSpec.ofChange sketchApartWrong)

/- THE SECOND FORM. 'bulk': how many values and letters a reading holds, each counted each time it is reached (what is shared counts as often as it is met; a slice's spare places count too). A statement '..UptoSaid' is the law's where the arguments, and the package variables that the reading takes, are together of bulk at most 1048576: NARROWER than '..Said'. Prove '..Said' where nothing that the law and all that it calls make is longer than what came in: it says more and counts as full. Else prove '..UptoSaid'. A law counts once. -/
mutual
def uptoBulk {H : Type} : DataW H → Nat
  | .lit (.string bytes) => bytes.length + 1
  | .lit _ => 1
  | .nil => 1
  | .ptr d => uptoBulk d + 1
  | .slice elems spare => uptoBulkAll elems + uptoBulkAll spare + 1
  | .agg parts => uptoBulkAll parts + 1
  | .iface _ d => uptoBulk d + 1
  | .map entries => uptoBulkEntries entries + 1
  | .held _ => 1
def uptoBulkAll {H : Type} : List (DataW H) → Nat
  | [] => 0
  | d :: r => uptoBulk d + uptoBulkAll r
def uptoBulkEntries {H : Type} : List (Lit × DataW H) → Nat
  | [] => 0
  | x :: r => uptoBulkEntry x + uptoBulkEntries r
def uptoBulkEntry {H : Type} : Lit × DataW H → Nat
  | (.string bytes, d) => bytes.length + uptoBulk d + 1
  | (_, d) => uptoBulk d + 1
 end
def uptoSmall : (H : Type) → List (DataW H) → Bool := fun _ ds => decide (uptoBulkAll ds ≤ 1048576)
def OpenSpec.upto (s : _root_.Go.ChangeSpec) : _root_.Go.OpenSpec := { _root_.Go.OpenSpec.ofChange s with cond := some uptoSmall }

/-- 'kedgelaw11.SketchPlays', WHERE WHAT IT READS IS OF BULK AT MOST 1048576: true; the input reads as it did. -/
def sketchPlaysUptoRow : OpenClaim := { program := "ytpigdjlanabacaa", sum := "1aefc36194c07d8a110d098fdcf563c4e22ec3b7090783eb36dbf9cbbd32a941", func := "kedge/kedgelaw11.SketchPlays", spec := "sketchPlays", apart := false, narrowed := true }
def SketchPlaysUptoSaid : Prop := sketchPlaysUptoRow.holds Try.pinned (OpenSpec.upto sketchPlaysSpec)

/-- 'kedgelaw11.SketchNone', WHERE WHAT IT READS IS OF BULK AT MOST 1048576: true; the input reads as it did. -/
def sketchNoneUptoRow : OpenClaim := { program := "ytpigdjlanabacaa", sum := "1aefc36194c07d8a110d098fdcf563c4e22ec3b7090783eb36dbf9cbbd32a941", func := "kedge/kedgelaw11.SketchNone", spec := "sketchNone", apart := false, narrowed := true }
def SketchNoneUptoSaid : Prop := sketchNoneUptoRow.holds Try.pinned (OpenSpec.upto sketchNoneSpec)

/-- 'kedgelaw11.SketchLeast', WHERE WHAT IT READS IS OF BULK AT MOST 1048576: true; the input reads as it did. -/
def sketchLeastUptoRow : OpenClaim := { program := "ytpigdjlanabacaa", sum := "1aefc36194c07d8a110d098fdcf563c4e22ec3b7090783eb36dbf9cbbd32a941", func := "kedge/kedgelaw11.SketchLeast", spec := "sketchLeast", apart := false, narrowed := true }
def SketchLeastUptoSaid : Prop := sketchLeastUptoRow.holds Try.pinned (OpenSpec.upto sketchLeastSpec)

/-- 'kedgelaw11.SketchFull', WHERE WHAT IT READS IS OF BULK AT MOST 1048576: true; the input reads as it did. -/
def sketchFullUptoRow : OpenClaim := { program := "ytpigdjlanabacaa", sum := "1aefc36194c07d8a110d098fdcf563c4e22ec3b7090783eb36dbf9cbbd32a941", func := "kedge/kedgelaw11.SketchFull", spec := "sketchFull", apart := false, narrowed := true }
def SketchFullUptoSaid : Prop := sketchFullUptoRow.holds Try.pinned (OpenSpec.upto sketchFullSpec)

/-- 'kedgelaw11.SketchApart', WHERE WHAT IT READS IS OF BULK AT MOST 1048576: true; the input reads as it did. -/
def sketchApartUptoRow : OpenClaim := { program := "ytpigdjlanabacaa", sum := "1aefc36194c07d8a110d098fdcf563c4e22ec3b7090783eb36dbf9cbbd32a941", func := "kedge/kedgelaw11.SketchApart", spec := "sketchApart", apart := false, narrowed := true }
def SketchApartUptoSaid : Prop := sketchApartUptoRow.holds Try.pinned (OpenSpec.upto sketchApartSpec)

end Rows
end Go.Proofs.Ytpigdjlanabacaa
