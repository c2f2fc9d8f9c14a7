/-
  No cell of these rows narrows 'for every input' (looked for: loops, veiled, ifaces, maps, wideKeys, modest, calm, conditions, laid).
  DERIVED. THE GIVEN ROWS OF THIS SEAT. 5 by the template 'for every input the law returns true; each argument reads behind the call as it read before'; 0 by the template 'total and deterministic' (their statements: YtkkjdpmkiedbiaaTotals.lean).
  GIVEN WITH THE SEED: the statements are not yours to turn. If you find one false, say at which input.
  Laid BY PROGRAM, IN A SANDBOX (cutbox-rows.mjs): the forced cells as the released guide's own fill.sh prints them over the translation a1eef994a558df5f… (all of the seat's roots in one cut). By AI agents, Wed Nov 11 2026. No macro, syntax, notation, axiom, sorry.
-/
import Derived.Test.YtkkjdpmkiedbiaaChecked
import GoSem.Claim
import GoSem.ClaimJoined
import GoSem.ClaimMapViews
import Derived.JoinedTies
import Derived.KernelRfl
namespace Go.Proofs.Ytkkjdpmkiedbiaa
/- THE CELL 'sum', in the pinned program and in every row, IS THE sha256 OF THE DUMP (.gsa) THAT YtkkjdpmkiedbiaaProg.lean LOADS. Nothing in Lean hashes anything: it is a label: what it is worth is what the hold of that sum in a sandbox is worth. -/
noncomputable def Try.pinned : Pinned := { name := "ytkkjdpmkiedbiaa", sum := "a1eef994a558df5fb33b3177aba154380739f9430f8580936b22ac2b07c5f0af", checked := Try.checked }
namespace Rows
def none {H : Type} : Left H := { results := [], args := [] }

/-- 'kedgelaw10.RecencyPlays': WHATEVER THE INPUT: true; the input reads as it did. -/
def recencyPlaysSpec : ChangeSpec := { name := "recencyPlays", fn := fun _ => fun
  | [d1, d2, d3] => { results := [.lit (.bool true)], args := [d1, d2, d3] }
  | _ => none }
def recencyPlaysRow : OpenClaim := { program := "ytkkjdpmkiedbiaa", sum := "a1eef994a558df5fb33b3177aba154380739f9430f8580936b22ac2b07c5f0af", func := "kedge/kedgelaw10.RecencyPlays", spec := "recencyPlays", apart := false }
def RecencyPlaysSaid : Prop := recencyPlaysRow.holds Try.pinned (OpenSpec.ofChange recencyPlaysSpec)

/-- ITS FALSE NEIGHBOUR: 'it returns false'. Refute it at one input. -/
def recencyPlaysWrong : ChangeSpec := { name := "recencyPlays", fn := fun _ => fun
  | [d1, d2, d3] => { results := [.lit (.bool false)], args := [d1, d2, d3] }
  | _ => none }
def RecencyPlaysWrongFalsely : Prop := recencyPlaysRow.holds Try.pinned (OpenSpec.ofChange recencyPlaysWrong)

/-- 'kedgelaw10.RecencyNone': WHATEVER THE INPUT: true; the input reads as it did. -/
def recencyNoneSpec : ChangeSpec := { name := "recencyNone", fn := fun _ => fun
  | [d] => { results := [.lit (.bool true)], args := [d] }
  | _ => none }
def recencyNoneRow : OpenClaim := { program := "ytkkjdpmkiedbiaa", sum := "a1eef994a558df5fb33b3177aba154380739f9430f8580936b22ac2b07c5f0af", func := "kedge/kedgelaw10.RecencyNone", spec := "recencyNone", apart := false }
def RecencyNoneSaid : Prop := recencyNoneRow.holds Try.pinned (OpenSpec.ofChange recencyNoneSpec)

/-- ITS FALSE NEIGHBOUR: 'it returns false'. Refute it at one input. -/
def recencyNoneWrong : ChangeSpec := { name := "recencyNone", fn := fun _ => fun
  | [d] => { results := [.lit (.bool false)], args := [d] }
  | _ => none }
def RecencyNoneWrongFalsely : Prop := recencyNoneRow.holds Try.pinned (OpenSpec.ofChange recencyNoneWrong)

/-- 'kedgelaw10.RecencyOrder': WHATEVER THE INPUT: true; the input reads as it did. -/
def recencyOrderSpec : ChangeSpec := { name := "recencyOrder", fn := fun _ => fun
  | [d1, d2] => { results := [.lit (.bool true)], args := [d1, d2] }
  | _ => none }
def recencyOrderRow : OpenClaim := { program := "ytkkjdpmkiedbiaa", sum := "a1eef994a558df5fb33b3177aba154380739f9430f8580936b22ac2b07c5f0af", func := "kedge/kedgelaw10.RecencyOrder", spec := "recencyOrder", apart := false }
def RecencyOrderSaid : Prop := recencyOrderRow.holds Try.pinned (OpenSpec.ofChange recencyOrderSpec)

/-- ITS FALSE NEIGHBOUR: 'it returns false'. Refute it at one input. -/
def recencyOrderWrong : ChangeSpec := { name := "recencyOrder", fn := fun _ => fun
  | [d1, d2] => { results := [.lit (.bool false)], args := [d1, d2] }
  | _ => none }
def RecencyOrderWrongFalsely : Prop := recencyOrderRow.holds Try.pinned (OpenSpec.ofChange recencyOrderWrong)

/-- 'kedgelaw10.RecencyDrains': WHATEVER THE INPUT: true; the input reads as it did. -/
def recencyDrainsSpec : ChangeSpec := { name := "recencyDrains", fn := fun _ => fun
  | [d1, d2] => { results := [.lit (.bool true)], args := [d1, d2] }
  | _ => none }
def recencyDrainsRow : OpenClaim := { program := "ytkkjdpmkiedbiaa", sum := "a1eef994a558df5fb33b3177aba154380739f9430f8580936b22ac2b07c5f0af", func := "kedge/kedgelaw10.RecencyDrains", spec := "recencyDrains", apart := false }
def RecencyDrainsSaid : Prop := recencyDrainsRow.holds Try.pinned (OpenSpec.ofChange recencyDrainsSpec)

/-- ITS FALSE NEIGHBOUR: 'it returns false'. Refute it at one input. -/
def recencyDrainsWrong : ChangeSpec := { name := "recencyDrains", fn := fun _ => fun
  | [d1, d2] => { results := [.lit (.bool false)], args := [d1, d2] }
  | _ => none }
def RecencyDrainsWrongFalsely : Prop := recencyDrainsRow.holds Try.pinned (OpenSpec.ofChange recencyDrainsWrong)

/-- 'kedgelaw10.RecencyTouched': WHATEVER THE INPUT: true; the input reads as it did. -/
def recencyTouchedSpec : ChangeSpec := { name := "recencyTouched", fn := fun _ => fun
  | [d1, d2] => { results := [.lit (.bool true)], args := [d1, d2] }
  | _ => none }
def recencyTouchedRow : OpenClaim := { program := "ytkkjdpmkiedbiaa", sum := "a1eef994a558df5fb33b3177aba154380739f9430f8580936b22ac2b07c5f0af", func := "kedge/kedgelaw10.RecencyTouched", spec := "recencyTouched", apart := false }
def RecencyTouchedSaid : Prop := recencyTouchedRow.holds Try.pinned (OpenSpec.ofChange recencyTouchedSpec)

/-- ITS FALSE NEIGHBOUR: 'it returns false'. Refute it at one input. -/
def recencyTouchedWrong : ChangeSpec := { name := "recencyTouched", fn := fun _ => fun
  | [d1, d2] => { results := [.lit (.bool false)], args := [d1, d2] }
  | _ => none }
def RecencyTouchedWrongFalsely : Prop := recencyTouchedRow.holds Try.pinned (OpenSpec.ofChange recencyTouchedWrong)

/- THE SECOND FORM. 'bulk': how many values and letters a reading holds, each counted each time it is reached (what is shared counts as often as it is met; a slice's spare places count too). A statement '..UptoSaid' is the law's where the arguments, and the package variables that the reading takes, are together of bulk at most 1048576: NARROWER than '..Said'. Prove '..Said' where nothing that the law and all that it calls make is longer than what came in: it says more and counts as full. Else prove '..UptoSaid'. A law counts once. -/
mutual
def uptoBulk {H : Type} : DataW H → Nat
  | .lit (.string bytes) => bytes.length + 1
  | .lit _ => 1
  | .nil => 1
  | .ptr d => uptoBulk d + 1
  | .slice elems spare => uptoBulkAll elems + uptoBulkAll spare + 1
  | .agg parts => uptoBulkAll parts + 1
  | .iface _ d => uptoBulk d + 1
  | .map entries => uptoBulkEntries entries + 1
  | .held _ => 1
def uptoBulkAll {H : Type} : List (DataW H) → Nat
  | [] => 0
  | d :: r => uptoBulk d + uptoBulkAll r
def uptoBulkEntries {H : Type} : List (Lit × DataW H) → Nat
  | [] => 0
  | x :: r => uptoBulkEntry x + uptoBulkEntries r
def uptoBulkEntry {H : Type} : Lit × DataW H → Nat
  | (.string bytes, d) => bytes.length + uptoBulk d + 1
  | (_, d) => uptoBulk d + 1
 end
def uptoSmall : (H : Type) → List (DataW H) → Bool := fun _ ds => decide (uptoBulkAll ds ≤ 1048576)
def OpenSpec.upto (s : _root_.Go.ChangeSpec) : _root_.Go.OpenSpec := { _root_.Go.OpenSpec.ofChange s with cond := some uptoSmall }

/-- 'kedgelaw10.RecencyPlays', WHERE WHAT IT READS IS OF BULK AT MOST 1048576: true; the input reads as it did. -/
def recencyPlaysUptoRow : OpenClaim := { program := "ytkkjdpmkiedbiaa", sum := "a1eef994a558df5fb33b3177aba154380739f9430f8580936b22ac2b07c5f0af", func := "kedge/kedgelaw10.RecencyPlays", spec := "recencyPlays", apart := false, narrowed := true }
def RecencyPlaysUptoSaid : Prop := recencyPlaysUptoRow.holds Try.pinned (OpenSpec.upto recencyPlaysSpec)

/-- 'kedgelaw10.RecencyNone', WHERE WHAT IT READS IS OF BULK AT MOST 1048576: true; the input reads as it did. -/
def recencyNoneUptoRow : OpenClaim := { program := "ytkkjdpmkiedbiaa", sum := "a1eef994a558df5fb33b3177aba154380739f9430f8580936b22ac2b07c5f0af", func := "kedge/kedgelaw10.RecencyNone", spec := "recencyNone", apart := false, narrowed := true }
def RecencyNoneUptoSaid : Prop := recencyNoneUptoRow.holds Try.pinned (OpenSpec.upto recencyNoneSpec)

/-- 'kedgelaw10.RecencyOrder', WHERE WHAT IT READS IS OF BULK AT MOST 1048576: true; the input reads as it did. -/
def recencyOrderUptoRow : OpenClaim := { program := "ytkkjdpmkiedbiaa", sum := "a1eef994a558df5fb33b3177aba154380739f9430f8580936b22ac2b07c5f0af", func := "kedge/kedgelaw10.RecencyOrder", spec := "recencyOrder", apart := false, narrowed := true }
def RecencyOrderUptoSaid : Prop := recencyOrderUptoRow.holds Try.pinned (OpenSpec.upto recencyOrderSpec)

/-- 'kedgelaw10.RecencyDrains', WHERE WHAT IT READS IS OF BULK AT MOST 1048576: true; the input reads as it did. -/
def recencyDrainsUptoRow : OpenClaim := { program := "ytkkjdpmkiedbiaa", sum := "a1eef994a558df5fb33b3177aba154380739f9430f8580936b22ac2b07c5f0af", func := "kedge/kedgelaw10.RecencyDrains", spec := "recencyDrains", apart := false, narrowed := true }
def RecencyDrainsUptoSaid : Prop := recencyDrainsUptoRow.holds Try.pinned (OpenSpec.upto recencyDrainsSpec)

/-- 'kedgelaw10.RecencyTouched', WHERE WHAT IT READS IS OF BULK AT MOST 1048576: true; the input reads as it did. -/
def recencyTouchedUptoRow : OpenClaim := { program := "ytkkjdpmkiedbiaa", sum := "a1eef994a558df5fb33b3177aba154380739f9430f8580936b22ac2b07c5f0af", func := "kedge/kedgelaw10.RecencyTouched", spec := "recencyTouched", apart := false, narrowed := true }
def RecencyTouchedUptoSaid : Prop := recencyTouchedUptoRow.holds Try.pinned (OpenSpec.upto recencyTouchedSpec)

end Rows
end Go.Proofs.Ytkkjdpmkiedbiaa
