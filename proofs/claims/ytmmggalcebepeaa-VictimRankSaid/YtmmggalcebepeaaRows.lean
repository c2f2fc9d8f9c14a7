/-
  No cell of these rows narrows 'for every input' (looked for: loops, veiled, ifaces, maps, wideKeys, modest, calm, conditions, laid).
  DERIVED. THE GIVEN ROWS OF THIS SEAT. 4 by the template 'for every input the law returns true; each argument reads behind the call as it read before'; 0 by the template 'total and deterministic' (their statements: YtmmggalcebepeaaTotals.lean).
  GIVEN WITH THE SEED: the statements are not yours to turn. If you find one false, say at which input.
  Laid BY PROGRAM, IN A SANDBOX (cutbox-rows.mjs): the forced cells as the released guide's own fill.sh prints them over the translation b09cea7aae4d2c80… (all of the seat's roots in one cut). By AI agents, Wed Nov 11 2026. No macro, syntax, notation, axiom, sorry.
-/
import Derived.Test.YtmmggalcebepeaaChecked
import GoSem.Claim
import GoSem.ClaimJoined
import GoSem.ClaimMapViews
import Derived.JoinedTies
import Derived.KernelRfl
namespace Go.Proofs.Ytmmggalcebepeaa
/- THE CELL 'sum', in the pinned program and in every row, IS THE sha256 OF THE DUMP (.gsa) THAT YtmmggalcebepeaaProg.lean LOADS. Nothing in Lean hashes anything: it is a label: what it is worth is what the hold of that sum in a sandbox is worth. -/
noncomputable def Try.pinned : Pinned := { name := "ytmmggalcebepeaa", sum := "b09cea7aae4d2c803b57af691699b90053853b65f7cfb8fc19ffb3bb0133f929", checked := Try.checked }
namespace Rows
def none {H : Type} : Left H := { results := [], args := [] }

/-- 'kedgelaw12.VictimIs': WHATEVER THE INPUT: true; the input reads as it did. -/
def victimIsSpec : ChangeSpec := { name := "victimIs", fn := fun _ => fun
  | [d1, d2] => { results := [.lit (.bool true)], args := [d1, d2] }
  | _ => none }
def victimIsRow : OpenClaim := { program := "ytmmggalcebepeaa", sum := "b09cea7aae4d2c803b57af691699b90053853b65f7cfb8fc19ffb3bb0133f929", func := "kedge/kedgelaw12.VictimIs", spec := "victimIs", unfollowed := true, recurses := true, apart := false }
def VictimIsSaid : Prop := victimIsRow.holds Try.pinned (OpenSpec.ofChange victimIsSpec)

/-- ITS FALSE NEIGHBOUR: 'it returns false'. Refute it at one input. -/
def victimIsWrong : ChangeSpec := { name := "victimIs", fn := fun _ => fun
  | [d1, d2] => { results := [.lit (.bool false)], args := [d1, d2] }
  | _ => none }
def VictimIsWrongFalsely : Prop := victimIsRow.holds Try.pinned (OpenSpec.ofChange victimIsWrong)

/-- 'kedgelaw12.VictimLight': WHATEVER THE INPUT: true; the input reads as it did. -/
def victimLightSpec : ChangeSpec := { name := "victimLight", fn := fun _ => fun
  | [d] => { results := [.lit (.bool true)], args := [d] }
  | _ => none }
def victimLightRow : OpenClaim := { program := "ytmmggalcebepeaa", sum := "b09cea7aae4d2c803b57af691699b90053853b65f7cfb8fc19ffb3bb0133f929", func := "kedge/kedgelaw12.VictimLight", spec := "victimLight", unfollowed := true, recurses := true, apart := false }
def VictimLightSaid : Prop := victimLightRow.holds Try.pinned (OpenSpec.ofChange victimLightSpec)

/-- ITS FALSE NEIGHBOUR: 'it returns false'. Refute it at one input. -/
def victimLightWrong : ChangeSpec := { name := "victimLight", fn := fun _ => fun
  | [d] => { results := [.lit (.bool false)], args := [d] }
  | _ => none }
def VictimLightWrongFalsely : Prop := victimLightRow.holds Try.pinned (OpenSpec.ofChange victimLightWrong)

/-- 'kedgelaw12.VictimRank': WHATEVER THE INPUT: true; the input reads as it did. -/
def victimRankSpec : ChangeSpec := { name := "victimRank", fn := fun _ => fun
  | [d1, d2] => { results := [.lit (.bool true)], args := [d1, d2] }
  | _ => none }
def victimRankRow : OpenClaim := { program := "ytmmggalcebepeaa", sum := "b09cea7aae4d2c803b57af691699b90053853b65f7cfb8fc19ffb3bb0133f929", func := "kedge/kedgelaw12.VictimRank", spec := "victimRank", unfollowed := true, recurses := true, apart := false }
def VictimRankSaid : Prop := victimRankRow.holds Try.pinned (OpenSpec.ofChange victimRankSpec)

/-- ITS FALSE NEIGHBOUR: 'it returns false'. Refute it at one input. -/
def victimRankWrong : ChangeSpec := { name := "victimRank", fn := fun _ => fun
  | [d1, d2] => { results := [.lit (.bool false)], args := [d1, d2] }
  | _ => none }
def VictimRankWrongFalsely : Prop := victimRankRow.holds Try.pinned (OpenSpec.ofChange victimRankWrong)

/-- 'kedgelaw12.VictimScores': WHATEVER THE INPUT: true; the input reads as it did. -/
def victimScoresSpec : ChangeSpec := { name := "victimScores", fn := fun _ => fun
  | [d] => { results := [.lit (.bool true)], args := [d] }
  | _ => none }
def victimScoresRow : OpenClaim := { program := "ytmmggalcebepeaa", sum := "b09cea7aae4d2c803b57af691699b90053853b65f7cfb8fc19ffb3bb0133f929", func := "kedge/kedgelaw12.VictimScores", spec := "victimScores", unfollowed := true, recurses := true, apart := false }
def VictimScoresSaid : Prop := victimScoresRow.holds Try.pinned (OpenSpec.ofChange victimScoresSpec)

/-- ITS FALSE NEIGHBOUR: 'it returns false'. Refute it at one input. -/
def victimScoresWrong : ChangeSpec := { name := "victimScores", fn := fun _ => fun
  | [d] => { results := [.lit (.bool false)], args := [d] }
  | _ => none }
def VictimScoresWrongFalsely : Prop := victimScoresRow.holds Try.pinned (OpenSpec.ofChange victimScoresWrong)

/- THE SECOND FORM. 'bulk': how many values and letters a reading holds, each counted each time it is reached (what is shared counts as often as it is met; a slice's spare places count too). A statement '..UptoSaid' is the law's where the arguments, and the package variables that the reading takes, are together of bulk at most 1048576: NARROWER than '..Said'. Prove '..Said' where nothing that the law and all that it calls make is longer than what came in: it says more and counts as full. Else prove '..UptoSaid'. A law counts once. -/
mutual
def uptoBulk {H : Type} : DataW H → Nat
  | .lit (.string bytes) => bytes.length + 1
  | .lit _ => 1
  | .nil => 1
  | .ptr d => uptoBulk d + 1
  | .slice elems spare => uptoBulkAll elems + uptoBulkAll spare + 1
  | .agg parts => uptoBulkAll parts + 1
  | .iface _ d => uptoBulk d + 1
  | .map entries => uptoBulkEntries entries + 1
  | .held _ => 1
def uptoBulkAll {H : Type} : List (DataW H) → Nat
  | [] => 0
  | d :: r => uptoBulk d + uptoBulkAll r
def uptoBulkEntries {H : Type} : List (Lit × DataW H) → Nat
  | [] => 0
  | x :: r => uptoBulkEntry x + uptoBulkEntries r
def uptoBulkEntry {H : Type} : Lit × DataW H → Nat
  | (.string bytes, d) => bytes.length + uptoBulk d + 1
  | (_, d) => uptoBulk d + 1
 end
def uptoSmall : (H : Type) → List (DataW H) → Bool := fun _ ds => decide (uptoBulkAll ds ≤ 1048576)
def OpenSpec.upto (s : _root_.Go.ChangeSpec) : _root_.Go.OpenSpec := { _root_.Go.OpenSpec.ofChange s with cond := some uptoSmall }

/-- 'kedgelaw12.VictimIs', WHERE WHAT IT READS IS OF BULK AT MOST 1048576: true; the input reads as it did. -/
def victimIsUptoRow : OpenClaim := { program := "ytmmggalcebepeaa", sum := "b09cea7aae4d2c803b57af691699b90053853b65f7cfb8fc19ffb3bb0133f929", func := "kedge/kedgelaw12.VictimIs", spec := "victimIs", unfollowed := true, recurses := true, apart := false, narrowed := true }
def VictimIsUptoSaid : Prop := victimIsUptoRow.holds Try.pinned (OpenSpec.upto victimIsSpec)

/-- 'kedgelaw12.VictimLight', WHERE WHAT IT READS IS OF BULK AT MOST 1048576: true; the input reads as it did. -/
def victimLightUptoRow : OpenClaim := { program := "ytmmggalcebepeaa", sum := "b09cea7aae4d2c803b57af691699b90053853b65f7cfb8fc19ffb3bb0133f929", func := "kedge/kedgelaw12.VictimLight", spec := "victimLight", unfollowed := true, recurses := true, apart := false, narrowed := true }
def VictimLightUptoSaid : Prop := victimLightUptoRow.holds Try.pinned (OpenSpec.upto victimLightSpec)

/-- 'kedgelaw12.VictimRank', WHERE WHAT IT READS IS OF BULK AT MOST 1048576: true; the input reads as it did. -/
def victimRankUptoRow : OpenClaim := { program := "ytmmggalcebepeaa", sum := "b09cea7aae4d2c803b57af691699b90053853b65f7cfb8fc19ffb3bb0133f929", func := "kedge/kedgelaw12.VictimRank", spec := "victimRank", unfollowed := true, recurses := true, apart := false, narrowed := true }
def VictimRankUptoSaid : Prop := victimRankUptoRow.holds Try.pinned (OpenSpec.upto victimRankSpec)

/-- 'kedgelaw12.VictimScores', WHERE WHAT IT READS IS OF BULK AT MOST 1048576: true; the input reads as it did. -/
def victimScoresUptoRow : OpenClaim := { program := "ytmmggalcebepeaa", sum := "b09cea7aae4d2c803b57af691699b90053853b65f7cfb8fc19ffb3bb0133f929", func := "kedge/kedgelaw12.VictimScores", spec := "victimScores", unfollowed := true, recurses := true, apart := false, narrowed := true }
def VictimScoresUptoSaid : Prop := victimScoresUptoRow.holds Try.pinned (OpenSpec.upto victimScoresSpec)

end Rows
end Go.Proofs.Ytmmggalcebepeaa
