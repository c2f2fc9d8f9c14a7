/-
  No cell of these rows narrows 'for every input' (looked for: loops, veiled, ifaces, maps, wideKeys, modest, calm, conditions, laid).
  DERIVED. THE GIVEN ROWS OF THIS SEAT. 7 by the template 'for every input the law returns true; each argument reads behind the call as it read before'; 0 by the template 'total and deterministic' (their statements: YteeeiobkjakmpaaTotals.lean).
  GIVEN WITH THE SEED: the statements are not yours to turn. If you find one false, say at which input.
  Laid BY PROGRAM, IN A SANDBOX (cutbox-rows.mjs): the forced cells as the released guide's own fill.sh prints them over the translation 52ff28668b95a38a… (all of the seat's roots in one cut). By AI agents, Wed Nov 11 2026. No macro, syntax, notation, axiom, sorry.
-/
import Derived.Test.YteeeiobkjakmpaaChecked
import GoSem.Claim
import GoSem.ClaimJoined
import GoSem.ClaimMapViews
import Derived.JoinedTies
import Derived.KernelRfl
namespace Go.Proofs.Yteeeiobkjakmpaa
/- THE CELL 'sum', in the pinned program and in every row, IS THE sha256 OF THE DUMP (.gsa) THAT YteeeiobkjakmpaaProg.lean LOADS. Nothing in Lean hashes anything: it is a label: what it is worth is what the hold of that sum in a sandbox is worth. -/
noncomputable def Try.pinned : Pinned := { name := "yteeeiobkjakmpaa", sum := "52ff28668b95a38ac1fee85af72c34bdedc549c489c6026df26b44e89774fa8b", checked := Try.checked }
namespace Rows
def none {H : Type} : Left H := { results := [], args := [] }

/-- 'kedgelaw01.AddrIs': WHATEVER THE INPUT: true; the input reads as it did. -/
def addrIsSpec : ChangeSpec := { name := "addrIs", fn := fun _ => fun
  | [d1, d2, d3] => { results := [.lit (.bool true)], args := [d1, d2, d3] }
  | _ => none }
def addrIsRow : OpenClaim := { program := "yteeeiobkjakmpaa", sum := "52ff28668b95a38ac1fee85af72c34bdedc549c489c6026df26b44e89774fa8b", func := "kedge/kedgelaw01.AddrIs", spec := "addrIs", apart := false }
def AddrIsSaid : Prop := addrIsRow.holds Try.pinned (OpenSpec.ofChange addrIsSpec)

/-- ITS FALSE NEIGHBOUR: 'it returns false'. Refute it at one input. -/
def addrIsWrong : ChangeSpec := { name := "addrIs", fn := fun _ => fun
  | [d1, d2, d3] => { results := [.lit (.bool false)], args := [d1, d2, d3] }
  | _ => none }
def AddrIsWrongFalsely : Prop := addrIsRow.holds Try.pinned (OpenSpec.ofChange addrIsWrong)

/-- 'kedgelaw01.AddrTwo': WHATEVER THE INPUT: true; the input reads as it did. -/
def addrTwoSpec : ChangeSpec := { name := "addrTwo", fn := fun _ => fun
  | [d1, d2, d3] => { results := [.lit (.bool true)], args := [d1, d2, d3] }
  | _ => none }
def addrTwoRow : OpenClaim := { program := "yteeeiobkjakmpaa", sum := "52ff28668b95a38ac1fee85af72c34bdedc549c489c6026df26b44e89774fa8b", func := "kedge/kedgelaw01.AddrTwo", spec := "addrTwo", apart := false }
def AddrTwoSaid : Prop := addrTwoRow.holds Try.pinned (OpenSpec.ofChange addrTwoSpec)

/-- ITS FALSE NEIGHBOUR: 'it returns false'. Refute it at one input. -/
def addrTwoWrong : ChangeSpec := { name := "addrTwo", fn := fun _ => fun
  | [d1, d2, d3] => { results := [.lit (.bool false)], args := [d1, d2, d3] }
  | _ => none }
def AddrTwoWrongFalsely : Prop := addrTwoRow.holds Try.pinned (OpenSpec.ofChange addrTwoWrong)

/-- 'kedgelaw01.AddrBack': WHATEVER THE INPUT: true; the input reads as it did. -/
def addrBackSpec : ChangeSpec := { name := "addrBack", fn := fun _ => fun
  | [d1, d2, d3, d4] => { results := [.lit (.bool true)], args := [d1, d2, d3, d4] }
  | _ => none }
def addrBackRow : OpenClaim := { program := "yteeeiobkjakmpaa", sum := "52ff28668b95a38ac1fee85af72c34bdedc549c489c6026df26b44e89774fa8b", func := "kedge/kedgelaw01.AddrBack", spec := "addrBack", apart := false }
def AddrBackSaid : Prop := addrBackRow.holds Try.pinned (OpenSpec.ofChange addrBackSpec)

/-- ITS FALSE NEIGHBOUR: 'it returns false'. Refute it at one input. -/
def addrBackWrong : ChangeSpec := { name := "addrBack", fn := fun _ => fun
  | [d1, d2, d3, d4] => { results := [.lit (.bool false)], args := [d1, d2, d3, d4] }
  | _ => none }
def AddrBackWrongFalsely : Prop := addrBackRow.holds Try.pinned (OpenSpec.ofChange addrBackWrong)

/-- 'kedgelaw01.AddrOrder': WHATEVER THE INPUT: true; the input reads as it did. -/
def addrOrderSpec : ChangeSpec := { name := "addrOrder", fn := fun _ => fun
  | [d1, d2, d3, d4] => { results := [.lit (.bool true)], args := [d1, d2, d3, d4] }
  | _ => none }
def addrOrderRow : OpenClaim := { program := "yteeeiobkjakmpaa", sum := "52ff28668b95a38ac1fee85af72c34bdedc549c489c6026df26b44e89774fa8b", func := "kedge/kedgelaw01.AddrOrder", spec := "addrOrder", apart := false }
def AddrOrderSaid : Prop := addrOrderRow.holds Try.pinned (OpenSpec.ofChange addrOrderSpec)

/-- ITS FALSE NEIGHBOUR: 'it returns false'. Refute it at one input. -/
def addrOrderWrong : ChangeSpec := { name := "addrOrder", fn := fun _ => fun
  | [d1, d2, d3, d4] => { results := [.lit (.bool false)], args := [d1, d2, d3, d4] }
  | _ => none }
def AddrOrderWrongFalsely : Prop := addrOrderRow.holds Try.pinned (OpenSpec.ofChange addrOrderWrong)

/-- 'kedgelaw01.AddrCommon': WHATEVER THE INPUT: true; the input reads as it did. -/
def addrCommonSpec : ChangeSpec := { name := "addrCommon", fn := fun _ => fun
  | [d1, d2, d3] => { results := [.lit (.bool true)], args := [d1, d2, d3] }
  | _ => none }
def addrCommonRow : OpenClaim := { program := "yteeeiobkjakmpaa", sum := "52ff28668b95a38ac1fee85af72c34bdedc549c489c6026df26b44e89774fa8b", func := "kedge/kedgelaw01.AddrCommon", spec := "addrCommon", apart := false }
def AddrCommonSaid : Prop := addrCommonRow.holds Try.pinned (OpenSpec.ofChange addrCommonSpec)

/-- ITS FALSE NEIGHBOUR: 'it returns false'. Refute it at one input. -/
def addrCommonWrong : ChangeSpec := { name := "addrCommon", fn := fun _ => fun
  | [d1, d2, d3] => { results := [.lit (.bool false)], args := [d1, d2, d3] }
  | _ => none }
def AddrCommonWrongFalsely : Prop := addrCommonRow.holds Try.pinned (OpenSpec.ofChange addrCommonWrong)

/-- 'kedgelaw01.AddrDigits': WHATEVER THE INPUT: true; the input reads as it did. -/
def addrDigitsSpec : ChangeSpec := { name := "addrDigits", fn := fun _ => fun
  | [d] => { results := [.lit (.bool true)], args := [d] }
  | _ => none }
def addrDigitsRow : OpenClaim := { program := "yteeeiobkjakmpaa", sum := "52ff28668b95a38ac1fee85af72c34bdedc549c489c6026df26b44e89774fa8b", func := "kedge/kedgelaw01.AddrDigits", spec := "addrDigits", apart := false }
def AddrDigitsSaid : Prop := addrDigitsRow.holds Try.pinned (OpenSpec.ofChange addrDigitsSpec)

/-- ITS FALSE NEIGHBOUR: 'it returns false'. Refute it at one input. -/
def addrDigitsWrong : ChangeSpec := { name := "addrDigits", fn := fun _ => fun
  | [d] => { results := [.lit (.bool false)], args := [d] }
  | _ => none }
def AddrDigitsWrongFalsely : Prop := addrDigitsRow.holds Try.pinned (OpenSpec.ofChange addrDigitsWrong)

/-- 'kedgelaw01.AddrNext': WHATEVER THE INPUT: true; the input reads as it did. -/
def addrNextSpec : ChangeSpec := { name := "addrNext", fn := fun _ => fun
  | [d1, d2] => { results := [.lit (.bool true)], args := [d1, d2] }
  | _ => none }
def addrNextRow : OpenClaim := { program := "yteeeiobkjakmpaa", sum := "52ff28668b95a38ac1fee85af72c34bdedc549c489c6026df26b44e89774fa8b", func := "kedge/kedgelaw01.AddrNext", spec := "addrNext", apart := false }
def AddrNextSaid : Prop := addrNextRow.holds Try.pinned (OpenSpec.ofChange addrNextSpec)

/-- ITS FALSE NEIGHBOUR: 'it returns false'. Refute it at one input. -/
def addrNextWrong : ChangeSpec := { name := "addrNext", fn := fun _ => fun
  | [d1, d2] => { results := [.lit (.bool false)], args := [d1, d2] }
  | _ => none }
def AddrNextWrongFalsely : Prop := addrNextRow.holds Try.pinned (OpenSpec.ofChange addrNextWrong)

/- THE SECOND FORM. 'bulk': how many values and letters a reading holds, each counted each time it is reached (what is shared counts as often as it is met; a slice's spare places count too). A statement '..UptoSaid' is the law's where the arguments, and the package variables that the reading takes, are together of bulk at most 1048576: NARROWER than '..Said'. Prove '..Said' where nothing that the law and all that it calls make is longer than what came in: it says more and counts as full. Else prove '..UptoSaid'. A law counts once. -/
mutual
def uptoBulk {H : Type} : DataW H → Nat
  | .lit (.string bytes) => bytes.length + 1
  | .lit _ => 1
  | .nil => 1
  | .ptr d => uptoBulk d + 1
  | .slice elems spare => uptoBulkAll elems + uptoBulkAll spare + 1
  | .agg parts => uptoBulkAll parts + 1
  | .iface _ d => uptoBulk d + 1
  | .map entries => uptoBulkEntries entries + 1
  | .held _ => 1
def uptoBulkAll {H : Type} : List (DataW H) → Nat
  | [] => 0
  | d :: r => uptoBulk d + uptoBulkAll r
def uptoBulkEntries {H : Type} : List (Lit × DataW H) → Nat
  | [] => 0
  | x :: r => uptoBulkEntry x + uptoBulkEntries r
def uptoBulkEntry {H : Type} : Lit × DataW H → Nat
  | (.string bytes, d) => bytes.length + uptoBulk d + 1
  | (_, d) => uptoBulk d + 1
 end
def uptoSmall : (H : Type) → List (DataW H) → Bool := fun _ ds => decide (uptoBulkAll ds ≤ 1048576)
def OpenSpec.upto (s : _root_.Go.ChangeSpec) : _root_.Go.OpenSpec := { _root_.Go.OpenSpec.ofChange s with cond := some uptoSmall }

/-- 'kedgelaw01.AddrIs', WHERE WHAT IT READS IS OF BULK AT MOST 1048576: true; the input reads as it did. -/
def addrIsUptoRow : OpenClaim := { program := "yteeeiobkjakmpaa", sum := "52ff28668b95a38ac1fee85af72c34bdedc549c489c6026df26b44e89774fa8b", func := "kedge/kedgelaw01.AddrIs", spec := "addrIs", apart := false, narrowed := true }
def AddrIsUptoSaid : Prop := addrIsUptoRow.holds Try.pinned (OpenSpec.upto addrIsSpec)

/-- 'kedgelaw01.AddrTwo', WHERE WHAT IT READS IS OF BULK AT MOST 1048576: true; the input reads as it did. -/
def addrTwoUptoRow : OpenClaim := { program := "yteeeiobkjakmpaa", sum := "52ff28668b95a38ac1fee85af72c34bdedc549c489c6026df26b44e89774fa8b", func := "kedge/kedgelaw01.AddrTwo", spec := "addrTwo", apart := false, narrowed := true }
def AddrTwoUptoSaid : Prop := addrTwoUptoRow.holds Try.pinned (OpenSpec.upto addrTwoSpec)

/-- 'kedgelaw01.AddrBack', WHERE WHAT IT READS IS OF BULK AT MOST 1048576: true; the input reads as it did. -/
def addrBackUptoRow : OpenClaim := { program := "yteeeiobkjakmpaa", sum := "52ff28668b95a38ac1fee85af72c34bdedc549c489c6026df26b44e89774fa8b", func := "kedge/kedgelaw01.AddrBack", spec := "addrBack", apart := false, narrowed := true }
def AddrBackUptoSaid : Prop := addrBackUptoRow.holds Try.pinned (OpenSpec.upto addrBackSpec)

/-- 'kedgelaw01.AddrOrder', WHERE WHAT IT READS IS OF BULK AT MOST 1048576: true; the input reads as it did. -/
def addrOrderUptoRow : OpenClaim := { program := "yteeeiobkjakmpaa", sum := "52ff28668b95a38ac1fee85af72c34bdedc549c489c6026df26b44e89774fa8b", func := "kedge/kedgelaw01.AddrOrder", spec := "addrOrder", apart := false, narrowed := true }
def AddrOrderUptoSaid : Prop := addrOrderUptoRow.holds Try.pinned (OpenSpec.upto addrOrderSpec)

/-- 'kedgelaw01.AddrCommon', WHERE WHAT IT READS IS OF BULK AT MOST 1048576: true; the input reads as it did. -/
def addrCommonUptoRow : OpenClaim := { program := "yteeeiobkjakmpaa", sum := "52ff28668b95a38ac1fee85af72c34bdedc549c489c6026df26b44e89774fa8b", func := "kedge/kedgelaw01.AddrCommon", spec := "addrCommon", apart := false, narrowed := true }
def AddrCommonUptoSaid : Prop := addrCommonUptoRow.holds Try.pinned (OpenSpec.upto addrCommonSpec)

/-- 'kedgelaw01.AddrDigits', WHERE WHAT IT READS IS OF BULK AT MOST 1048576: true; the input reads as it did. -/
def addrDigitsUptoRow : OpenClaim := { program := "yteeeiobkjakmpaa", sum := "52ff28668b95a38ac1fee85af72c34bdedc549c489c6026df26b44e89774fa8b", func := "kedge/kedgelaw01.AddrDigits", spec := "addrDigits", apart := false, narrowed := true }
def AddrDigitsUptoSaid : Prop := addrDigitsUptoRow.holds Try.pinned (OpenSpec.upto addrDigitsSpec)

/-- 'kedgelaw01.AddrNext', WHERE WHAT IT READS IS OF BULK AT MOST 1048576: true; the input reads as it did. -/
def addrNextUptoRow : OpenClaim := { program := "yteeeiobkjakmpaa", sum := "52ff28668b95a38ac1fee85af72c34bdedc549c489c6026df26b44e89774fa8b", func := "kedge/kedgelaw01.AddrNext", spec := "addrNext", apart := false, narrowed := true }
def AddrNextUptoSaid : Prop := addrNextUptoRow.holds Try.pinned (OpenSpec.upto addrNextSpec)

end Rows
end Go.Proofs.Yteeeiobkjakmpaa
