/-
  How an address that comes in is read: what every row's proof of this seat wants. No condition.
-/
import Derived.Test.YtmmggalcebepeaaRows
import Derived.Test.YtmmggalcebepeaaAd
import Derived.ProofKit
import Derived.OpenShut
import Derived.ChangeOld
import Derived.Lib.SmallJoins
namespace Go.Proofs.Ytmmggalcebepeaa
open Go.ChangeShapes Go.WideShapes Go.ChangeAt Go.RowKit Go.Joins
set_option maxRecDepth 100000

theorem own : ownKnob Try.prog.godebug = none := by kernel_rfl
theorem laidOut : laidOutB Try.prog = true := by kernel_rfl

/-- A list of bytes that comes in: nil; or a row of cells that fit. -/
def IsBytes (w : World) (A : Option Addr) (len cap : Nat) (zs : List Int) : Prop :=
  (A = none ∧ len = 0 ∧ cap = 0 ∧ zs = []) ∨
  ∃ x, A = some x ∧ len ≤ cap ∧ cap ≤ maxLen ∧ zs.length = cap ∧ (∀ i, i < zs.length → w.cell? (x.add i) = some (.int .u8 (zs.getD i 0))) ∧ ∀ n ∈ zs, 0 ≤ n ∧ n < 256
end Go.Proofs.Ytmmggalcebepeaa
