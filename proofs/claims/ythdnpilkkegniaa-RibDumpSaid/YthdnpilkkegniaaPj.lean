/-
  The document's example for layer 2 (awake): it returns true. No condition.
-/
import Derived.Test.YthdnpilkkegniaaPh
import Derived.Test.YthdnpilkkegniaaWi
namespace Go.Proofs.Ythdnpilkkegniaa
open Go.RowKit

def exA (j : Nat) : Int := if j = 0 then 10 else 0
def exB (j : Nat) : Int := if j = 0 then 10 else if j = 1 then 1 else 0
def exC (j : Nat) : Int := if j = 0 then 11 else 0
def adA : Ad := ⟨720575940379279360#64, 0#64, false⟩
def adB' : Ad := ⟨720857415355990016#64, 0#64, false⟩
def adC : Ad := ⟨792633534417207296#64, 0#64, false⟩
theorem exA_from : fromv exA false = adA := by decide +kernel
theorem exB_from : fromv exB false = adB' := by decide +kernel
theorem exC_from : fromv exC false = adC := by decide +kernel
theorem exSib : (psib (pof adA 8)).2 = true ∧ psane (psib (pof adA 8)).1 = true ∧ (psib (pof adA 8)).1.n = 8 ∧ pfEq (psib (pof adA 8)).1 (pof adC 8) = true := by decide +kernel
theorem exCov : pcov (pof adA 8) (pof adB' 16) = true := by decide +kernel

end Go.Proofs.Ythdnpilkkegniaa
