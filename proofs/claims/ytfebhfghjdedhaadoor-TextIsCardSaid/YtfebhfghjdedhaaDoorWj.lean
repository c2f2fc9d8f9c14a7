/-
  The document's example (awake): it returns true. No condition.
-/
import Derived.Test.YtfebhfghjdedhaaDoorWb
import Derived.Test.YtfebhfghjdedhaaDoorWi
namespace Go.Proofs.YtfebhfghjdedhaaDoor
open Go.RowKit

def exBytes (j : Nat) : Int := if j = 0 then 192 else if j = 1 then 168 else if j = 2 then 0 else 1
def exAd : Ad := ⟨13882345855664521216#64, 0#64, false⟩
theorem ex_from : fromv exBytes false = exAd := by decide +kernel

end Go.Proofs.YtfebhfghjdedhaaDoor
