/-
  What Common of package addr returns. No condition.
-/
import Derived.Test.YtfebhfghjdedhaaDoorWf
import Derived.Test.YtfebhfghjdedhaaDoorLen
namespace Go.Proofs.YtfebhfghjdedhaaDoor
open Go.RowKit

def commonv (a b : Ad) : Int :=
  if a.v6 = b.v6 then (if (norm a).hi = (norm b).hi then (if (norm a).lo = (norm b).lo then wid a.v6 else 64 + lead ((norm a).lo ^^^ (norm b).lo)) else lead ((norm a).hi ^^^ (norm b).hi)) else 0

theorem lead_bd (x : BitVec 64) : 0 ≤ lead x ∧ lead x ≤ 64 := by
  have := blen_le64 x
  unfold lead
  omega

end Go.Proofs.YtfebhfghjdedhaaDoor
