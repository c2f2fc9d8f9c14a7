/-
  What Compare and Ends of package prefix return. No condition.
-/
import Derived.Test.YtfebhfghjdedhaaDoorPg
namespace Go.Proofs.YtfebhfghjdedhaaDoor
open Go.RowKit

def orI (x y : Int) : Int := if x = 0 then y else x
end Go.Proofs.YtfebhfghjdedhaaDoor
