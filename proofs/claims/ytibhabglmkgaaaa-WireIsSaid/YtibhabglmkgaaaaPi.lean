/-
  What Compare and Ends of package prefix return. No condition.
-/
import Derived.Test.YtibhabglmkgaaaaPg
namespace Go.Proofs.Ytibhabglmkgaaaa
open Go.RowKit

def orI (x y : Int) : Int := if x = 0 then y else x
end Go.Proofs.Ytibhabglmkgaaaa
