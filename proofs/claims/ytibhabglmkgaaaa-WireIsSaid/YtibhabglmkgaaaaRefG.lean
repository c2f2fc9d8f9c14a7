/-
  What Mask, Fill and Next of the document's answer for layer 1 return. No condition.
-/
import Derived.Test.YtibhabglmkgaaaaRefF
namespace Go.Proofs.Ytibhabglmkgaaaa
open Go.RowKit

end Go.Proofs.Ytibhabglmkgaaaa
