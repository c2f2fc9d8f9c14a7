/-
  What Mask, Fill and Next of the document's answer for layer 1 return. No condition.
-/
import Derived.Test.YtfebhfghjdedhaaDoorRefF
namespace Go.Proofs.YtfebhfghjdedhaaDoor
open Go.RowKit

end Go.Proofs.YtfebhfghjdedhaaDoor
