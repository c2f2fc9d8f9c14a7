/-
  What Mask, Fill and Next of the document's answer for layer 1 return. No condition.
-/
import Derived.Test.YtnepmlhbheaonaaRefF
namespace Go.Proofs.Ytnepmlhbheaonaa
open Go.RowKit

end Go.Proofs.Ytnepmlhbheaonaa
