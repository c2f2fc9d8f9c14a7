/-
  What Mask, Fill and Next of the document's answer for layer 1 return. No condition.
-/
import Derived.Test.YtnmafhfjimagnaaRefF
namespace Go.Proofs.Ytnmafhfjimagnaa
open Go.RowKit

end Go.Proofs.Ytnmafhfjimagnaa
