/-
  AddrBack returns true, whatever address, bytes and numbers. No condition.
-/
import Derived.Test.YtpigdjlanabacaaMathF
import Derived.Test.YtpigdjlanabacaaLawD
import Derived.Test.YtpigdjlanabacaaRow
import Derived.Test.YtpigdjlanabacaaRefA
import Derived.Laws.BytesArg
import Derived.Deep.RegionHeld3
namespace Go.Proofs.Ytpigdjlanabacaa
open Go.RowKit

end Go.Proofs.Ytpigdjlanabacaa
