/-
  What Set of package addr returns. No condition.
-/
import Derived.Test.YtfebhfghjdedhaaDoorWb
namespace Go.Proofs.YtfebhfghjdedhaaDoor
open Go.RowKit

def odd (v : Int) : Bool := bits .and .i64 v 1 == 1
def digitAt (i : Int) : BitVec 64 := 1#64 <<< (plc i).toNat
def putDigit (x : BitVec 64) (i v : Int) : BitVec 64 := if odd v = true then (x &&& ~~~ digitAt i) ||| digitAt i else x &&& ~~~ digitAt i
def setv (a : Ad) (i v : Int) : Ad :=
  if inW a.v6 i = true then (if i < 64 then norm ⟨putDigit (norm a).hi i v, (norm a).lo, a.v6⟩ else norm ⟨(norm a).hi, putDigit (norm a).lo i v, a.v6⟩) else norm (norm a)

theorem shl_of (c : Int) : IntKind.u64.wrap (2 ^ c.toNat) = u (1#64 <<< c.toNat) := by
  rw [← u_shl, show u 1#64 = 1 from by decide, Int.one_mul]

end Go.Proofs.YtfebhfghjdedhaaDoor
