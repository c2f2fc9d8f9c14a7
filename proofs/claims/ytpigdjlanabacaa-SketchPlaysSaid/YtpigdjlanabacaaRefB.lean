/-
  What Of of the document's answer for layer 1 return. No condition.
-/
import Derived.Test.YtpigdjlanabacaaRefA
import Derived.Test.YtpigdjlanabacaaMathF
import Derived.Test.YtpigdjlanabacaaReg
namespace Go.Proofs.Ytpigdjlanabacaa
open Go.RowKit

def oHi (dl : Nat → Int) : Nat → BitVec 64
  | 0 => 0#64
  | k + 1 => if k < 64 then oHi dl k ||| b8 (dl k) <<< (63 - k) else oHi dl k
def oLo (dl : Nat → Int) : Nat → BitVec 64
  | 0 => 0#64
  | k + 1 => if k < 64 then oLo dl k else oLo dl k ||| b8 (dl k) <<< (127 - k)
def ofv (dl : Nat → Int) (v : Bool) : Ad := ⟨oHi dl (wd v), oLo dl (wd v), v⟩

theorem wd_128 (v : Bool) : ((wd v : Int) == 128) = v := by cases v <;> decide

end Go.Proofs.Ytpigdjlanabacaa
