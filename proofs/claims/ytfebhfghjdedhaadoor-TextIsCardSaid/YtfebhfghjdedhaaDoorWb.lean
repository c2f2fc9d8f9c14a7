/-
  What Sane and Bit of package addr return. No condition.
-/
import Derived.Test.YtfebhfghjdedhaaDoorWa
import Derived.Test.YtfebhfghjdedhaaDoorEq
namespace Go.Proofs.YtfebhfghjdedhaaDoor
open Go.RowKit

def saneB (a : Ad) : Bool := (u (norm a).hi == u a.hi) && (u (norm a).lo == u a.lo)

def wordOf (a : Ad) (i : Int) : BitVec 64 := if i < 64 then a.hi else a.lo
def bitv (a : Ad) (i : Int) : Int := if inW a.v6 i = true then u (wordOf (norm a) i >>> (plc i).toNat &&& 1#64) else 0

theorem u_and1 (x : BitVec 64) : bits .and .u64 (u x) 1 = u (x &&& 1#64) := u_and x 1#64
theorem shr_of (x : BitVec 64) (c : Int) : u x / 2 ^ c.toNat = u (x >>> c.toNat) := u_shr _ _
theorem u_bit (x : BitVec 64) : 0 ≤ u (x &&& 1#64) ∧ u (x &&& 1#64) ≤ 1 := by
  have h : (x &&& 1#64).toNat ≤ 1 := by
    rw [BitVec.toNat_and]
    exact Nat.and_le_right
  unfold u
  omega
theorem inW_bd {v : Bool} {i : Int} (h : inW v i = true) : 0 ≤ i ∧ i < 128 := by
  have := wid_bd v
  simp [inW] at h
  omega
theorem plc_bd (i : Int) : 0 ≤ plc i ∧ plc i ≤ 63 := by unfold plc; omega

end Go.Proofs.YtfebhfghjdedhaaDoor
