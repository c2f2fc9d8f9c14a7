/-
  What Compare and Common of package addr return. No condition.
-/
import Derived.Test.YtfebhfghjdedhaaDoorWd
import Derived.Deep.RegionHeld3
import Derived.Deep.DeepCutAuto
namespace Go.Proofs.YtfebhfghjdedhaaDoor
open Go.RowKit

/-- Two pairs of words lie in two blocks. -/
def TwoPairs (w : World) (x y : Ad) (s t : Value) (wx : World) : Prop :=
  ∃ b c : Nat, s = .pointer (some ⟨b, 0, none⟩) ∧ t = .pointer (some ⟨c, 0, none⟩) ∧ wx.cell? ⟨b, 0, none⟩ = some (.int .u64 (u x.hi)) ∧ wx.cell? ⟨b, 1, none⟩ = some (.int .u64 (u x.lo)) ∧
    wx.cell? ⟨c, 0, none⟩ = some (.int .u64 (u y.hi)) ∧ wx.cell? ⟨c, 1, none⟩ = some (.int .u64 (u y.lo)) ∧ wx.cell? ⟨w.heap.size, 2, none⟩ = some (.bool x.v6) ∧ Below w.heap.size w wx

def cmpW (x y : BitVec 64) : Int := if u x < u y then -1 else if u y < u x then 1 else 0
def cmpv (a b : Ad) : Int :=
  if a.v6 = b.v6 then (if cmpW (norm a).hi (norm b).hi = 0 then cmpW (norm a).lo (norm b).lo else cmpW (norm a).hi (norm b).hi) else if b.v6 = true then -1 else 1

end Go.Proofs.YtfebhfghjdedhaaDoor
