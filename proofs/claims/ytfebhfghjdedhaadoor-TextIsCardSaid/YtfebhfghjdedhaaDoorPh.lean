/-
  What Child, Parent, Sibling and Join of package prefix return. No condition.
-/
import Derived.Test.YtfebhfghjdedhaaDoorPg
namespace Go.Proofs.YtfebhfghjdedhaaDoor
open Go.RowKit

theorem psane_bd {p : Pf} (h : psane p = true) : 0 ≤ p.n ∧ p.n ≤ wid p.a.v6 := by
  have e := (pfEq_iff _ _).1 h
  have e2 : clamp p.a.v6 p.n = p.n := congrArg Pf.n e
  have := wid_bd p.a.v6
  unfold clamp at e2
  omega

end Go.Proofs.YtfebhfghjdedhaaDoor
