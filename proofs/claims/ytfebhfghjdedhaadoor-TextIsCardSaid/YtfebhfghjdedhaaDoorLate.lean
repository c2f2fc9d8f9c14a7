/-
  A callee's contract in a later world, its answer written otherwise. No condition.
-/
import Derived.Test.YtfebhfghjdedhaaDoorBv
namespace Go.Proofs.YtfebhfghjdedhaaDoor
open Go.RowKit

theorem later_bool {P : Program} {f : FuncId} {args : Array Value} {B : Nat} {w : World} {x : Later B w} {b b' : Bool} (hb : b = b') (hB : B ≤ w.heap.size)
    (h : Calls P f args x.at fun e w' => e = .returned (.bool b) ∧ Below x.at.heap.size x.at w') : Calls P f args x.at fun e w'' => e = .returned (.bool b') ∧ ∃ y : Later B w, w'' = y.at := by
  subst hb
  exact later_of hB h
theorem later_int {P : Program} {f : FuncId} {args : Array Value} {B : Nat} {w : World} {x : Later B w} {b b' : Int} {k : IntKind} (hb : b = b') (hB : B ≤ w.heap.size)
    (h : Calls P f args x.at fun e w' => e = .returned (.int k b) ∧ Below x.at.heap.size x.at w') : Calls P f args x.at fun e w'' => e = .returned (.int k b') ∧ ∃ y : Later B w, w'' = y.at := by
  subst hb
  exact later_of hB h

end Go.Proofs.YtfebhfghjdedhaaDoor
