/-
  A prefix lies in a block. No condition.
-/
import Derived.Test.YtfebhfghjdedhaaDoorPf
namespace Go.Proofs.YtfebhfghjdedhaaDoor
open Go.RowKit

/-- A prefix lies in a block. -/
def PBox (wr : World) (b : Nat) (x : Pf) : Prop :=
  wr.cell? ⟨b, 0, none⟩ = some (.int .u64 (u x.a.hi)) ∧ wr.cell? ⟨b, 1, none⟩ = some (.int .u64 (u x.a.lo)) ∧ wr.cell? ⟨b, 2, none⟩ = some (.bool x.a.v6) ∧ wr.cell? ⟨b, 3, none⟩ = some (.int .i64 x.n) ∧
    wr.frozen? ⟨b, 0, none⟩ = false ∧ wr.frozen? ⟨b, 1, none⟩ = false ∧ wr.frozen? ⟨b, 2, none⟩ = false ∧ wr.frozen? ⟨b, 3, none⟩ = false ∧ b < wr.heap.size

end Go.Proofs.YtfebhfghjdedhaaDoor
