/-
  AddrBack returns true, whatever address, bytes and numbers. No condition.
-/
import Derived.Test.YtfebhfghjdedhaaDoorMathF
import Derived.Test.YtfebhfghjdedhaaDoorLawD
import Derived.Test.YtfebhfghjdedhaaDoorRow
import Derived.Test.YtfebhfghjdedhaaDoorRefA
import Derived.Laws.BytesArg
import Derived.Deep.RegionHeld3
namespace Go.Proofs.YtfebhfghjdedhaaDoor
open Go.RowKit

theorem from_any (v : Bool) (g off c : Nat) (bs : Nat → Int) (hbs : ∀ j, j < nb v → 0 ≤ bs j ∧ bs j < 256) (w : World) (hg : g < w.heap.size) (hcell : ∀ j, j < nb v → w.cell? ⟨g, off + j, none⟩ = some (.int .u8 (bs j))) :
    Calls Tryd.prog 15 #[.slice (some ⟨g, off, none⟩) (nb v) c] w fun e w' => e = .returned (.tuple #[.agg #[.int .u64 (u (fromv bs v).hi), .int .u64 (u (fromv bs v).lo), .bool (fromv bs v).v6], .int .i64 0]) ∧ Below w.heap.size w w' := by
  cases v
  · exact from_four g off c bs hbs w hg hcell
  · exact from_six g off c bs hbs w hg hcell
end Go.Proofs.YtfebhfghjdedhaaDoor
