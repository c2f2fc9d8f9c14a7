/-
  What Sane, Contains, Covers, Inside and Apart of package prefix return. No condition.
-/
import Derived.Test.YtfebhfghjdedhaaDoorPf
namespace Go.Proofs.YtfebhfghjdedhaaDoor
open Go.RowKit

set_option maxHeartbeats 400000 in
theorem psane_any (p : Pf) (w : World) :
    Calls Tryd.prog 21 #[.agg #[.int .u64 (u p.a.hi), .int .u64 (u p.a.lo), .bool p.a.v6, .int .i64 p.n]] w fun e w' => e = .returned (.bool (psane p)) ∧ Below w.heap.size w w' := by
  go_enter Tryd.func21, Tryd.ntmps21
  go_wp2_with fail
  generalize hW : World.alloc _ _ = W
  have hz : w.heap.size ≤ W.heap.size := by subst hW; go_size
  have hB : Below w.heap.size w W := by subst hW; go_grown
  obtain ⟨pa, pb, pc, pg, pd, pe, pf, ph, pz⟩ := cells4 (W := W) (b := w.heap.size) (Below.refl _ W) (by subst hW; go_size) (by subst hW; go_simp <;> rfl) (by subst hW; go_simp <;> rfl) (by subst hW; go_simp <;> rfl) (by subst hW; go_simp <;> rfl) (by subst hW; go_simp <;> rfl) (by subst hW; go_simp <;> rfl) (by subst hW; go_simp <;> rfl) (by subst hW; go_simp <;> rfl)
  clear hW
  have Lpa := fun x : Later W.heap.size W => (x.cell pz).trans pa
  have Lpb := fun x : Later W.heap.size W => (x.cell pz).trans pb
  have Lpc := fun x : Later W.heap.size W => (x.cell pz).trans pc
  have Lpg := fun x : Later W.heap.size W => (x.cell pz).trans pg
  refine region_later W.heap.size (by kernel_rfl) (by kernel_rfl) ?_
  repeat (go_big_quiet_step ((go_at_call 43; exact later_of (Nat.le_refl _) (pof_any _ _ _))))
  refine wpQuiet_nil ?_
  intro x
  have hx : Below w.heap.size w x.at := hB.trans (x.below.mono hz)
  go_wp2
  go_ret
  exact ⟨rfl, hx⟩

end Go.Proofs.YtfebhfghjdedhaaDoor
