/-
  What Sane and Bit of package addr return. No condition.
-/
import Derived.Test.YtgmlpcmplglnoaaDoorWa
import Derived.Test.YtgmlpcmplglnoaaDoorEq
namespace Go.Proofs.YtgmlpcmplglnoaaDoor
open Go.RowKit

def saneB (a : Ad) : Bool := (u (norm a).hi == u a.hi) && (u (norm a).lo == u a.lo)

set_option maxHeartbeats 400000 in
theorem sane_any (a : Ad) (w : World) :
    Calls Tryd.prog 18 #[.agg #[.int .u64 (u a.hi), .int .u64 (u a.lo), .bool a.v6]] w fun e w' => e = .returned (.bool (saneB a)) ∧ Below w.heap.size w w' := by
  go_enter Tryd.func18, Tryd.ntmps18
  go_wp2_with fail
  generalize hW : World.alloc _ _ = W
  have hz : w.heap.size ≤ W.heap.size := by subst hW; go_size
  have hB : Below w.heap.size w W := by subst hW; go_grown
  obtain ⟨ka, kb, kc⟩ := lat3 (W := W) (b := w.heap.size) (by subst hW; go_size) (by subst hW; go_simp <;> rfl) (by subst hW; go_simp <;> rfl) (by subst hW; go_simp <;> rfl)
  clear hW
  refine region_later W.heap.size (by kernel_rfl) (by kernel_rfl) ?_
  repeat (go_big_quiet_step ((go_at_call 41; exact later_of (Nat.le_refl _) (split_any _ _))))
  refine wpQuiet_nil ?_
  intro x
  have hx : Below w.heap.size w x.at := hB.trans (x.below.mono hz)
  go_wp2
  go_ret
  exact ⟨rfl, hx⟩

def wordOf (a : Ad) (i : Int) : BitVec 64 := if i < 64 then a.hi else a.lo
def bitv (a : Ad) (i : Int) : Int := if inW a.v6 i = true then u (wordOf (norm a) i >>> (plc i).toNat &&& 1#64) else 0

theorem u_and1 (x : BitVec 64) : bits .and .u64 (u x) 1 = u (x &&& 1#64) := u_and x 1#64
theorem shr_of (x : BitVec 64) (c : Int) : u x / 2 ^ c.toNat = u (x >>> c.toNat) := u_shr _ _
theorem u_bit (x : BitVec 64) : 0 ≤ u (x &&& 1#64) ∧ u (x &&& 1#64) ≤ 1 := by
  have h : (x &&& 1#64).toNat ≤ 1 := by
    rw [BitVec.toNat_and]
    exact Nat.and_le_right
  unfold u
  omega
theorem inW_bd {v : Bool} {i : Int} (h : inW v i = true) : 0 ≤ i ∧ i < 128 := by
  have := wid_bd v
  simp [inW] at h
  omega
theorem plc_bd (i : Int) : 0 ≤ plc i ∧ plc i ≤ 63 := by unfold plc; omega

end Go.Proofs.YtgmlpcmplglnoaaDoor
