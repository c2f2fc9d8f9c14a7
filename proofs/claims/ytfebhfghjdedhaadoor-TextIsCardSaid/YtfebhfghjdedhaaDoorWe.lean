/-
  What Next of package addr returns. No condition.
-/
import Derived.Test.YtfebhfghjdedhaaDoorWd
namespace Go.Proofs.YtfebhfghjdedhaaDoor
open Go.RowKit

theorem sHi_sHi (h : BitVec 64) (v : Bool) : sHi (sHi h v) v = sHi h v := by
  cases v
  · simp only [sHi, Bool.false_eq_true, if_false]
    rw [BitVec.and_assoc, BitVec.and_self]
  · rfl
theorem sLo_sLo (l : BitVec 64) (v : Bool) : sLo (sLo l v) v = sLo l v := by cases v <;> rfl
theorem norm_norm (a : Ad) : norm (norm a) = norm a := by
  unfold norm
  simp only [sHi_sHi, sLo_sLo]

theorem whole_norm (a : Ad) (w : World) :
    Calls Tryd.prog 37 #[.agg #[.int .u64 (u (norm a).hi), .int .u64 (u (norm a).lo)], .bool a.v6] w fun e w' => e = .returned (.agg #[.int .u64 (u (norm a).hi), .int .u64 (u (norm a).lo), .bool (norm a).v6]) ∧ Below w.heap.size w w' := by
  have h := whole_any (norm a) w
  rw [norm_norm] at h
  exact h

def adEq (a b : Ad) : Bool := adB (u a.hi) (u a.lo) a.v6 (u b.hi) (u b.lo) b.v6
theorem adEq_iff (a b : Ad) : adEq a b = true ↔ a = b := by
  obtain ⟨h, l, v⟩ := a
  obtain ⟨h', l', v'⟩ := b
  simp [adEq, adB, u_inj]

def nextv (a : Ad) : Ad × Bool :=
  if adEq (norm a) (fillv (norm a) 0) = true then (norm a, false)
  else if a.v6 = false then (norm ⟨(norm a).hi + 4294967296#64, (norm a).lo, false⟩, true)
  else if u ((norm a).lo + 1#64) = 0 then (norm ⟨(norm a).hi + 1#64, (norm a).lo + 1#64, true⟩, true)
  else (norm ⟨(norm a).hi, (norm a).lo + 1#64, true⟩, true)

theorem u_add32 (x : BitVec 64) : IntKind.u64.wrap (u x + 4294967296) = u (x + 4294967296#64) := u_add x 4294967296#64
theorem u_add1 (x : BitVec 64) : IntKind.u64.wrap (u x + 1) = u (x + 1#64) := u_add x 1#64

end Go.Proofs.YtfebhfghjdedhaaDoor
