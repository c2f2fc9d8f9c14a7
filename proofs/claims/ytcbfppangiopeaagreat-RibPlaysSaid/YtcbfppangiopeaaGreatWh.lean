/-
  What Bytes of package addr returns. No condition.
-/
import Derived.Test.YtcbfppangiopeaaGreatWd
import Derived.Deep.OwnRows
namespace Go.Proofs.YtcbfppangiopeaaGreat
open Go.RowKit

def nb (v : Bool) : Nat := if v then 16 else 4
def byteAt (a : Ad) (k : Nat) : Int := u (wordOf (norm a) ((k : Int) * 8 + 8 - 1) >>> (plc ((k : Int) * 8 + 8 - 1)).toNat) % 256
theorem byteAt_of (a : Ad) (k : Nat) (x : BitVec 64) (h : wordOf (norm a) ((k : Int) * 8 + 8 - 1) = x) : u (x >>> (plc ((k : Int) * 8 + 8 - 1)).toNat) % 256 = byteAt a k := by subst h; rfl
def BytesPost (w : World) (a : Ad) (e : Ending) (w' : World) : Prop :=
  ∃ g : Nat, e = .returned (.slice (some ⟨g, 0, none⟩) (nb a.v6) (nb a.v6)) ∧ w.heap.size ≤ g ∧ w'.rowIs g 5 (nb a.v6) (fun k => .int .u8 (byteAt a k)) ∧ Below w.heap.size w w'
def BytesRel (w : World) (a : Ad) (r g k : Nat) (wr : World) : Prop :=
  wr.rowIs g 5 (nb a.v6) (fun j => if j < k then .int .u8 (byteAt a j) else .int .u8 0) ∧ wr.cell? ⟨r, 0, none⟩ = some (.int .u64 (u (norm a).hi)) ∧ wr.cell? ⟨r, 1, none⟩ = some (.int .u64 (u (norm a).lo)) ∧ r < g ∧ Below w.heap.size w wr

theorem info_u8 : (Tryz.prog.info? 5).map (fun i => (i.zero, i.size, i.bytes)) = some (some (.int .u8 0), 1, 1) := by kernel_rfl
theorem nb_wid (v : Bool) : wid v / 8 = (nb v : Int) := by cases v <;> rfl
theorem nb_le (v : Bool) : nb v ≤ 16 ∧ 4 ≤ nb v := by cases v <;> decide

end Go.Proofs.YtcbfppangiopeaaGreat
