/-
  What From of package addr returns, for whatever list of bytes. No condition.
-/
import Derived.Test.YtpigdjlanabacaaWd
namespace Go.Proofs.Ytpigdjlanabacaa
open Go.RowKit

def b8 (n : Int) : BitVec 64 := BitVec.ofInt 64 n
theorem u_b8 (n : Int) (h0 : 0 ≤ n) (h1 : n < 256) : u (b8 n) = n := by
  obtain ⟨k, rfl⟩ := Int.eq_ofNat_of_zero_le h0
  unfold u b8
  rw [BitVec.ofInt_natCast, BitVec.toNat_ofNat, Nat.mod_eq_of_lt (by omega)]
theorem shl_b8 (n : Int) (m : Nat) (h0 : 0 ≤ n) (h1 : n < 256) : IntKind.u64.wrap (n * 2 ^ m) = u (b8 n <<< m) := by
  have h := u_shl (b8 n) m
  rw [u_b8 n h0 h1] at h
  exact h
/-- The two words after k bytes. -/
def fHi (bs : Nat → Int) : Nat → BitVec 64
  | 0 => 0#64
  | k + 1 => if k < 8 then fHi bs k ||| b8 (bs k) <<< (plc ((k : Int) * 8 + 8 - 1)).toNat else fHi bs k
def fLo (bs : Nat → Int) : Nat → BitVec 64
  | 0 => 0#64
  | k + 1 => if k < 8 then fLo bs k else fLo bs k ||| b8 (bs k) <<< (plc ((k : Int) * 8 + 8 - 1)).toNat

def FromRel (w : World) (bs : Nat → Int) (k : Nat) (wr : World) : Prop :=
  wr.cell? ⟨w.heap.size + 1, 0, none⟩ = some (.int .u64 (u (fHi bs k))) ∧ wr.cell? ⟨w.heap.size + 1, 1, none⟩ = some (.int .u64 (u (fLo bs k))) ∧
    wr.frozen? ⟨w.heap.size + 1, 0, none⟩ = false ∧ wr.frozen? ⟨w.heap.size + 1, 1, none⟩ = false ∧
    wr.cell? ⟨w.heap.size, 0, none⟩ = some (.int .u64 0) ∧ wr.cell? ⟨w.heap.size, 1, none⟩ = some (.int .u64 0) ∧ wr.cell? ⟨w.heap.size, 2, none⟩ = some (.bool false) ∧
    wr.frozen? ⟨w.heap.size, 0, none⟩ = false ∧ wr.frozen? ⟨w.heap.size, 1, none⟩ = false ∧ wr.frozen? ⟨w.heap.size, 2, none⟩ = false ∧ w.heap.size + 1 < wr.heap.size ∧ Below w.heap.size w wr
def fromv (bs : Nat → Int) (v : Bool) : Ad := norm ⟨fHi bs (if v then 16 else 4), fLo bs (if v then 16 else 4), v⟩

end Go.Proofs.Ytpigdjlanabacaa
