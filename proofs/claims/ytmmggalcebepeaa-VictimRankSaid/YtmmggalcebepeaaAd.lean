/-
  Plain functions: what package addr computes, on words of 64 digits. No condition.
-/
import Derived.Test.YtmmggalcebepeaaBv
namespace Go.Proofs.Ytmmggalcebepeaa
open Go.RowKit

/-- An address as the program holds it. -/
structure Ad where
  hi : BitVec 64
  lo : BitVec 64
  v6 : Bool
deriving DecidableEq

/-- The low 32 digits of a word. -/
def lowHalf : BitVec 64 := 4294967295#64
def wid (v : Bool) : Int := if v then 128 else 32
def sHi (h : BitVec 64) (v : Bool) : BitVec 64 := if v then h else h &&& ~~~ lowHalf
def sLo (l : BitVec 64) (v : Bool) : BitVec 64 := if v then l else 0#64
/-- An address without the digits that it does not have. -/
def norm (a : Ad) : Ad := ⟨sHi a.hi a.v6, sLo a.lo a.v6, a.v6⟩
def inW (v : Bool) (i : Int) : Bool := decide (0 ≤ i) && decide (i < wid v)
def plc (i : Int) : Int := 63 - i % 64
def clamp (v : Bool) (n : Int) : Int := min (max n 0) (wid v)
def tlc (n k : Int) : Int := min (max (n - k * 64) 0) 64
def tl (n k : Int) : BitVec 64 := BitVec.allOnes 64 >>> (tlc n k).toNat

theorem wid_bd (v : Bool) : 32 ≤ wid v ∧ wid v ≤ 128 := by cases v <;> decide
theorem clamp_bd (v : Bool) (n : Int) : 0 ≤ clamp v n ∧ clamp v n ≤ 128 := by
  have := wid_bd v
  unfold clamp
  omega

theorem tl_of (n k c : Int) (h : tlc n k = c) : (18446744073709551615 : Int) / 2 ^ c.toNat = u (tl n k) := by
  subst h
  have e : (18446744073709551615 : Int) = u (BitVec.allOnes 64) := by decide
  rw [e, u_shr]
  rfl

theorem ret_int {k : IntKind} {a b : Int} (h : a = b) : Ending.returned (.int k a) = .returned (.int k b) := by rw [h]
theorem ret_bool {a b : Bool} (h : a = b) : Ending.returned (.bool a) = .returned (.bool b) := by rw [h]

end Go.Proofs.Ytmmggalcebepeaa
