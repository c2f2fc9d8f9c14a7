/-
  What getHop and GetRoute of package wire return. Condition: the bytes lie where the argument says.
-/
import Derived.Test.YtpigdjlanabacaaVd
namespace Go.Proofs.Ytpigdjlanabacaa
open Go.RowKit

theorem or256i (a b : Int) (a0 : 0 ≤ a) (a1 : a < 256) (b0 : 0 ≤ b) (b1 : b < 256) : bits .or .i64 (a * 256) b = a * 256 + b := by
  obtain ⟨x, rfl⟩ : ∃ x : Nat, a = x := ⟨a.toNat, by omega⟩
  obtain ⟨y, rfl⟩ : ∃ y : Nat, b = y := ⟨b.toNat, by omega⟩
  have e1 : (x : Int) * 256 = ((x * 256 : Nat) : Int) := by omega
  have h := Nat.shiftLeft_add_eq_or_of_lt (show y < 2 ^ 8 by omega) x
  rw [Nat.shiftLeft_eq, show (2 : Nat) ^ 8 = 256 from rfl] at h
  rw [e1]
  show IntKind.i64.wrap ((BitVec.ofInt 64 ((x * 256 : Nat) : Int) ||| BitVec.ofInt 64 (y : Int)).toNat : Int) = _
  rw [BitVec.ofInt_natCast, BitVec.ofInt_natCast, BitVec.toNat_or, BitVec.toNat_ofNat, BitVec.toNat_ofNat, Nat.mod_eq_of_lt (by omega), Nat.mod_eq_of_lt (by omega), ← h, IntKind.wrap_i64]
  omega

theorem keep4 {W w' : World} {b : Nat} {c0 c1 c2 c3 : Value} (h : Below W.heap.size W w') (hlt : b < W.heap.size) (h0 : W.cell? ⟨b, 0, none⟩ = some c0) (h1 : W.cell? ⟨b, 1, none⟩ = some c1) (h2 : W.cell? ⟨b, 2, none⟩ = some c2) (h3 : W.cell? ⟨b, 3, none⟩ = some c3) :
    w'.cell? ⟨b, 0, none⟩ = some c0 ∧ w'.cell? ⟨b, 1, none⟩ = some c1 ∧ w'.cell? ⟨b, 2, none⟩ = some c2 ∧ w'.cell? ⟨b, 3, none⟩ = some c3 ∧ Below W.heap.size W w' := ⟨(h.cell hlt).trans h0, (h.cell hlt).trans h1, (h.cell hlt).trans h2, (h.cell hlt).trans h3, h⟩
/-- A route lies in a block. -/
def RBox (wr : World) (b : Nat) (x : Rt) : Prop :=
  wr.cell? ⟨b, 0, none⟩ = some (.int .u64 (u x.p.a.hi)) ∧ wr.cell? ⟨b, 1, none⟩ = some (.int .u64 (u x.p.a.lo)) ∧ wr.cell? ⟨b, 2, none⟩ = some (.bool x.p.a.v6) ∧ wr.cell? ⟨b, 3, none⟩ = some (.int .i64 x.p.n) ∧ wr.cell? ⟨b, 4, none⟩ = some (.int .i64 x.hop) ∧
    wr.frozen? ⟨b, 0, none⟩ = false ∧ wr.frozen? ⟨b, 1, none⟩ = false ∧ wr.frozen? ⟨b, 2, none⟩ = false ∧ wr.frozen? ⟨b, 3, none⟩ = false ∧ wr.frozen? ⟨b, 4, none⟩ = false ∧ b < wr.heap.size
/-- What is got has no more bytes than there are. -/
theorem getN_le {l : List Int} (hb : ∀ x ∈ l, 0 ≤ x ∧ x < 256) (he : getE l = 0) : getN l ≤ l.length ∧ getN l ≤ 18 ∧ 2 ≤ getN l := by
  have hh : headE l = 0 := by
    by_cases hh : headE l = 0
    · exact hh
    · unfold getE at he
      rw [if_neg hh] at he
      exact absurd he hh
  have hl := head_len hh
  obtain ⟨b0, b1⟩ := at0_bd hb 1
  have hn := need_le _ _ b0 (head_wid hh)
  have hnb := nb_le (at0 l 0 == 6)
  have hd : digE (at0 l 0 == 6) (at0 l 1) (l.drop 2) = 0 := by
    unfold getE at he
    rw [if_pos hh] at he
    exact he
  unfold getN
  rw [if_pos he]
  unfold digE at hd
  split at hd
  · cases hd
  · rename_i h1
    rw [List.length_drop] at h1
    omega
end Go.Proofs.Ytpigdjlanabacaa
