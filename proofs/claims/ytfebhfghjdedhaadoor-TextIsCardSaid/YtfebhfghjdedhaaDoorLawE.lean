/-
  AddrBack returns true, whatever address, bytes and numbers. No condition.
-/
import Derived.Test.YtfebhfghjdedhaaDoorLawB
import Derived.Test.YtfebhfghjdedhaaDoorMix
namespace Go.Proofs.YtfebhfghjdedhaaDoor
open Go.RowKit

/-- A slice of a fresh row of bytes. -/
def Held (n : Nat) (bs : Nat → Int) (v : Value) (w : World) : Prop :=
  ∃ g c : Nat, v = .slice (some ⟨g, 0, none⟩) n c ∧ g < w.heap.size ∧ ∀ k, k < n → w.cell? ⟨g, 0 + k, none⟩ = some (.int .u8 (bs k))
theorem Held.keep {n : Nat} {bs : Nat → Int} {v : Value} {w w' : World} (h : Held n bs v w) (hb : Below w.heap.size w w') : Held n bs v w' := by
  obtain ⟨g, c, rfl, hg, hc⟩ := h
  exact ⟨g, c, rfl, Nat.lt_of_lt_of_le hg hb.size, fun k hk => (hb.cell (p := ⟨g, 0 + k, none⟩) hg).trans (hc k hk)⟩
/-- The string of bytes. -/
def strOf (n : Nat) (bs : Nat → Int) : ByteArray := strOfNums ((List.range n).map bs)
theorem strOf_at (n : Nat) (bs : Nat → Int) (i : Nat) (h : i < n) : ((List.range n).map bs).getD i 0 = bs i := by
  rw [List.getD_eq_getElem?_getD]
  simp [h]
theorem conv_bytes (w : World) (b off n c : Nat) (bs : Nat → Int) (h : ∀ i, i < n → w.cell? ⟨b, off + i, none⟩ = some (.int .u8 (bs i))) :
    (convert 36 9 (.slice (some ⟨b, off, none⟩) n c)).run Tryd.prog w = .ok (.string (strOf n bs)) w :=
  run_convert_bytes_arg w 36 5 Tryd.underlying36 Tryd.underlying5 b off n c _ (by simp) (fun i hi => by rw [strOf_at n bs i hi]; exact h i hi) 9 Tryd.underlying9
theorem Held.conv {n : Nat} {bs : Nat → Int} {v : Value} {w : World} (h : Held n bs v w) : (convert 36 9 v).run Tryd.prog w = .ok (.string (strOf n bs)) w := by
  obtain ⟨g, c, rfl, _, hc⟩ := h
  exact conv_bytes w g 0 n c bs hc
theorem held_bytes (vb : Bool) (bs : Nat → Int) (hbs : ∀ j, j < nb vb → 0 ≤ bs j ∧ bs j < 256) (w : World) :
    Calls Tryd.prog 24 #[.agg #[.int .u64 (u (fromv bs vb).hi), .int .u64 (u (fromv bs vb).lo), .bool (fromv bs vb).v6]] w fun e w' => ∃ v, e = .returned v ∧ Held (nb vb) bs v w' ∧ Below w.heap.size w w' := by
  refine (bytes_any (fromv bs vb) w).mono ?_
  rintro e w' ⟨g, rfl, hg, hrow, hb⟩
  refine ⟨_, rfl, ⟨g, nb vb, rfl, hrow.lt, fun k hk => ?_⟩, hb⟩
  rw [Nat.zero_add, hrow.cell hk, bytes_from bs vb hbs k hk]
def pr (vb : Bool) (bs : Nat → Int) : Pair where
  i := 4
  j := 5
  d := 42
  e := 43
  arg := .tmp 41
  y := .agg #[.int .u64 (u (fromv bs vb).hi), .int .u64 (u (fromv bs vb).lo), .bool (fromv bs vb).v6]
  s := .string (strOf (nb vb) bs)
  f := 24
  Φ := Held (nb vb) bs

end Go.Proofs.YtfebhfghjdedhaaDoor
