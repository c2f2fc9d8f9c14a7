/-
  What below and Under of package trie return. Condition: the tree lies at the pointer's block.
-/
import Derived.Test.YtggceecolfebjaaZj
import Derived.Test.YtggceecolfebjaaYb
namespace Go.Proofs.Ytggceecolfebjaa
open Go.RowKit
set_option maxRecDepth 100000

@[simp] theorem idx_kids0 (a b : Int) (w : World) : (Instr.index 121 (.agg #[.int .i64 a, .int .i64 b]) (.int .i64 0)).run Try.prog w = .ok (.int .i64 a) w := by
  have hs : (Try.prog.info? 3).map (·.size) = some 1 := by kernel_rfl
  obtain ⟨i, hi, h1⟩ := Option.map_eq_some_iff.1 hs
  simp [Instr.index, run_underlying Try.underlying121, sizeOf, typeInfo, hi, h1, asIntOf, part, go_sem]
@[simp] theorem idx_kids1 (a b : Int) (w : World) : (Instr.index 121 (.agg #[.int .i64 a, .int .i64 b]) (.int .i64 1)).run Try.prog w = .ok (.int .i64 b) w := by
  have hs : (Try.prog.info? 3).map (·.size) = some 1 := by kernel_rfl
  obtain ⟨i, hi, h1⟩ := Option.map_eq_some_iff.1 hs
  simp [Instr.index, run_underlying Try.underlying121, sizeOf, typeInfo, hi, h1, asIntOf, part, go_sem]
@[simp] theorem int_cells (h : 3 < Try.prog.types.size) : (Try.prog.types[3]'h).size = 1 := by
  have hs : (Try.prog.types[3]?).map (·.size) = some 1 := by kernel_rfl
  rw [Array.getElem?_eq_getElem h] at hs
  simpa using hs
/-- What lies below a node, in order. -/
def belowF (T : Tr) : Nat → Pf → Nat → List Pr
  | 0, _, _ => []
  | f + 1, p, i => shown T p i ++ (if (T.ar.getD i nd0).k0 = 0 then [] else belowF T f (pchild p 0).1 (T.ar.getD i nd0).k0) ++ (if (T.ar.getD i nd0).k1 = 0 then [] else belowF T f (pchild p 1).1 (T.ar.getD i nd0).k1)
/-- At the head of a round of below. -/
def BelowRel (w0 w : World) (t b q' : Nat) (vA vF : Value) (T : Tr) (p : Pf) (l : List Pr) (ks : Nat → List Pr) (S : Nat → Prop) (n : Value) (wr : World) : Prop :=
  ∃ (k : Nat) (S' : Nat → Prop), k ≤ 2 ∧ n = .int .i64 k ∧ UnderI w0 t b q' (l ++ ks k) S' wr ∧ TrA wr t vA vF T ∧ PBox wr w.heap.size p ∧ ¬ S' w.heap.size ∧ Frm S w wr ∧ Sub S S' w.heap.size
theorem UnderI.apart {w0 wr : World} {t b q' : Nat} {l : List Pr} {S : Nat → Prop} (h : UnderI w0 t b q' l S wr) : ∀ x, S x → b < x ∧ x < wr.heap.size := by
  obtain ⟨v, rfl, hbq, -, -, h1, h2⟩ := h
  rintro x (rfl | hx)
  · exact ⟨by omega, lt_of_block h1⟩
  · have := own_ge h2 x hx
    exact ⟨by omega, (h2.lt x hx).2⟩
theorem UnderI.keep {w0 w1 w2 : World} {t b q' : Nat} {l : List Pr} {S : Nat → Prop} (h : UnderI w0 t b q' l S w1) (hb : Below w1.heap.size w1 w2) : UnderI w0 t b q' l S w2 := by
  obtain ⟨v, rfl, hbq, hB, hTb, h1, h2⟩ := h
  exact ⟨v, rfl, hbq, hB.trans (hb.mono (by have := lt_of_block h1; omega)), (hb.block _ (lt_of_block hTb)).trans hTb, (hb.block _ (lt_of_block h1)).trans h1, own_block h2 (fun b _ hl => hb.block b hl)⟩
def BelowPost (w0 w : World) (t b q' : Nat) (l : List Pr) (S : Nat → Prop) (e : Ending) (w' : World) : Prop := e = .returned (.tuple #[]) ∧ ∃ S', UnderI w0 t b q' l S' w' ∧ Frm S w w' ∧ Sub S S' w.heap.size

end Go.Proofs.Ytggceecolfebjaa
