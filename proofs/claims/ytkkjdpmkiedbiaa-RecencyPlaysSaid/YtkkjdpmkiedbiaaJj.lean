/-
  The list and the document's answer side by side: what a step leaves of both. Condition: as said.
-/
import Derived.Test.YtkkjdpmkiedbiaaJi
namespace Go.Proofs.Ytkkjdpmkiedbiaa
open Go.RowKit
set_option maxRecDepth 100000

def blkA (A : Option Addr) (b : Nat) : Prop := A.map (·.block) = some b
/-- The list at t holds s'; the document's answer, in the box q, holds s. -/
structure PlayJ (w1 : World) (t q : Nat) (A : Option Addr) (c : Nat) (s s' : Rc) (wr : World) : Prop where
  X : WY (fun b => blkA A b ∨ b = q) w1 t s' wr
  R : KN.Rd wr A s.L
  Q : wr.heap[q]? = some (.cells #[.slice A s.L.length c, .int .i64 ((s.n : Int) - 1)] 28 (0, 0))
  zq : w1.heap.size ≤ q
  nq : ¬ blkA A q
theorem WY.xlt {X : Nat → Prop} {w0 wr : World} {t : Nat} {s : Rc} (h : WY X w0 t s wr) : ∀ b, X b → b < wr.heap.size := by
  obtain ⟨S, -, -, g3, -⟩ := h
  exact g3
section
variable {w1 wr w2 : World} {t q c : Nat} {A : Option Addr} {s s' : Rc}
theorem PlayJ.keep (h : PlayJ w1 t q A c s s' wr) (hb : Below wr.heap.size wr w2) : PlayJ w1 t q A c s s' w2 :=
  ⟨h.X.keep hb, h.R.kept hb, (hb.block q (lt_of_block h.Q)).trans h.Q, h.zq, h.nq⟩
theorem PlayJ.mid {s2 : Rc} (h : PlayJ w1 t q A c s s' wr) (g1 : WY (fun b => blkA A b ∨ b = q) w1 t s2 w2) (g2 : ∀ b, (blkA A b ∨ b = q) → w2.heap[b]? = wr.heap[b]?) : PlayJ w1 t q A c s s2 w2 :=
  ⟨g1, rd_block' h.R fun b hb => g2 b (.inl hb), (g2 q (.inr rfl)).trans h.Q, h.zq, h.nq⟩
theorem row2_set10 {w : World} {b : Nat} {x0 x1 y0 y1 : Value} {e : TypeId} (h : w.heap[b]? = some (.cells #[x0, x1] e (0, 0))) :
    ((w.setCell ⟨b, 0, none⟩ y0).setCell ⟨b, 1, none⟩ y1).heap[b]? = some (.cells #[y0, y1] e (0, 0)) :=
  heap_setCell_same _ b 1 _ e y1 (heap_setCell_same w b 0 _ e y0 h)
/-- The document's answer of now is laid into its box. -/
theorem PlayJ.fin {A' : Option Addr} {c' : Nat} (h : PlayJ w1 t q A c s s' wr) (hn : s'.n = s.n) (hb : Below wr.heap.size wr w2) (hR : KN.Rd w2 A' s'.L) (hB : ∀ b, blkA A' b → (blkA A b ∨ wr.heap.size ≤ b) ∧ b < w2.heap.size) :
    PlayJ w1 t q A' c' s' s' ((w2.setCell ⟨q, 0, none⟩ (.slice A' s'.L.length c')).setCell ⟨q, 1, none⟩ (.int .i64 ((s.n : Int) - 1))) := by
  have hqz := lt_of_block h.Q
  have nq' : ¬ blkA A' q := fun e => by
    rcases (hB q e).1 with e1 | e1
    · exact h.nq e1
    · omega
  have hX : WY (fun b => blkA A' b ∨ b = q) w1 t s' w2 := h.X.turn hb (fun b hx => by
    rcases hx with e | e
    · rcases (hB b e).1 with e1 | e1
      · exact .inl (.inl e1)
      · exact .inr e1
    · exact .inl (.inr e)) (fun b hx => by
    rcases hx with e | e
    · exact (hB b e).2
    · subst e; exact Nat.lt_of_lt_of_le hqz hb.size)
  have hX2 := (hX.setCell (q := q) (.inr rfl) h.zq 0 (.slice A' s'.L.length c')).setCell (q := q) (.inr rfl) h.zq 1 (.int .i64 ((s.n : Int) - 1))
  have hne : ∀ b, blkA A' b → b ≠ q := fun b hb e => nq' (e ▸ hb)
  refine ⟨hX2, rd_far (rd_far hR (fun b hb => hne b hb) _) (fun b hb => hne b hb) _, ?_, h.zq, nq'⟩
  rw [hn]
  exact row2_set10 ((hb.block q hqz).trans h.Q)
end
theorem keep3J {W w' : World} {q g o : Nat} {c0 c1 d : Value} (hb : Below W.heap.size W w') (hq : q < W.heap.size) (hg : g < W.heap.size) (x0 : W.cell? ⟨q, 0, none⟩ = some c0) (x1 : W.cell? ⟨q, 1, none⟩ = some c1) (y : W.cell? ⟨g, o, none⟩ = some d) :
    w'.cell? ⟨q, 0, none⟩ = some c0 ∧ w'.cell? ⟨q, 1, none⟩ = some c1 ∧ w'.cell? ⟨g, o, none⟩ = some d ∧ Below W.heap.size W w' :=
  ⟨(hb.cell (p := ⟨q, 0, none⟩) hq).trans x0, (hb.cell (p := ⟨q, 1, none⟩) hq).trans x1, (hb.cell (p := ⟨g, o, none⟩) hg).trans y, hb⟩
/-- The document's step was done: what it answers lies in the box y. -/
def StepJ (w4 : World) (A : Option Addr) (l : List Nat) (m : Int) (y : Nat) (wx : World) : Prop := ∃ (A' : Option Addr) (c' : Nat), wx.heap[y]? = some (.cells #[.slice A' l.length c', .int .i64 m] 28 (0, 0)) ∧ w4.heap.size ≤ y ∧ KN.Rd wx A' l ∧ (∀ b, blkA A' b → (blkA A b ∨ w4.heap.size ≤ b) ∧ b < wx.heap.size ∧ b ≠ y) ∧ Below w4.heap.size w4 wx

end Go.Proofs.Ytkkjdpmkiedbiaa
