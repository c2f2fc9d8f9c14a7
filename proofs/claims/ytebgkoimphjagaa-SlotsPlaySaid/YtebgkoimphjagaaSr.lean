/-
  Places and the document's answer side by side: what a step leaves of both. Condition: as said.
-/
import Derived.Test.YtebgkoimphjagaaSq
import Derived.Test.YtebgkoimphjagaaRowS
namespace Go.Proofs.Ytebgkoimphjagaa
open Go.RowKit
set_option maxRecDepth 100000

/-- Places at t, the document's answer in the box q, a thing done in the box ob. -/
structure PlayO (w1 : World) (t q ob : Nat) (a : Ac9) (r : Rw) (s : Sl) (wr : World) : Prop where
  X : WX (fun b => r.blk b ∨ b = q ∨ b = ob) w1 t s wr
  R : RfS wr r s
  Q : wr.heap[q]? = some (.cells #[r.va s, r.vb s, r.vc s, .int .i64 s.pl.length] 29 (0, 0))
  O : wr.heap[ob]? = some (.cells #[.int .i64 a.what, .int .i64 a.i, .int .i64 a.x] 32 (0, 0))
  zq : w1.heap.size ≤ q
  nq : ¬ r.blk q
structure PlayW (w1 : World) (t q : Nat) (r : Rw) (s : Sl) (wr : World) : Prop where
  X : WX (fun b => r.blk b ∨ b = q) w1 t s wr
  R : RfS wr r s
  Q : wr.heap[q]? = some (.cells #[r.va s, r.vb s, r.vc s, .int .i64 s.pl.length] 29 (0, 0))
  zq : w1.heap.size ≤ q
  nq : ¬ r.blk q
theorem WX.xlt {X : Nat → Prop} {w0 wr : World} {t : Nat} {s : Sl} (h : WX X w0 t s wr) : ∀ b, X b → b < wr.heap.size := by
  obtain ⟨-, S, -, -, g3, -⟩ := h
  exact g3
theorem PlayW.keep {w1 wr w2 : World} {t q : Nat} {r : Rw} {s : Sl} (h : PlayW w1 t q r s wr) (hb : Below wr.heap.size wr w2) : PlayW w1 t q r s w2 :=
  ⟨h.X.keep hb, h.R.keep hb, (hb.block q (lt_of_block h.Q)).trans h.Q, h.zq, h.nq⟩
theorem PlayO.keep {w1 wr w2 : World} {t q ob : Nat} {a : Ac9} {r : Rw} {s : Sl} (h : PlayO w1 t q ob a r s wr) (hb : Below wr.heap.size wr w2) : PlayO w1 t q ob a r s w2 :=
  ⟨h.X.keep hb, h.R.keep hb, (hb.block q (lt_of_block h.Q)).trans h.Q, (hb.block ob (lt_of_block h.O)).trans h.O, h.zq, h.nq⟩
theorem PlayO.less {w1 wr : World} {t q ob : Nat} {a : Ac9} {r : Rw} {s : Sl} (h : PlayO w1 t q ob a r s wr) : PlayW w1 t q r s wr :=
  ⟨h.X.turn (Below.refl _ _) (fun b hb => .inl (by rcases hb with e | e; exact .inl e; exact .inr (.inl e))) (fun b hb => h.X.xlt b (by rcases hb with e | e; exact .inl e; exact .inr (.inl e))), h.R, h.Q, h.zq, h.nq⟩
theorem PlayW.more {w1 wr : World} {t q : Nat} {a : Ac9} {r : Rw} {s : Sl} (h : PlayW w1 t q r s wr) : PlayO w1 t q wr.heap.size a r s (wr.alloc (.cells #[.int .i64 a.what, .int .i64 a.i, .int .i64 a.x] 32 (0, 0))) := by
  have hb : Below wr.heap.size wr (wr.alloc (.cells #[.int .i64 a.what, .int .i64 a.i, .int .i64 a.x] 32 (0, 0))) := (Below.refl _ _).alloc (Nat.le_refl _) _
  refine ⟨h.X.turn hb (fun b hx => ?_) (fun b hx => ?_), h.R.keep hb, hp_old (lt_of_block h.Q) h.Q, hp_new rfl, h.zq, h.nq⟩
  · rcases hx with e | e | e
    · exact .inl (.inl e)
    · exact .inl (.inr e)
    · exact .inr (by omega)
  · rcases hx with e | e | e
    · exact Nat.lt_of_lt_of_le (h.X.xlt b (.inl e)) hb.size
    · exact Nat.lt_of_lt_of_le (h.X.xlt b (.inr e)) hb.size
    · subst e; simp
theorem Kd.Rd.same {α : Type} {K : Kd α} {w w' : World} {A : Option Addr} {l : List α} (h : K.Rd w A l) (hb : ∀ b, A.map (·.block) = some b → w'.heap[b]? = w.heap[b]? ∧ b < w'.heap.size) : K.Rd w' A l := fun hl => by
  obtain ⟨g, off, e, hg, hc⟩ := h hl
  obtain ⟨h1, h2⟩ := hb g (by rw [e]; rfl)
  exact ⟨g, off, e, h2, fun i hi j hj => (World.cell?_of_block h1).trans (hc i hi j hj)⟩
theorem RfS.blocks {w w' : World} {r : Rw} {s : Sl} (h : RfS w r s) (hb : ∀ b, r.blk b → w'.heap[b]? = w.heap[b]? ∧ b < w'.heap.size) : RfS w' r s :=
  ⟨h.A.same fun b e => hb b (.inl e), h.B.same fun b e => hb b (.inr (.inl e)), h.C.same fun b e => hb b (.inr (.inr e)), h.nA, h.nB, h.nC⟩
/-- The program's step was done; the document's is yet to be. -/
structure PlayM (w1 : World) (t q ob : Nat) (a : Ac9) (r : Rw) (s s' : Sl) (wr : World) : Prop where
  X : WX (fun b => r.blk b ∨ b = q ∨ b = ob) w1 t s' wr
  R : RfS wr r s
  Q : wr.heap[q]? = some (.cells #[r.va s, r.vb s, r.vc s, .int .i64 s.pl.length] 29 (0, 0))
  O : wr.heap[ob]? = some (.cells #[.int .i64 a.what, .int .i64 a.i, .int .i64 a.x] 32 (0, 0))
  zq : w1.heap.size ≤ q
  nq : ¬ r.blk q
theorem PlayO.mid {w1 wr w2 : World} {t q ob : Nat} {a : Ac9} {r : Rw} {s s' : Sl} (h : PlayO w1 t q ob a r s wr) (g1 : WX (fun b => r.blk b ∨ b = q ∨ b = ob) w1 t s' w2) (g2 : ∀ b, (r.blk b ∨ b = q ∨ b = ob) → w2.heap[b]? = wr.heap[b]?) : PlayM w1 t q ob a r s s' w2 :=
  ⟨g1, h.R.blocks fun b hb => ⟨g2 b (.inl hb), g1.xlt b (.inl hb)⟩, (g2 q (.inr (.inl rfl))).trans h.Q, (g2 ob (.inr (.inr rfl))).trans h.O, h.zq, h.nq⟩
theorem PlayM.fin {w1 wr w2 : World} {t q ob : Nat} {a : Ac9} {r r' : Rw} {s s' : Sl} (h : PlayM w1 t q ob a r s s' wr) (hR : RfS w2 r' s') (hB : ∀ b, r'.blk b → (r.blk b ∨ wr.heap.size ≤ b) ∧ b < w2.heap.size) (hb : Below wr.heap.size wr w2) (o : Obj) :
    PlayO w1 t q ob a r' s' (((((w2.setCell ⟨q, 0, none⟩ (r'.va s')).setCell ⟨q, 1, none⟩ (r'.vb s')).setCell ⟨q, 2, none⟩ (r'.vc s')).setCell ⟨q, 3, none⟩ (.int .i64 s'.pl.length)).alloc o) := by
  have hqz := lt_of_block h.Q
  have hoz := lt_of_block h.O
  have hqo : q ≠ ob := by
    rintro rfl
    have := h.Q
    rw [h.O] at this
    simp at this
  have nq' : ¬ r'.blk q := fun e => by
    rcases (hB q e).1 with e1 | e1
    · exact h.nq e1
    · omega
  have hX : WX (fun b => r'.blk b ∨ b = q ∨ b = ob) w1 t s' w2 := h.X.turn hb (fun b hx => by
    rcases hx with e | e | e
    · rcases (hB b e).1 with e1 | e1
      · exact .inl (.inl e1)
      · exact .inr e1
    · exact .inl (.inr (.inl e))
    · exact .inl (.inr (.inr e))) (fun b hx => by
    rcases hx with e | e | e
    · exact (hB b e).2
    · subst e; exact Nat.lt_of_lt_of_le hqz hb.size
    · subst e; exact Nat.lt_of_lt_of_le hoz hb.size)
  have hX4 := (((hX.setCell (q := q) (.inr (.inl rfl)) h.zq 0 (r'.va s')).setCell (q := q) (.inr (.inl rfl)) h.zq 1 (r'.vb s')).setCell (q := q) (.inr (.inl rfl)) h.zq 2 (r'.vc s')).setCell (q := q) (.inr (.inl rfl)) h.zq 3 (.int .i64 s'.pl.length)
  refine PlayO.keep (wr := _) ⟨hX4, hR.blocks fun b hbb => ⟨?_, hX4.xlt b (.inl hbb)⟩, row4_set ((hb.block q hqz).trans h.Q), ?_, h.zq, nq'⟩ ((Below.refl _ _).alloc (Nat.le_refl _) o)
  · have hne : b ≠ q := fun e => nq' (e ▸ hbb)
    rw [Below.heap_setCell _ _ _ _ hne, Below.heap_setCell _ _ _ _ hne, Below.heap_setCell _ _ _ _ hne, Below.heap_setCell _ _ _ _ hne]
  · have hne : ob ≠ q := fun e => hqo e.symm
    rw [Below.heap_setCell _ _ _ _ hne, Below.heap_setCell _ _ _ _ hne, Below.heap_setCell _ _ _ _ hne, Below.heap_setCell _ _ _ _ hne]
    exact (hb.block ob hoz).trans h.O

end Go.Proofs.Ytebgkoimphjagaa
