/-
  What Longest's function keeps. No condition.
-/
import Derived.Test.YtcbfppangiopeaaGreatZk
namespace Go.Proofs.YtcbfppangiopeaaGreat
open Go.RowKit

/-- The last one of the first k nodes on the way at which something is there. -/
def longK (T : Tr) (a : Ad) (b : Ad) : Nat → Option Pr
  | 0 => none
  | k + 1 => match nodeAt T.ar a k with
    | none => longK T a b k
    | some i => if (T.ar.getD i nd0).th = true then some ⟨pof b k, (T.ar.getD i nd0).v⟩ else longK T a b k
def nilPr : Pr := ⟨nilP, 0⟩
/-- An address lies in a block. -/
def ABox (wr : World) (b : Nat) (x : Ad) : Prop := wr.cell? ⟨b, 0, none⟩ = some (.int .u64 (u x.hi)) ∧ wr.cell? ⟨b, 1, none⟩ = some (.int .u64 (u x.lo)) ∧ wr.cell? ⟨b, 2, none⟩ = some (.bool x.v6) ∧ b < wr.heap.size
theorem ABox.frm {S : Nat → Prop} {w w' : World} {b : Nat} {x : Ad} (h : ABox w b x) (hf : Frm S w w') (hn : ¬ S b) : ABox w' b x := by
  obtain ⟨h1, h2, h3, h9⟩ := h
  exact ⟨(hf.cell h9 hn).trans h1, (hf.cell h9 hn).trans h2, (hf.cell h9 hn).trans h3, Nat.lt_of_lt_of_le h9 hf.size⟩
theorem ABox.keep {w w' : World} {b : Nat} {x : Ad} (h : ABox w b x) (hf : Below w.heap.size w w') : ABox w' b x := h.frm (frm_of_below (S := fun _ => False) hf) (fun h => h)
/-- What Longest's function keeps. -/
def LongI (w : World) (t : Nat) (T : Tr) (p : Pf) (a : Ad) (b : Nat) (k : Nat) (S : Nat → Prop) (wr : World) : Prop :=
  (S = fun x => x = b + 1 + 1 + 1 ∨ x = b + 1 + 1 + 1 + 1) ∧ Below b w wr ∧ TBox wr b t ∧ ABox wr (b + 1) a ∧ wr.heap[b + 1 + 1 + 1]? = some (.cells (pr5 ((longK T p.a a k).getD nilPr)).toArray 90 (0, 0)) ∧ wr.heap[b + 1 + 1 + 1 + 1]? = some (.cells #[.bool (longK T p.a a k).isSome] 4 (0, 0)) ∧
    wr.heap[b + 1 + 1]? = some (.cells #[.int .u64 0, .int .u64 0, .bool false, .int .i64 0, .int .i64 0] 90 (0, 0))

theorem row_set {w : World} {b i : Nat} {cs : Array Value} {e : TypeId} {u : Value} (h : w.heap[b]? = some (.cells cs e (0, 0))) : (w.setCell ⟨b, i, none⟩ u).heap[b]? = some (.cells (cs.setIfInBounds i u) e (0, 0)) := heap_setCell_same w b i cs e u h
/-- A longer one was found. -/
theorem long_step {w0 w w5 : World} {t b : Nat} (T : Tr) (p : Pf) {a : Ad} (k : Nat) {y r : Pr} {z : Bool} (h1 : w.heap[b + 1 + 1 + 1]? = some (.cells (pr5 y).toArray 90 (0, 0))) (h2 : w.heap[b + 1 + 1 + 1 + 1]? = some (.cells #[.bool z] 4 (0, 0)))
    (h3 : w.heap[b + 1 + 1]? = some (.cells #[.int .u64 0, .int .u64 0, .bool false, .int .i64 0, .int .i64 0] 90 (0, 0))) (hTb : TBox w b t) (hA : ABox w (b + 1) a) (hB : Below b w0 w) (hL : longK T p.a a (k + 1) = some r) (h5 : Below w.heap.size w w5) :
    ∃ S', LongI w0 t T p a b (k + 1) S' (((((((((((w5.setCell ⟨b + 1 + 1 + 1, 0, none⟩ (.int .u64 0)).setCell ⟨b + 1 + 1 + 1, 1, none⟩ (.int .u64 0)).setCell ⟨b + 1 + 1 + 1, 2, none⟩ (.bool false)).setCell ⟨b + 1 + 1 + 1, 3, none⟩ (.int .i64 0)).setCell ⟨b + 1 + 1 + 1, 4, none⟩ (.int .i64 0)).setCell ⟨b + 1 + 1 + 1, 0, none⟩ (.int .u64 (u r.p.a.hi))).setCell ⟨b + 1 + 1 + 1, 1, none⟩ (.int .u64 (u r.p.a.lo))).setCell ⟨b + 1 + 1 + 1, 2, none⟩ (.bool r.p.a.v6)).setCell ⟨b + 1 + 1 + 1, 3, none⟩ (.int .i64 r.p.n)).setCell ⟨b + 1 + 1 + 1, 4, none⟩ (.int .i64 r.v)).setCell ⟨b + 1 + 1 + 1 + 1, 0, none⟩ (.bool true)) ∧
      Frm (fun x => x = b + 1 + 1 + 1 ∨ x = b + 1 + 1 + 1 + 1) w (((((((((((w5.setCell ⟨b + 1 + 1 + 1, 0, none⟩ (.int .u64 0)).setCell ⟨b + 1 + 1 + 1, 1, none⟩ (.int .u64 0)).setCell ⟨b + 1 + 1 + 1, 2, none⟩ (.bool false)).setCell ⟨b + 1 + 1 + 1, 3, none⟩ (.int .i64 0)).setCell ⟨b + 1 + 1 + 1, 4, none⟩ (.int .i64 0)).setCell ⟨b + 1 + 1 + 1, 0, none⟩ (.int .u64 (u r.p.a.hi))).setCell ⟨b + 1 + 1 + 1, 1, none⟩ (.int .u64 (u r.p.a.lo))).setCell ⟨b + 1 + 1 + 1, 2, none⟩ (.bool r.p.a.v6)).setCell ⟨b + 1 + 1 + 1, 3, none⟩ (.int .i64 r.p.n)).setCell ⟨b + 1 + 1 + 1, 4, none⟩ (.int .i64 r.v)).setCell ⟨b + 1 + 1 + 1 + 1, 0, none⟩ (.bool true)) ∧
      Sub (fun x => x = b + 1 + 1 + 1 ∨ x = b + 1 + 1 + 1 + 1) S' w.heap.size := by
  have z1 := lt_of_block h1
  have z2 := lt_of_block h2
  have hF := frm_of_below (S := fun x => x = b + 1 + 1 + 1 ∨ x = b + 1 + 1 + 1 + 1) h5
  have hF' := ((((((((((hF.setCell (p := ⟨b + 1 + 1 + 1, 0, none⟩) (.inl (.inl rfl)) (.int .u64 0)).setCell (p := ⟨b + 1 + 1 + 1, 1, none⟩) (.inl (.inl rfl)) (.int .u64 0)).setCell (p := ⟨b + 1 + 1 + 1, 2, none⟩) (.inl (.inl rfl)) (.bool false)).setCell (p := ⟨b + 1 + 1 + 1, 3, none⟩) (.inl (.inl rfl)) (.int .i64 0)).setCell (p := ⟨b + 1 + 1 + 1, 4, none⟩) (.inl (.inl rfl)) (.int .i64 0)).setCell (p := ⟨b + 1 + 1 + 1, 0, none⟩) (.inl (.inl rfl)) (.int .u64 (u r.p.a.hi))).setCell (p := ⟨b + 1 + 1 + 1, 1, none⟩) (.inl (.inl rfl)) (.int .u64 (u r.p.a.lo))).setCell (p := ⟨b + 1 + 1 + 1, 2, none⟩) (.inl (.inl rfl)) (.bool r.p.a.v6)).setCell (p := ⟨b + 1 + 1 + 1, 3, none⟩) (.inl (.inl rfl)) (.int .i64 r.p.n)).setCell (p := ⟨b + 1 + 1 + 1, 4, none⟩) (.inl (.inl rfl)) (.int .i64 r.v)).setCell (p := ⟨b + 1 + 1 + 1 + 1, 0, none⟩) (.inl (.inr rfl)) (.bool true)
  refine ⟨_, ⟨rfl, ?_, ?_, ?_, ?_, ?_, ?_⟩, hF', Sub.refl _ _⟩
  · exact hB.trans (hF'.below (B := b) (fun x hx => by rcases hx with rfl | rfl <;> omega) (by omega))
  · exact (hF'.block b (by omega) (fun e => by omega)).trans hTb
  · exact hA.frm hF' (fun e => by omega)
  · rw [Below.heap_setCell _ _ _ _ (by simp), hL]
    have h6 := (h5.block _ z1).trans h1
    have := row_set (i := 4) (u := .int .i64 r.v) (row_set (i := 3) (u := .int .i64 r.p.n) (row_set (i := 2) (u := .bool r.p.a.v6) (row_set (i := 1) (u := .int .u64 (u r.p.a.lo)) (row_set (i := 0) (u := .int .u64 (u r.p.a.hi)) (row_set (i := 4) (u := .int .i64 0) (row_set (i := 3) (u := .int .i64 0) (row_set (i := 2) (u := .bool false) (row_set (i := 1) (u := .int .u64 0) (row_set (i := 0) (u := .int .u64 0) h6)))))))))
    rw [this]
    simp [pr5]
  · rw [hL]
    have h6 := (h5.block _ z2).trans h2
    refine (row_set (i := 0) (u := .bool true) (cs := #[.bool z]) (e := 4) ?_).trans (by simp)
    rw [Below.heap_setCell _ _ _ _ (by simp), Below.heap_setCell _ _ _ _ (by simp), Below.heap_setCell _ _ _ _ (by simp), Below.heap_setCell _ _ _ _ (by simp), Below.heap_setCell _ _ _ _ (by simp), Below.heap_setCell _ _ _ _ (by simp), Below.heap_setCell _ _ _ _ (by simp), Below.heap_setCell _ _ _ _ (by simp), Below.heap_setCell _ _ _ _ (by simp), Below.heap_setCell _ _ _ _ (by simp)]
    exact h6
  · exact (hF'.block (b + 1 + 1) (by omega) (fun e => by omega)).trans h3

end Go.Proofs.YtcbfppangiopeaaGreat
