/-
  What below and Under of package trie return. Condition: the tree lies at the pointer's block.
-/
import Derived.Test.YtggceecolfebjaaZg
import Derived.Test.YtggceecolfebjaaYp
namespace Go.Proofs.Ytggceecolfebjaa
open Go.RowKit
set_option maxRecDepth 100000

/-- What Under's function keeps: the list that it has so far. -/
def UnderI (w : World) (t b q' : Nat) (l : List Pr) (S : Nat → Prop) (wr : World) : Prop :=
  ∃ v, (S = fun x => x = q' ∨ v.ownBlock = some x) ∧ b < q' ∧ Below b w wr ∧ TBox wr b t ∧ wr.heap[q']? = some (.cells #[v] 130 (0, 0)) ∧ wr.ownsRow (q' + 1) 133 5 v l.length (prv l)
/-- A list in a box grew by one. -/
theorem under_step {w0 w V1 w7 : World} {t b q' : Nat} (hbq : b < q') {l : List Pr} {v : Value} {y : Pr} {g7 cap7 : Nat} (h2 : w.ownsRow (q' + 1) 133 5 v l.length (prv l)) (h1 : w.heap[q']? = some (.cells #[v] 130 (0, 0))) (hTb : TBox w b t) (hB : Below b w0 w)
    (hV : Below w.heap.size w V1) (hg : V1.grownBy w7 v.ownBlock) (ho : w7.ownsRow (q' + 1) 133 5 (.slice (some ⟨g7, 0, none⟩) (l.length + 1) cap7) (l.length + 1) (prv l ++ pr5 y)) (hat : v.ownBlock = some g7 ∨ g7 = V1.heap.size) :
    ∃ S', UnderI w0 t b q' (l ++ [y]) S' (w7.setCell ⟨q', 0, none⟩ (.slice (some ⟨g7, 0, none⟩) (l.length + 1) cap7)) ∧ Frm (fun x => x = q' ∨ v.ownBlock = some x) w (w7.setCell ⟨q', 0, none⟩ (.slice (some ⟨g7, 0, none⟩) (l.length + 1) cap7)) ∧ Sub (fun x => x = q' ∨ v.ownBlock = some x) S' w.heap.size := by
  have z1 := lt_of_block h1
  have zV := hV.size
  have hge := own_ge h2
  have hge7 : q' + 1 ≤ g7 := own_ge ho g7 rfl
  have hF : Frm (fun x => x = q' ∨ v.ownBlock = some x) w w7 := (frm_of_below hV).grown hg (fun k hk => .inl (.inr hk))
  have hF' := hF.setCell (p := ⟨q', 0, none⟩) (.inl (.inl rfl)) (.slice (some ⟨g7, 0, none⟩) (l.length + 1) cap7)
  have hq : w7.heap[q']? = some (.cells #[v] 130 (0, 0)) := (hg.block _ (by omega) (fun e => by have := hge _ e.symm; omega)).trans ((hV.block _ z1).trans h1)
  refine ⟨_, ⟨.slice (some ⟨g7, 0, none⟩) (l.length + 1) cap7, rfl, hbq, ?_, ?_, one_setCell hq, ?_⟩, hF', ?_⟩
  · exact hB.trans (hF'.below (B := b) (fun x hx => by rcases hx with rfl | hx; omega; have := hge x hx; omega) (by omega))
  · exact (hF'.block b (by omega) (fun e => by rcases e with e | e; omega; have := hge b e; omega)).trans hTb
  · rw [prv_append, prv_one, List.length_append]
    exact ownsRow_setCell_other ho (by simp [Value.ownBlock]; omega) _
  · rintro x (rfl | hx)
    · exact .inl (.inl rfl)
    · simp only [Value.ownBlock, Option.some.injEq] at hx
      subst hx
      rcases hat with e | e
      · exact .inl (.inr e)
      · exact .inr (by omega)
/-- What a node that is shown adds. -/
def shown (T : Tr) (q : Pf) (i : Nat) : List Pr := if (T.ar.getD i nd0).th = true then [⟨q, (T.ar.getD i nd0).v⟩] else []

end Go.Proofs.Ytggceecolfebjaa
