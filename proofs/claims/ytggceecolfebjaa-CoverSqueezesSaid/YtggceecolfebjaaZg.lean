/-
  What Del of package trie does. Condition: the tree lies at the pointer's block.
-/
import Derived.Test.YtggceecolfebjaaZf
namespace Go.Proofs.Ytggceecolfebjaa
open Go.RowKit
set_option maxRecDepth 100000

/-- A number is taken out of a node. -/
def delN (T : Tr) (i : Nat) : Tr := { T with ar := T.ar.set i (setV (T.ar.getD i nd0) false 0), n := T.n - 1 }
def DelPost (w : World) (t : Nat) (S : Nat → Prop) (T : Tr) (p : Pf) (i : Nat) (e : Ending) (w' : World) : Prop :=
  TPost t S w (pruneF p.a (wayN (delN T i) p.a) p.n.toNat (delN T i)) (.int .i64 0) e w'
theorem setV_kids (x : Nd) (th : Bool) (v : Int) (d : Int) : kid (setV x th v) d = kid x d := rfl
/-- Values change no way. -/
theorem nodeAt_setV (ar : List Nd) (i : Nat) (th : Bool) (v : Int) (a : Ad) (k : Nat) : nodeAt (ar.set i (setV (ar.getD i nd0) th v)) a k = nodeAt ar a k := by
  induction k with
  | zero => rfl
  | succ k ih =>
    simp only [nodeAt, ih]
    congr 1
    funext j
    have e : ∀ d, kid ((ar.set i (setV (ar.getD i nd0) th v)).getD j nd0) d = kid (ar.getD j nd0) d := by
      intro d
      by_cases hj : j < ar.length
      · by_cases hij : i = j
        · subst hij
          simp [hj, setV_kids]
        · simp [List.getElem?_set_ne hij]
      · have e1 : ∀ x : Nd, (ar.set i x)[j]? = none := fun x => List.getElem?_eq_none (by simp; omega)
        have e2 : ar.getD j nd0 = nd0 := by rw [List.getD_eq_getElem?_getD, List.getElem?_eq_none (Nat.le_of_not_lt hj)]; rfl
        rw [e2, List.getD_eq_getElem?_getD, e1]
        rfl
    rw [e]
theorem setV_wf {T : Tr} (h : Wf T) (i : Nat) (th : Bool) (v : Int) (n : Int) : Wf { T with ar := T.ar.set i (setV (T.ar.getD i nd0) th v), n := n } := by
  obtain ⟨h1, h2, h3, h4, h5⟩ := h
  refine ⟨by simpa using h1, by simpa using h2, ?_, by simpa using h4, h5⟩
  intro x hx
  simp only [List.length_set]
  by_cases hi : i < T.ar.length
  · rcases List.mem_or_eq_of_mem_set hx with hx | rfl
    · exact h3 x hx
    · have e : T.ar.getD i nd0 = T.ar[i] := by simp [hi]
      rw [e]
      have := h3 _ (List.getElem_mem hi)
      exact this
  · rw [List.set_eq_of_length_le (Nat.le_of_not_lt hi)] at hx
    exact h3 x hx

end Go.Proofs.Ytggceecolfebjaa
