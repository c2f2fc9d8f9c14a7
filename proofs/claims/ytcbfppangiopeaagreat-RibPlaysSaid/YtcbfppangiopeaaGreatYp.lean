/-
  Pairs as they lie in memory; those on the way to a prefix. Condition: none.
-/
import Derived.Test.YtcbfppangiopeaaGreatZf
namespace Go.Proofs.YtcbfppangiopeaaGreat
open Go.RowKit
set_option maxRecDepth 100000

theorem own_base {w : World} {base base' : Nat} {e : TypeId} {size n : Nat} {v : Value} {xs : List Value} (h : w.ownsRow base e size v n xs) (hb : base' ≤ base) : w.ownsRow base' e size v n xs := by
  obtain ⟨h1, h2⟩ := h
  refine ⟨h1, h2.imp id ?_⟩
  rintro ⟨g, cap, cur, e1, e2, e3⟩
  exact ⟨g, cap, cur, e1, Nat.le_trans hb e2, e3⟩
/-- A prefix and its number. -/
structure Pr where
  p : Pf
  v : Int
deriving DecidableEq
def pr5 (x : Pr) : List Value := [.int .u64 (u x.p.a.hi), .int .u64 (u x.p.a.lo), .bool x.p.a.v6, .int .i64 x.p.n, .int .i64 x.v]
def prv (l : List Pr) : List Value := l.flatMap pr5
theorem prv_append (a b : List Pr) : prv (a ++ b) = prv a ++ prv b := List.flatMap_append
theorem prv_one (a : Pr) : prv [a] = pr5 a := by simp [prv]
theorem prv_cons (a : Pr) (l : List Pr) : prv (a :: l) = pr5 a ++ prv l := rfl
theorem prv_len (l : List Pr) : (prv l).length = l.length * 5 := by
  induction l with
  | nil => rfl
  | cons r l ih =>
    rw [prv_cons, List.length_append, ih]
    simp [pr5]
    omega
theorem prv_at (l : List Pr) (i : Nat) (h : i < l.length) (j : Nat) (hj : j < 5) : (prv l)[i * 5 + j]? = (pr5 l[i])[j]? := by
  induction l generalizing i with
  | nil => cases h
  | cons r l ih =>
    rw [prv_cons]
    cases i with
    | zero =>
      rw [List.getElem?_append_left (by simp [pr5]; omega)]
      simp
    | succ i =>
      rw [List.getElem?_append_right (by simp [pr5]; omega)]
      have e : (i + 1) * 5 + j - (pr5 r).length = i * 5 + j := by simp [pr5]; omega
      rw [e, ih i (by simpa using h)]
      rfl
theorem pr5_cell (r : Pr) : ∀ u ∈ pr5 r, u.oneCell' = true := by
  intro u hu
  simp [pr5] at hu
  rcases hu with rfl | rfl | rfl | rfl | rfl <;> rfl
theorem info_pr : (Tryz.prog.info? 90).map (fun i => (i.zero, i.size, i.bytes)) = some (some (.agg #[.int .u64 0, .int .u64 0, .bool false, .int .i64 0, .int .i64 0]), 5, 40) := by kernel_rfl

/-- Those of the first k nodes on the way at which something is there. -/
def aboveK (T : Tr) (p : Pf) : Nat → List Pr
  | 0 => []
  | k + 1 => aboveK T p k ++ (match nodeAt T.ar p.a k with
    | none => []
    | some i => if (T.ar.getD i nd0).th = true then [⟨pof p.a k, (T.ar.getD i nd0).v⟩] else [])
theorem aboveK_len (T : Tr) (p : Pf) (k : Nat) : (aboveK T p k).length ≤ k := by
  induction k with
  | zero => exact Nat.le_refl _
  | succ k ih =>
    simp only [aboveK, List.length_append]
    have : ∀ (o : Option Nat) (f : Nat → List Pr), (∀ i, (f i).length ≤ 1) → (match o with | none => [] | some i => f i).length ≤ 1 := fun o f hf => by
      cases o
      · simp
      · exact hf _
    have h1 := this (nodeAt T.ar p.a k) (fun i => if (T.ar.getD i nd0).th = true then [⟨pof p.a k, (T.ar.getD i nd0).v⟩] else []) (fun i => by split <;> simp)
    omega
/-- A pointer's box. -/
def TBox (w : World) (b t : Nat) : Prop := w.heap[b]? = some (.cells #[.pointer (some ⟨t, 0, none⟩)] 56 (0, 0))
/-- How many nodes there are on the way to a prefix. -/
def WayEnds (T : Tr) (p : Pf) (m : Nat) : Prop := (m : Int) ≤ p.n ∧ (∃ i, nodeAt T.ar p.a m = some i) ∧ ((m : Int) = p.n ∨ nodeAt T.ar p.a (m + 1) = none)
def ListPost (w : World) (l : List Pr) (e : Ending) (w' : World) : Prop := ∃ v, e = .returned v ∧ w'.ownsRow w.heap.size 90 5 v l.length (prv l) ∧ Below w.heap.size w w'
def AbovePost (w : World) (T : Tr) (p : Pf) (e : Ending) (w' : World) : Prop := ∃ m, WayEnds T p m ∧ ListPost w (aboveK T p (m + 1)) e w'

end Go.Proofs.YtcbfppangiopeaaGreat
