/-
  What prune and Del of package trie do. Condition: the tree lies at the pointer's block.
-/
import Derived.Test.YtggceecolfebjaaZe
import Derived.Deep.RegionHeld3
import Derived.Deep.RegionLaw
namespace Go.Proofs.Ytggceecolfebjaa
open Go.RowKit
set_option maxRecDepth 100000

def isZ (x : Nd) : Bool := ndB x.k0 x.k1 x.th x.v 0 0 false 0
/-- The node j, a kid of i, is let go. -/
def dropT (T : Tr) (i j : Nat) (d : Int) : Tr := { T with ar := T.ar.set i (setKid (T.ar.getD i nd0) d 0), fr := T.fr ++ [j] }
def pruneF (a : Ad) (way : Nat → Nat) : Nat → Tr → Tr
  | 0, T => T
  | n + 1, T => if isZ (T.ar.getD (way (n + 1)) nd0) = true then pruneF a way n (dropT T (way n) (way (n + 1)) (bitv a n)) else T
/-- The numbers of the nodes on the way. -/
def wayN (T : Tr) (a : Ad) (m : Nat) : Nat := (nodeAt T.ar a m).getD 0
def wayL (T : Tr) (a : Ad) (k : Nat) : List Nat := (List.range k).map (wayN T a)
theorem wayL_len (T : Tr) (a : Ad) (k : Nat) : (wayL T a k).length = k := by simp [wayL]
theorem wayL_succ (T : Tr) (a : Ad) (k : Nat) : wayL T a (k + 1) = wayL T a k ++ [wayN T a k] := by simp [wayL, List.range_succ]

theorem wayN_lt {T : Tr} (h : Wf T) (a : Ad) (m : Nat) : wayN T a m < T.ar.length := by
  unfold wayN
  cases hm : nodeAt T.ar a m with
  | none => have := h.1; simp only [Option.getD_none]; omega
  | some i => exact nodeAt_lt h a m i hm
theorem way_cell {w : World} {g n cap : Nat} {T : Tr} {a : Ad} {k : Nat} (h : w.ownsRow 0 3 1 (.slice (some ⟨g, 0, none⟩) n cap) n (ints (wayL T a n))) (hk : k < n) : w.cell? ⟨g, k, none⟩ = some (.int .i64 (wayN T a k : Nat)) := by
  rw [h.cellAt k (by omega)]
  simp [ints, wayL, hk]
/-- What prune's function keeps: the way lies at block g, its box is q. -/
def PruneI (w : World) (T : Tr) (p : Pf) (b g q : Nat) (k : Nat) (S : Nat → Prop) (wr : World) : Prop :=
  (S = fun x => x = g ∨ x = q) ∧ Below b w wr ∧ PBox wr b p ∧ wr.heap[q]? = some (.cells #[.slice (some ⟨g, 0, none⟩) k (p.n.toNat + 1)] 117 (0, 0)) ∧ wr.ownsRow 0 3 1 (.slice (some ⟨g, 0, none⟩) k (p.n.toNat + 1)) k (ints (wayL T p.a k))

theorem drop_wf {T : Tr} (h : Wf T) (i j : Nat) (d : Int) (hj : j < T.ar.length) (hb : T.fr.length + 1 ≤ 1000000000) : Wf (dropT T i j d) := by
  obtain ⟨h1, h2, h3, h4, h5⟩ := h
  have hl : (dropT T i j d).ar.length = T.ar.length := by simp [dropT]
  refine ⟨by omega, by omega, ?_, ?_, ?_⟩
  · intro x hx
    rw [hl]
    by_cases hi : i < T.ar.length
    · rcases List.mem_or_eq_of_mem_set hx with hx | rfl
      · exact h3 x hx
      · have e : T.ar.getD i nd0 = T.ar[i] := by simp [hi]
        have := h3 _ (List.getElem_mem hi)
        rw [e]
        unfold setKid
        split
        · exact ⟨this.1, by simp only; omega⟩
        · exact ⟨by simp only; omega, this.2⟩
    · rw [show (dropT T i j d).ar = T.ar from List.set_eq_of_length_le (Nat.le_of_not_lt hi)] at hx
      exact h3 x hx
  · intro k hk
    rw [hl]
    simp only [dropT, List.mem_append, List.mem_singleton] at hk
    rcases hk with hk | rfl
    · exact h4 k hk
    · exact hj
  · simp [dropT]
    omega

theorem keep111 {W w' : World} {a b c i j k : Nat} {x y z : Value} (hb : Below W.heap.size W w') (ha : a < W.heap.size) (hbb : b < W.heap.size) (hc : c < W.heap.size) (h1 : W.cell? ⟨a, i, none⟩ = some x) (h2 : W.cell? ⟨b, j, none⟩ = some y) (h3 : W.cell? ⟨c, k, none⟩ = some z) :
    w'.cell? ⟨a, i, none⟩ = some x ∧ w'.cell? ⟨b, j, none⟩ = some y ∧ w'.cell? ⟨c, k, none⟩ = some z := ⟨(hb.cell ha).trans h1, (hb.cell hbb).trans h2, (hb.cell hc).trans h3⟩
theorem grown_cell {V V1 w7 : World} {row : Option Nat} (hb : Below V.heap.size V V1) (hg : V1.grownBy w7 row) {p : Addr} (hp : p.block < V.heap.size) (hn : row ≠ some p.block) : w7.cell? p = V.cell? p :=
  (World.cell?_of_block (hg.block p.block (Nat.lt_of_lt_of_le hp hb.size) (fun e => hn e.symm))).trans (hb.cell hp)
theorem grown_frozen {V V1 w7 : World} {row : Option Nat} (hb : Below V.heap.size V V1) (hg : V1.grownBy w7 row) {p : Addr} (hp : p.block < V.heap.size) (hn : row ≠ some p.block) : w7.frozen? p = V.frozen? p :=
  (World.frozen?_of_block (hg.block p.block (Nat.lt_of_lt_of_le hp hb.size) (fun e => hn e.symm))).trans (hb.frozen hp)
theorem below_alloc_drew (V : World) (o : Obj) : Below V.heap.size V (V.drew.alloc o) := ((Below.refl _ _).drew).alloc (Nat.le_refl _) o
theorem frm_of_grown {V V1 w7 : World} {row : Option Nat} (hb : Below V.heap.size V V1) (hg : V1.grownBy w7 row) : Frm (fun b => row = some b) V w7 := (frm_of_below hb).grown hg (fun _ hk => .inl hk)
/-- At the head of a round of prune. -/
def PruneRel (w : World) (t : Nat) (S : Nat → Prop) (T0 : Tr) (p : Pf) (g q : Nat) (R : Tr) (n : Value) (wr : World) : Prop :=
  ∃ (k : Nat) (T : Tr) (S' : Nat → Prop), n = .int .i64 k ∧ (k : Int) ≤ p.n ∧ pruneF p.a (wayN T0 p.a) k T = R ∧ Wf T ∧ T.ar.length = T0.ar.length ∧ T.fr.length + k ≤ 1000000000 ∧ TrS wr t S' T ∧ PBox wr w.heap.size p ∧
    wr.heap[q]? = some (.cells #[.slice (some ⟨g, 0, none⟩) (p.n.toNat + 1) (p.n.toNat + 1)] 117 (0, 0)) ∧ wr.ownsRow 0 3 1 (.slice (some ⟨g, 0, none⟩) (p.n.toNat + 1) (p.n.toNat + 1)) (p.n.toNat + 1) (ints (wayL T0 p.a (p.n.toNat + 1))) ∧ Frm S w wr ∧ Sub S S' w.heap.size ∧ ¬ S' w.heap.size ∧ ¬ S' g ∧ ¬ S' q

end Go.Proofs.Ytggceecolfebjaa
