/-
  A tree of nodes in memory: what lies where, and which blocks a call may change. No condition.
-/
import Derived.Test.YtcbfppangiopeaaGreatFr
import Derived.Test.YtcbfppangiopeaaGreatPbx
import Derived.Test.YtcbfppangiopeaaGreatRefC
import Derived.Test.YtcbfppangiopeaaGreatPg
import Derived.Test.YtcbfppangiopeaaGreatPh
import Derived.Test.YtcbfppangiopeaaGreatMathR
import Derived.Test.YtcbfppangiopeaaGreatMix
import Derived.Maps.AppendAt
import Derived.Deep.AppendLies
import Derived.Deep.AppendSrc
namespace Go.Proofs.YtcbfppangiopeaaGreat
open Go.RowKit

/-- A box of a prefix stays. -/
theorem PBox.frm {S : Nat → Prop} {w w' : World} {b : Nat} {x : Pf} (h : PBox w b x) (hf : Frm S w w') (hn : ¬ S b) : PBox w' b x := by
  obtain ⟨h1, h2, h3, h4, h5, h6, h7, h8, h9⟩ := h
  exact ⟨(hf.cell h9 hn).trans h1, (hf.cell h9 hn).trans h2, (hf.cell h9 hn).trans h3, (hf.cell h9 hn).trans h4, (hf.frozen h9 hn).trans h5, (hf.frozen h9 hn).trans h6, (hf.frozen h9 hn).trans h7, (hf.frozen h9 hn).trans h8, Nat.lt_of_lt_of_le h9 hf.size⟩
theorem PBox.keep {w w' : World} {b : Nat} {x : Pf} (h : PBox w b x) (hf : Below w.heap.size w w') : PBox w' b x := h.frm (frm_of_below (S := fun _ => False) hf) (fun h => h)

/-- A node. -/
structure Nd where
  k0 : Nat
  k1 : Nat
  th : Bool
  v : Int
def nd0 : Nd := ⟨0, 0, false, 0⟩
def nd4 (x : Nd) : List Value := [.int .i64 x.k0, .int .i64 x.k1, .bool x.th, .int .i64 x.v]
def ndv (l : List Nd) : List Value := l.flatMap nd4
theorem ndv_append (a b : List Nd) : ndv (a ++ b) = ndv a ++ ndv b := List.flatMap_append
theorem ndv_one (a : Nd) : ndv [a] = nd4 a := by simp [ndv]
theorem ndv_len (l : List Nd) : (ndv l).length = l.length * 4 := by
  induction l with
  | nil => rfl
  | cons r l ih =>
    rw [show r :: l = [r] ++ l from rfl, ndv_append, List.length_append, ih, ndv_one, List.length_append]
    simp [nd4]
    omega
theorem ndv_at (l : List Nd) (i : Nat) (h : i < l.length) (j : Nat) (hj : j < 4) : (ndv l)[i * 4 + j]? = (nd4 l[i])[j]? := by
  induction l generalizing i with
  | nil => cases h
  | cons r l ih =>
    have e0 : ndv (r :: l) = nd4 r ++ ndv l := by rw [show r :: l = [r] ++ l from rfl, ndv_append, ndv_one]
    rw [e0]
    cases i with
    | zero =>
      rw [List.getElem?_append_left (by simp [nd4]; omega)]
      simp
    | succ i =>
      rw [List.getElem?_append_right (by simp [nd4]; omega)]
      have e : (i + 1) * 4 + j - (nd4 r).length = i * 4 + j := by simp [nd4]; omega
      rw [e, ih i (by simpa using h)]
      rfl
theorem nd4_cell (r : Nd) : ∀ u ∈ nd4 r, u.oneCell' = true := by
  intro u hu
  simp [nd4] at hu
  rcases hu with rfl | rfl | rfl | rfl <;> rfl
/-- A tree: nodes, places that are free, how many are there. -/
structure Tr where
  ar : List Nd
  fr : List Nat
  n : Int
/-- It lies at block t. -/
def TrA (w : World) (t : Nat) (vA vF : Value) (T : Tr) : Prop :=
  w.heap[t]? = some (.cells #[vA, vF, .int .i64 T.n] 99 (0, 0)) ∧ w.ownsRow 0 120 4 vA T.ar.length (ndv T.ar) ∧ w.ownsRow 0 3 1 vF T.fr.length (ints T.fr)
def TrS (w : World) (t : Nat) (S : Nat → Prop) (T : Tr) : Prop := ∃ vA vF, S = foot t vA vF ∧ TrA w t vA vF T

theorem TrA.frm {w w' : World} {t : Nat} {vA vF : Value} {T : Tr} {S : Nat → Prop} (h : TrA w t vA vF T) (hf : Frm S w w') (hn : ∀ b, foot t vA vF b → ¬ S b) : TrA w' t vA vF T :=
  ⟨(hf.block t (lt_of_block h.1) (hn t (.inl rfl))).trans h.1, own_block h.2.1 fun b hb hl => hf.block b hl (hn b (.inr (.inl hb))), own_block h.2.2 fun b hb hl => hf.block b hl (hn b (.inr (.inr hb)))⟩
theorem TrA.keep {w w' : World} {t : Nat} {vA vF : Value} {T : Tr} (h : TrA w t vA vF T) (hb : Below w.heap.size w w') : TrA w' t vA vF T := h.frm (S := fun _ => False) (frm_of_below hb) (fun _ _ h => h)
theorem TrS.keep {w w' : World} {t : Nat} {S : Nat → Prop} {T : Tr} (h : TrS w t S T) (hb : Below w.heap.size w w') : TrS w' t S T := by
  obtain ⟨vA, vF, rfl, h⟩ := h
  exact ⟨vA, vF, rfl, h.keep hb⟩
theorem TrA.lt {w : World} {t : Nat} {vA vF : Value} {T : Tr} (h : TrA w t vA vF T) : ∀ b, foot t vA vF b → b < w.heap.size := by
  rintro b (rfl | hb | hb)
  · exact lt_of_block h.1
  · exact (h.2.1.lt b hb).2
  · exact (h.2.2.lt b hb).2
theorem TrS.lt {w : World} {t : Nat} {S : Nat → Prop} {T : Tr} (h : TrS w t S T) : ∀ b, S b → b < w.heap.size := by
  obtain ⟨vA, vF, rfl, h⟩ := h
  exact h.lt
theorem TrS.frm {w w' : World} {t : Nat} {S S' : Nat → Prop} {T : Tr} (h : TrS w t S T) (hf : Frm S' w w') (hn : ∀ b, S b → ¬ S' b) : TrS w' t S T := by
  obtain ⟨vA, vF, rfl, h⟩ := h
  exact ⟨vA, vF, rfl, h.frm hf hn⟩
theorem TrS.at {w : World} {t : Nat} {S : Nat → Prop} {T : Tr} (h : TrS w t S T) : S t := by
  obtain ⟨vA, vF, rfl, h⟩ := h
  exact .inl rfl

/-- The tree's own three cells. -/
theorem TrA.head {w : World} {t : Nat} {vA vF : Value} {T : Tr} (h : TrA w t vA vF T) :
    w.cell? ⟨t, 0, none⟩ = some vA ∧ w.cell? ⟨t, 1, none⟩ = some vF ∧ w.cell? ⟨t, 2, none⟩ = some (.int .i64 T.n) ∧ w.frozen? ⟨t, 0, none⟩ = false ∧ w.frozen? ⟨t, 1, none⟩ = false ∧ w.frozen? ⟨t, 2, none⟩ = false ∧ t < w.heap.size :=
  ⟨by rw [cell_row h.1]; rfl, by rw [cell_row h.1]; rfl, by rw [cell_row h.1]; rfl, frozen_of_row _ _ _ _ _ h.1, frozen_of_row _ _ _ _ _ h.1, frozen_of_row _ _ _ _ _ h.1, lt_of_block h.1⟩
/-- Its nodes. -/
theorem TrA.arena {w : World} {t : Nat} {vA vF : Value} {T : Tr} (h : TrA w t vA vF T) (h2 : 0 < T.ar.length) :
    ∃ A c, vA = .slice (some ⟨A, 0, none⟩) T.ar.length c ∧ T.ar.length ≤ c ∧ c ≤ maxLen ∧ A < w.heap.size ∧ A ≠ t ∧ (∀ i, (hi : i < T.ar.length) → w.cell? ⟨A, i * 4, none⟩ = some (.int .i64 T.ar[i].k0) ∧ w.cell? ⟨A, i * 4 + 1, none⟩ = some (.int .i64 T.ar[i].k1) ∧ w.cell? ⟨A, i * 4 + 2, none⟩ = some (.bool T.ar[i].th) ∧ w.cell? ⟨A, i * 4 + 3, none⟩ = some (.int .i64 T.ar[i].v)) ∧ ∀ o, w.frozen? ⟨A, o, none⟩ = false := by
  obtain ⟨h0, h1, _⟩ := h
  rcases h1.2 with ⟨_, hn⟩ | ⟨g, cap, cur, rfl, _, hg, hnc, hm, hs, ht⟩
  · omega
  · refine ⟨g, cap, rfl, hnc, hm, lt_of_block hg, ?_, fun i hi => ?_, fun o => frozen_of_row _ _ _ _ _ hg⟩
    · rintro rfl
      rw [hg] at h0
      simp at h0
    · have hc : ∀ j, j < 4 → w.cell? ⟨g, i * 4 + j, none⟩ = (nd4 T.ar[i])[j]? := fun j hj => by
        rw [h1.cellAt (i * 4 + j) (by omega), ndv_at _ _ hi _ hj]
      exact ⟨by simpa [nd4] using hc 0 (by omega), by simpa [nd4] using hc 1 (by omega), by simpa [nd4] using hc 2 (by omega), by simpa [nd4] using hc 3 (by omega)⟩

theorem TrA.nodeAt {w : World} {t A n c : Nat} {vF : Value} {T : Tr} (h : TrA w t (.slice (some ⟨A, 0, none⟩) n c) vF T) (i : Nat) (hi : i < T.ar.length) :
    w.cell? ⟨A, i * 4, none⟩ = some (.int .i64 T.ar[i].k0) ∧ w.cell? ⟨A, i * 4 + 1, none⟩ = some (.int .i64 T.ar[i].k1) ∧ w.cell? ⟨A, i * 4 + 2, none⟩ = some (.bool T.ar[i].th) ∧ w.cell? ⟨A, i * 4 + 3, none⟩ = some (.int .i64 T.ar[i].v) ∧ (∀ o, w.frozen? ⟨A, o, none⟩ = false) ∧ A < w.heap.size ∧ A ≠ t := by
  obtain ⟨A', c', e, -, -, e1, e2, e3, e4⟩ := h.arena (by omega)
  simp only [Value.slice.injEq, Option.some.injEq, Addr.mk.injEq, and_true] at e
  obtain ⟨rfl, -⟩ := e
  obtain ⟨e5, e6, e7, e8⟩ := e3 i hi
  exact ⟨e5, e6, e7, e8, e4, e1, e2⟩
/-- What '==' gives of two pairs of kids, and of two nodes. -/
@[simp] theorem eq_kids (h l h' l' : Int) (w : World) :
    (Op.equalIn 10000 118 (.agg #[.int .i64 h, .int .i64 l]) (.agg #[.int .i64 h', .int .i64 l'])).run Tryz.prog w = .ok (h == h' && l == l') w := by
  have hs : (Tryz.prog.info? 3).isSome = true := by kernel_rfl
  obtain ⟨i, hi⟩ := Option.isSome_iff_exists.1 hs
  rw [show (10000 : Nat) = 9999 + 1 from rfl, run_equalIn_array w 9999 _ _ Tryz.underlying118 hi]
  simp [Op.eqItems, List.range_succ, show Tryz.prog.cellsOf 3 = 1 from by kernel_rfl, go_sem]
  by_cases h1 : h = h' <;> by_cases h2 : l = l' <;> simp [h1, h2]
theorem eq_kids9 (h l h' l' : Int) (w : World) :
    (Op.equalIn 9999 118 (.agg #[.int .i64 h, .int .i64 l]) (.agg #[.int .i64 h', .int .i64 l'])).run Tryz.prog w = .ok (h == h' && l == l') w := by
  have hs : (Tryz.prog.info? 3).isSome = true := by kernel_rfl
  obtain ⟨i, hi⟩ := Option.isSome_iff_exists.1 hs
  rw [show (9999 : Nat) = 9998 + 1 from rfl, run_equalIn_array w 9998 _ _ Tryz.underlying118 hi]
  simp [Op.eqItems, List.range_succ, show Tryz.prog.cellsOf 3 = 1 from by kernel_rfl, go_sem]
  by_cases h1 : h = h' <;> by_cases h2 : l = l' <;> simp [h1, h2]
def ndB (h l : Int) (v : Bool) (n : Int) (h' l' : Int) (v' : Bool) (n' : Int) : Bool := (h == h' && l == l') && (v == v' && n == n')
@[simp] theorem eq_nd (h l h' l' n n' : Int) (v v' : Bool) (w : World) :
    (Op.equalIn 10000 120 (.agg #[.int .i64 h, .int .i64 l, .bool v, .int .i64 n]) (.agg #[.int .i64 h', .int .i64 l', .bool v', .int .i64 n'])).run Tryz.prog w = .ok (ndB h l v n h' l' v' n') w := by
  rw [show (10000 : Nat) = 9999 + 1 from rfl, run_equalIn_struct w 9999 _ _ _ (by kernel_rfl) Tryz.stoodInHeld120]
  simp [go_sem, ndB, eq_kids9]
  by_cases h1 : h = h' <;> by_cases h2 : l = l' <;> by_cases h3 : v = v' <;> by_cases h4 : n = n' <;> simp [h1, h2, h3, h4]

def rootN (v : Bool) : Nat := if v then 1 else 0
def kid (x : Nd) (d : Int) : Nat := if d = 1 then x.k1 else x.k0
/-- The node of an address's first digits. -/
def nodeAt (ar : List Nd) (a : Ad) : Nat → Option Nat
  | 0 => some (rootN a.v6)
  | k + 1 => (nodeAt ar a k).bind fun i => if kid (ar.getD i nd0) (bitv a k) = 0 then none else some (kid (ar.getD i nd0) (bitv a k))
/-- Kids are nodes. -/
def Wf (T : Tr) : Prop := 2 ≤ T.ar.length ∧ T.ar.length ≤ 1000000000 ∧ (∀ x ∈ T.ar, x.k0 < T.ar.length ∧ x.k1 < T.ar.length) ∧ (∀ i ∈ T.fr, i < T.ar.length) ∧ T.fr.length ≤ 1000000000
theorem nodeAt_lt {T : Tr} (h : Wf T) (a : Ad) (k : Nat) : ∀ i, nodeAt T.ar a k = some i → i < T.ar.length := by
  cases k with
  | zero =>
    intro i hi
    have := h.1
    simp only [nodeAt, Option.some.injEq] at hi
    subst hi
    unfold rootN
    split <;> omega
  | succ k =>
    intro i hi
    simp only [nodeAt] at hi
    cases hk : nodeAt T.ar a k with
    | none => rw [hk] at hi; cases hi
    | some j =>
      rw [hk] at hi
      simp only [Option.bind_some] at hi
      split at hi
      · cases hi
      · simp only [Option.some.injEq] at hi
        subst hi
        by_cases hj : j < T.ar.length
        · have := h.2.2.1 _ (List.getElem_mem hj)
          unfold kid
          simp only [List.getD_eq_getElem?_getD, List.getElem?_eq_getElem hj, Option.getD_some]
          split <;> omega
        · have := h.1
          unfold kid
          simp only [List.getD_eq_getElem?_getD, List.getElem?_eq_none (Nat.le_of_not_lt hj), Option.getD_none, nd0]
          split <;> omega

end Go.Proofs.YtcbfppangiopeaaGreat
