/-
  Boxes of six cells: plain facts of worlds. No condition.
-/
import Derived.Test.YtggceecolfebjaaY2
import Derived.Test.YtggceecolfebjaaFr
import Derived.OneCell
import Derived.Test.YtggceecolfebjaaY1
import Derived.Laws.BitsLemmas
import Derived.Deep.Slices
import Derived.Test.YtggceecolfebjaaPh
import Derived.Laws.CopyOwn
import Derived.Lib.SliceRun
import Derived.Test.YtggceecolfebjaaReg
namespace Go.Proofs.Ytggceecolfebjaa
open Go.RowKit Go.Maps
set_option maxRecDepth 100000

/-- A block, and where it goes. -/
structure Pc where
  p : Pf
  h : Int
  r : Bool
deriving DecidableEq
/-- A block's blocks; k digits are left. -/
def blkN (L : List Pr) : Nat → Pf → List Pf
  | 0, p => [p]
  | k + 1, p => if insL L p = true then blkN L k (pchild p 0).1 ++ blkN L k (pchild p 1).1 else [p]
def leftN (p : Pf) : Nat := (wid p.a.v6 - p.n).toNat
def blks (L : List Pr) (p : Pf) : List Pf := blkN L (leftN p) p
def allB (L : List Pr) (p : Pf) : List Pf := if psane p = true then blks L p else []
def pieceO (L : List Pr) (q : Pf) : Pc := ⟨q, ((govL L q).getD nilPr).v, (govL L q).isSome⟩

theorem ins_short {L : List Pr} {p : Pf} (hi : insL L p = true) : p.n < wid p.a.v6 := by
  obtain ⟨x, hx, hc⟩ := List.any_eq_true.1 hi
  unfold pins at hc
  rw [Bool.and_eq_true, decide_eq_true_iff] at hc
  obtain ⟨h1, h2, h3, h4, h5⟩ := (pcov_iff _ _).1 hc.1
  have hb := (psane_bd h2).2
  rw [h4]
  omega
theorem child_1 {p : Pf} (v : Int) (hp : psane p = true) (h : p.n < wid p.a.v6) : psane (pchild p v).1 = true ∧ leftN p = leftN (pchild p v).1 + 1 ∧ (pchild p v).2 = true := by
  rw [child_eq p v hp h]
  refine ⟨child_sane p v hp h, ?_, rfl⟩
  show (wid p.a.v6 - p.n).toNat = (wid (setv p.a p.n v).v6 - (p.n + 1)).toNat + 1
  rw [set_v6]
  omega
theorem blks_yes {L : List Pr} {p : Pf} (hp : psane p = true) (hi : insL L p = true) : blks L p = blks L (pchild p 0).1 ++ blks L (pchild p 1).1 := by
  have h := ins_short hi
  have h0 := (child_1 0 hp h).2.1
  have h1 := (child_1 1 hp h).2.1
  unfold blks
  rw [← show leftN (pchild p 0).1 = leftN (pchild p 1).1 from by omega, h0]
  show (if insL L p = true then _ else _) = _
  rw [if_pos hi]
theorem blks_no {L : List Pr} {p : Pf} (hi : insL L p = false) : blks L p = [p] := by
  unfold blks
  cases leftN p with
  | zero => rfl
  | succ k =>
    show (if insL L p = true then _ else _) = _
    rw [if_neg (by rw [hi]; decide)]
theorem blk_ind {L : List Pr} {Q : Pf → Prop} (h1 : ∀ p, psane p = true → insL L p = false → Q p) (h2 : ∀ p, psane p = true → insL L p = true → p.n < wid p.a.v6 → psane (pchild p 0).1 = true → psane (pchild p 1).1 = true → Q (pchild p 0).1 → Q (pchild p 1).1 → Q p) : ∀ p, psane p = true → Q p := by
  have : ∀ (k : Nat) p, leftN p = k → psane p = true → Q p := by
    intro k
    induction k using Nat.strongRecOn with
    | ind k ih =>
      intro p hk hp
      cases hi : insL L p
      · exact h1 p hp hi
      · have h := ins_short hi
        obtain ⟨a1, a2, -⟩ := child_1 0 hp h
        obtain ⟨b1, b2, -⟩ := child_1 1 hp h
        exact h2 p hp hi h a1 b1 (ih (leftN (pchild p 0).1) (by omega) _ rfl a1) (ih (leftN (pchild p 1).1) (by omega) _ rfl b1)
  exact fun p hp => this _ p rfl hp
theorem kin_cov {p : Pf} (v : Int) (hp : psane p = true) (h : p.n < wid p.a.v6) : pcov p (pchild p v).1 = true := by
  rw [child_eq p v hp h]
  refine (pcov_iff _ _).2 ⟨hp, child_sane p v hp h, by show p.n ≤ p.n + 1; omega, by show p.a.v6 = (setv p.a p.n v).v6; rw [set_v6], fun j hj => ?_⟩
  show D (setv p.a p.n v) j = _
  rw [child_D p v hp h j, if_neg (by omega)]
theorem blk_all (L : List Pr) : ∀ p, psane p = true → ∀ q ∈ blks L p, psane q = true ∧ pcov p q = true ∧ insL L q = false := by
  refine blk_ind (L := L) (fun p hp hi q hq => ?_) (fun p hp hi h s0 s1 a b q hq => ?_)
  · rw [blks_no hi, List.mem_singleton] at hq
    subst hq
    exact ⟨hp, cov_refl q hp, hi⟩
  · rw [blks_yes hp hi, List.mem_append] at hq
    rcases hq with hq | hq
    · obtain ⟨x, y, z⟩ := a q hq
      exact ⟨x, cov_trans (kin_cov 0 hp h) y, z⟩
    · obtain ⟨x, y, z⟩ := b q hq
      exact ⟨x, cov_trans (kin_cov 1 hp h) y, z⟩
theorem blk_ne (L : List Pr) : ∀ p, psane p = true → blks L p ≠ [] := by
  refine blk_ind (L := L) (fun p hp hi => ?_) (fun p hp hi h s0 s1 a b => ?_)
  · rw [blks_no hi]
    simp
  · rw [blks_yes hp hi]
    simp [a]
theorem apart_con {x y : Pf} {a : Ad} (h : papa x y = true) (hx : pcon x a = true) (hy : pcon y a = true) : False := by
  obtain ⟨c1, c2, c3⟩ := (pcon_iff _ _).1 hx
  obtain ⟨d1, d2, d3⟩ := (pcon_iff _ _).1 hy
  rw [apa_eq c1 d1] at h
  rcases Int.le_total x.n y.n with e | e
  · have : pcov x y = true := (pcov_iff _ _).2 ⟨c1, d1, e, by rw [← c2, d2], fun j hj => by rw [← d3 j (by omega), c3 j hj]⟩
    rw [this] at h
    simp at h
  · have : pcov y x = true := (pcov_iff _ _).2 ⟨d1, c1, e, by rw [← d2, c2], fun j hj => by rw [← c3 j (by omega), d3 j hj]⟩
    rw [this] at h
    simp at h
theorem count_two {α : Type} (l : List α) (f g h : α → Bool) (h1 : ∀ x ∈ l, f x = true → h x = true) (h2 : ∀ x ∈ l, g x = true → h x = true) (h3 : ∀ x ∈ l, f x = true → g x = false) : l.countP f + l.countP g ≤ l.countP h := by
  induction l with
  | nil => simp
  | cons x l ih =>
    have ih := ih (fun y hy => h1 y (List.mem_cons_of_mem _ hy)) (fun y hy => h2 y (List.mem_cons_of_mem _ hy)) (fun y hy => h3 y (List.mem_cons_of_mem _ hy))
    have a := h1 x List.mem_cons_self
    have b := h2 x List.mem_cons_self
    have c := h3 x List.mem_cons_self
    simp only [List.countP_cons]
    cases hf : f x <;> cases hg : g x <;> cases hh : h x <;> simp_all <;> omega
theorem blk_len (L : List Pr) : ∀ p, psane p = true → (blks L p).length ≤ 1 + leftN p * L.countP (fun x => pins p x.p) := by
  refine blk_ind (L := L) (fun p hp hi => ?_) (fun p hp hi h s0 s1 a b => ?_)
  · rw [blks_no hi]
    simp
  · rw [blks_yes hp hi, List.length_append]
    have c0 := (child_1 0 hp h).2.1
    have c1 := (child_1 1 hp h).2.1
    have e1 : leftN (pchild p 1).1 = leftN (pchild p 0).1 := by omega
    rw [e1] at b
    rw [c0]
    generalize leftN (pchild p 0).1 = k at a b
    have hap := kin_apart p hp h
    have up : ∀ v, ∀ x ∈ L, pins (pchild p v).1 x.p = true → pins p x.p = true := fun v x _ hx => by
      unfold pins at hx ⊢
      rw [Bool.and_eq_true, decide_eq_true_iff] at hx ⊢
      have hc := kin_cov v hp h
      have := ((pcov_iff _ _).1 hc).2.2.1
      exact ⟨cov_trans hc hx.1, by omega⟩
    have hs := count_two L (fun x => pins (pchild p 0).1 x.p) (fun x => pins (pchild p 1).1 x.p) (fun x => pins p x.p) (up 0) (up 1) (fun x _ hx => bool_not fun hy => by
      simp only [pins, Bool.and_eq_true, decide_eq_true_iff] at hx hy
      have p0 := cov_con hx.1 (con_first x.p ((pcov_iff _ _).1 hx.1).2.1)
      have p1 := cov_con hy.1 (con_first x.p ((pcov_iff _ _).1 hy.1).2.1)
      exact apart_con hap p0 p1)
    have hc : 1 ≤ L.countP (fun x => pins p x.p) := by
      obtain ⟨x, hx, hc⟩ := List.any_eq_true.1 hi
      exact List.countP_pos_iff.2 ⟨x, hx, hc⟩
    have m1 : k * L.countP (fun x => pins (pchild p 0).1 x.p) + k * L.countP (fun x => pins (pchild p 1).1 x.p) ≤ k * L.countP (fun x => pins p x.p) := by
      rw [← Nat.mul_add]
      exact Nat.mul_le_mul_left _ hs
    rw [Nat.add_mul]
    omega
theorem blk_most {L : List Pr} {p : Pf} {n : Nat} (hp : psane p = true) (hn : L.length ≤ n) : (blks L p).length ≤ 1 + 128 * n := by
  have h1 := blk_len L p hp
  have h2 : L.countP (fun x => pins p x.p) ≤ L.length := List.countP_le_length
  have h3 : leftN p ≤ 128 := by
    have := wid_bd p.a.v6
    have := psane_bd hp
    unfold leftN
    omega
  have := Nat.mul_le_mul h3 (Nat.le_trans h2 hn)
  omega

/-- From one address to another one, each begins behind the one ahead. -/
def Chain (e : Ad) : Ad → List Pf → Prop
  | _, [] => False
  | at_, [q] => q.a = at_ ∧ fillv q.a q.n = e
  | at_, q :: r => q.a = at_ ∧ fillv q.a q.n ≠ e ∧ Chain e (nextv (fillv q.a q.n)).1 r
theorem chain_cons {e at_ : Ad} {q : Pf} {r : List Pf} (hr : r ≠ []) : Chain e at_ (q :: r) ↔ q.a = at_ ∧ fillv q.a q.n ≠ e ∧ Chain e (nextv (fillv q.a q.n)).1 r := by
  cases r with
  | nil => exact absurd rfl hr
  | cons x r => exact Iff.rfl
theorem chain_ne {e at_ : Ad} {l : List Pf} (h : Chain e at_ l) : l ≠ [] := by
  rintro rfl
  exact h
theorem chain_append {e m : Ad} {b : List Pf} (hb : Chain e (nextv m).1 b) : ∀ {at_ : Ad} {a : List Pf}, Chain m at_ a → (∀ q ∈ a, fillv q.a q.n ≠ e) → Chain e at_ (a ++ b) := by
  intro at_ a
  induction a generalizing at_ with
  | nil => exact fun h => h.elim
  | cons q r ih =>
    intro h hq
    rw [List.cons_append]
    by_cases hr : r = []
    · subst hr
      obtain ⟨h1, h2⟩ := h
      rw [List.nil_append, chain_cons (chain_ne hb), h2]
      exact ⟨h1, h2 ▸ hq q List.mem_cons_self, hb⟩
    · rw [chain_cons hr] at h
      rw [chain_cons (by simp [hr])]
      exact ⟨h.1, hq q List.mem_cons_self, ih h.2.2 (fun x hx => hq x (List.mem_cons_of_mem _ hx))⟩
theorem child0_a {p : Pf} (hp : psane p = true) (h : p.n < wid p.a.v6) : (pchild p 0).1.a = p.a := by
  rw [child_eq p 0 hp h]
  show setv p.a p.n 0 = p.a
  have hs := child_sane p 0 hp h
  have e : (⟨setv p.a p.n 0, p.n + 1⟩ : Pf) = ⟨p.a, p.n + 1⟩ := by
    obtain ⟨b0, b1⟩ := psane_bd hp
    obtain ⟨q1, q2, q3, q4⟩ := (psane_iff _).1 hp
    refine sane_ext hs ((psane_iff _).2 ⟨q1, by show 0 ≤ p.n + 1; omega, by show p.n + 1 ≤ wid p.a.v6; omega, fun j hj => q4 j (by have : (j : Int) + (p.n + 1) < 128 := hj; omega)⟩) rfl (set_v6 _ _ _) fun j hj => ?_
    show D (setv p.a p.n 0) j = D p.a j
    rw [child_D p 0 hp h j]
    split
    · rename_i hj'
      rw [odd_01.1]
      exact (q4 j (by omega)).symm
    · rfl
  exact congrArg Pf.a e
theorem blk_chain (L : List Pr) : ∀ p, psane p = true → Chain (fillv p.a p.n) p.a (blks L p) := by
  refine blk_ind (L := L) (fun p hp hi => ?_) (fun p hp hi h s0 s1 a b => ?_)
  · rw [blks_no hi]
    exact ⟨rfl, rfl⟩
  · rw [blks_yes hp hi, ← kin_last p hp h]
    rw [child0_a hp h] at a
    have hn := (kin_next p hp h).2
    rw [first_eq _ s1, child0_a hp h] at hn
    refine chain_append (m := fillv p.a (pchild p 0).1.n) (by rw [hn]; exact b) a (fun q hq he => ?_)
    obtain ⟨x, y, -⟩ := blk_all L _ s0 q hq
    have c0 := cov_con y (con_last q x)
    rw [he] at c0
    exact apart_con (kin_apart p hp h) c0 (con_last _ s1)
theorem blk_con (L : List Pr) (a : Ad) : ∀ p, psane p = true → pcon p a = (blks L p).any (fun q => pcon q a) := by
  refine blk_ind (L := L) (fun p hp hi => ?_) (fun p hp hi h s0 s1 x y => ?_)
  · rw [blks_no hi]
    simp
  · rw [blks_yes hp hi, List.any_append, ← x, ← y, kin_con p hp h]
theorem blk_leaf (L : List Pr) : ∀ p, psane p = true → ∀ q ∈ blks L p, q = p ∨ wideP L q.a 0 = q := by
  refine blk_ind (L := L) (fun p hp hi q hq => ?_) (fun p hp hi h s0 s1 a b q hq => ?_)
  · rw [blks_no hi, List.mem_singleton] at hq
    exact .inl hq
  · refine .inr ?_
    have key : ∀ v, (pchild p v).1 ∈ blks L (pchild p v).1 ∨ True → psane (pchild p v).1 = true → insL L (pchild p v).1 = false → wideP L (pchild p v).1.a 0 = (pchild p v).1 := fun v _ hs hn => by
      have hc := kin_cov v hp h
      have hpa := kin_parent p v hp h
      have hn1 : (pchild p v).1.n = p.n + 1 := by rw [child_eq p v hp h]
      generalize (pchild p v).1 = q at hs hn hc hpa hn1
      obtain ⟨b0, b1⟩ := psane_bd hs
      obtain ⟨c0, c1⟩ := psane_bd hp
      have e : wideM L q.a 0 = q.n := by
        have hcl : clamp q.a.v6 0 = 0 := clamp_id _ _ (Int.le_refl _) (by have := wid_bd q.a.v6; omega)
        refine wide_eq (by rw [hcl]; omega) b1 (by rw [(con_iff_pof q q.a).1 (con_first q hs)]; exact hn) (fun j h1 h2 => ?_)
        rw [hcl] at h1
        have hpp : pof q.a p.n = p := (con_iff_pof p q.a).1 (cov_con hc (con_first q hs))
        have hcv := cov_pofI (a := q.a) h1 (show j ≤ p.n by omega) (by omega)
        rw [hpp] at hcv
        exact ins_mono hcv hi
      unfold wideP
      rw [e]
      exact (con_iff_pof q q.a).1 (con_first q hs)
    rw [blks_yes hp hi, List.mem_append] at hq
    rcases hq with hq | hq
    · have hn := (blk_all L _ s0 q hq).2.2
      rcases a q hq with e | e
      · subst e
        exact key 0 (.inr trivial) s0 hn
      · exact e
    · have hn := (blk_all L _ s1 q hq).2.2
      rcases b q hq with e | e
      · subst e
        exact key 1 (.inr trivial) s1 hn
      · exact e
theorem leaf_over {L : List Pr} {p : Pf} (hp : psane p = true) (hi : insL L p = false) : pcov (wideP L p.a 0) p = true := by
  obtain ⟨s1, s2, s3, s4⟩ := wide_spec L p.a 0
  obtain ⟨b0, b1⟩ := psane_bd hp
  have hb := wide_bd L p.a 0
  have hpp := (con_iff_pof p p.a).1 (con_first p hp)
  have hcl : clamp p.a.v6 0 = 0 := clamp_id _ _ (Int.le_refl _) (by have := wid_bd p.a.v6; omega)
  have hle : wideM L p.a 0 ≤ p.n := by
    rcases Int.lt_or_le p.n (wideM L p.a 0) with e | e
    · have := s4 p.n (by rw [hcl]; omega) e
      rw [hpp, hi] at this
      cases this
    · exact e
  have := cov_pofI (a := p.a) hb.1 hle b1
  rw [hpp] at this
  exact this

end Go.Proofs.Ytggceecolfebjaa

namespace Go.Proofs.Ytggceecolfebjaa
open Go.RowKit
set_option maxRecDepth 100000

/-- How an element lies in cells. -/
structure Kd (α : Type) where
  enc : α → List Value
  k : Nat
  pos : 0 < k
  len : ∀ x, (enc x).length = k
  cell : ∀ x, ∀ u ∈ enc x, u.oneCell' = true
section
variable {α : Type} (K : Kd α)
def Kd.row (l : List α) : List Value := l.flatMap K.enc
theorem Kd.row_append (a b : List α) : K.row (a ++ b) = K.row a ++ K.row b := List.flatMap_append
theorem Kd.row_one (a : α) : K.row [a] = K.enc a := by simp [Kd.row]
theorem Kd.row_cons (a : α) (l : List α) : K.row (a :: l) = K.enc a ++ K.row l := rfl
theorem Kd.row_len (l : List α) : (K.row l).length = l.length * K.k := by
  induction l with
  | nil => simp [Kd.row]
  | cons r l ih => rw [K.row_cons, List.length_append, ih, K.len, List.length_cons, Nat.add_mul]; omega
theorem Kd.row_at (l : List α) (i : Nat) (h : i < l.length) (j : Nat) (hj : j < K.k) : (K.row l)[i * K.k + j]? = (K.enc l[i])[j]? := by
  induction l generalizing i with
  | nil => cases h
  | cons r l ih =>
    rw [K.row_cons]
    cases i with
    | zero => rw [List.getElem?_append_left (by rw [K.len]; omega)]; simp
    | succ i =>
      rw [List.getElem?_append_right (by rw [K.len, Nat.add_mul]; omega)]
      have e : (i + 1) * K.k + j - (K.enc r).length = i * K.k + j := by rw [K.len, Nat.add_mul]; omega
      rw [e, ih i (by simpa using h)]
      rfl
theorem Kd.row_cell (l : List α) : ∀ u ∈ K.row l, u.oneCell' = true := by
  intro u hu
  obtain ⟨x, _, hx⟩ := List.mem_flatMap.1 hu
  exact K.cell x u hx
/-- A type of these elements, and the one of their slices. -/
structure Kd.Ty (E SL : TypeId) : Prop where
  info : ∃ (i : TypeInfo) (z : Value), Try.prog.info? E = some i ∧ i.zero = some z ∧ i.size = K.k ∧ i.bytes ≤ 140000 ∧ z.cells.size = K.k
  sl : Try.prog.underlying SL = some (.slice E)
/-- Elements that lie in memory, as a slice says. -/
def Kd.Rd (w : World) (A : Option Addr) (l : List α) : Prop :=
  l ≠ [] → ∃ g off, A = some ⟨g, off, none⟩ ∧ g < w.heap.size ∧ ∀ i, (h : i < l.length) → ∀ j, j < K.k → w.cell? ⟨g, off + i * K.k + j, none⟩ = (K.enc l[i])[j]?
variable {K}
theorem Kd.Rd.keep {B : Nat} {w w' : World} {A : Option Addr} {l : List α} (h : K.Rd w A l) (hb : Below B w w') (hB : w.heap.size ≤ B) : K.Rd w' A l := fun hn => by
  obtain ⟨g, off, e, hg, hc⟩ := h hn
  refine ⟨g, off, e, Nat.lt_of_lt_of_le hg hb.size, fun i hi j hj => ?_⟩
  exact (hb.cell (p := ⟨g, off + i * K.k + j, none⟩) (Nat.lt_of_lt_of_le hg hB)).trans (hc i hi j hj)
theorem Kd.Rd.kept {w w' : World} {A : Option Addr} {l : List α} (h : K.Rd w A l) (hb : Below w.heap.size w w') : K.Rd w' A l := h.keep hb (Nat.le_refl _)
/-- It lies below a bound, and so stays. -/
theorem Kd.Rd.under {B : Nat} {w w' : World} {A : Option Addr} {l : List α} (h : K.Rd w A l) (hA : ∀ a, A = some a → a.block < B) (hb : Below B w w') : K.Rd w' A l := fun hn => by
  obtain ⟨g, off, e, hg, hc⟩ := h hn
  have hgB := hA _ e
  exact ⟨g, off, e, Nat.lt_of_lt_of_le hg hb.size, fun i hi j hj => (hb.cell (p := ⟨g, off + i * K.k + j, none⟩) hgB).trans (hc i hi j hj)⟩
theorem Kd.Rd.frm {S : Nat → Prop} {w w' : World} {A : Option Addr} {l : List α} (h : K.Rd w A l) (hf : Frm S w w') (hn : ∀ a, A = some a → ¬ S a.block) : K.Rd w' A l := fun hl => by
  obtain ⟨g, off, e, hg, hc⟩ := h hl
  exact ⟨g, off, e, Nat.lt_of_lt_of_le hg hf.size, fun i hi j hj => (hf.cell (p := ⟨g, off + i * K.k + j, none⟩) hg (hn ⟨g, off, none⟩ e)).trans (hc i hi j hj)⟩
theorem Kd.rd_nil (w : World) (A : Option Addr) : K.Rd w A [] := fun h => absurd rfl h
theorem Kd.rd_own {w : World} {base : Nat} {E : TypeId} {v : Value} {n : Nat} {l : List α} (h : w.ownsRow base E K.k v n (K.row l)) (hn : n = l.length) : ∃ A c, v = .slice A n c ∧ n ≤ c ∧ K.Rd w A l ∧ (∀ a, A = some a → base ≤ a.block ∧ a.block < w.heap.size ∧ a = ⟨a.block, 0, none⟩) := by
  subst hn
  have hw := h
  rcases h.2 with ⟨rfl, h0⟩ | ⟨g, cap, cur, rfl, hb, hg, hnc, _⟩
  · obtain rfl := List.eq_nil_of_length_eq_zero h0
    exact ⟨none, 0, rfl, Nat.le_refl _, Kd.rd_nil _ _, fun a e => by cases e⟩
  · have hlt := (hw.lt g rfl).2
    refine ⟨some ⟨g, 0, none⟩, cap, rfl, hnc, fun _ => ⟨g, 0, rfl, hlt, fun i hi j hj => ?_⟩, fun a e => by cases e; exact ⟨hb, hlt, rfl⟩⟩
    have hlt2 : i * K.k + j < l.length * K.k := Nat.lt_of_lt_of_le (by rw [show (i + 1) * K.k = i * K.k + K.k from by rw [Nat.add_mul]; omega]; omega : i * K.k + j < (i + 1) * K.k) (Nat.mul_le_mul_right _ (by omega))
    rw [Nat.zero_add, hw.cellAt (i * K.k + j) hlt2, K.row_at l i hi j hj]
theorem Kd.Rd.news {w : World} {ad : Addr} {l : List α} (h : K.Rd w (some ad) l) : ∀ j u, (K.row l)[j]? = some u → w.cell? (ad.add j) = some u := fun j u hu => by
  have hj : j < l.length * K.k := by
    have := (List.getElem?_eq_some_iff.1 hu).1
    rwa [K.row_len] at this
  have hl : l ≠ [] := by rintro rfl; simp at hj
  obtain ⟨g, off, e, hg, hc⟩ := h hl
  cases e
  have hi : j / K.k < l.length := (Nat.div_lt_iff_lt_mul K.pos).2 hj
  have e1 : j / K.k * K.k + j % K.k = j := Nat.div_add_mod' j K.k
  have := hc (j / K.k) hi (j % K.k) (Nat.mod_lt _ K.pos)
  rw [← K.row_at l (j / K.k) hi (j % K.k) (Nat.mod_lt _ K.pos), e1] at this
  have hadd : (⟨g, off, none⟩ : Addr).add j = ⟨g, off + (j / K.k) * K.k + j % K.k, none⟩ := by
    have hadd' : (⟨g, off, none⟩ : Addr).add j = ⟨g, off + j, none⟩ := by unfold Addr.add; split <;> simp_all
    rw [hadd', Nat.add_assoc, e1]
  rw [hadd, this]
  exact hu
theorem Kd.Rd.drop {w : World} {g off : Nat} {l : List α} (h : K.Rd w (some ⟨g, off, none⟩) l) (n : Nat) : K.Rd w (some ⟨g, off + n * K.k, none⟩) (l.drop n) := fun hl => by
  obtain ⟨g', off', e, hg, hc⟩ := h (by rintro rfl; simp at hl)
  cases e
  refine ⟨g, _, rfl, hg, fun i hi j hj => ?_⟩
  rw [List.length_drop] at hi
  have := hc (n + i) (by omega) j hj
  rw [List.getElem_drop, ← this]
  congr 2
  rw [Nat.add_mul]
  omega
theorem Kd.Rd.take {w : World} {A : Option Addr} {l : List α} (h : K.Rd w A l) (n : Nat) : K.Rd w A (l.take n) := fun hl => by
  obtain ⟨g', off', e, hg, hc⟩ := h (by rintro rfl; simp at hl)
  refine ⟨g', _, e, hg, fun i hi j hj => ?_⟩
  rw [List.length_take] at hi
  rw [List.getElem_take]
  exact hc i (by omega) j hj

/-- A row laid behind a row. -/
theorem Kd.append {E SL : TypeId} (F : K.Ty E SL) (W : World) (base : Nat) (v : Value) (n : Nat) (a b : List α) (ty : TypeId) (hn : n = a.length) (hown : W.ownsRow base E K.k v n (K.row a)) (A : Option Addr) (m c : Nat) (hm : m = b.length) (hA : A = none → m = 0 ∧ c = 0) (h2 : K.Rd W A b) (hb : n + m ≤ 1000000000) (hbase : base ≤ W.heap.size) :
    ∃ v' w', (Builtin.append_ #[SL, SL] ty #[v, .slice A m c]).run Try.prog W = .ok v' w' ∧ w'.ownsRow base E K.k v' (n + m) (K.row (a ++ b)) ∧ W.grownBy w' v.ownBlock ∧ (v'.ownBlock = v.ownBlock ∨ v'.ownBlock = some W.heap.size) := by
  subst hn
  subst hm
  obtain ⟨i0, z0, hi0, hz0, hz1, hz2, hz3⟩ := F.info
  cases A with
  | none =>
    obtain ⟨hn, rfl⟩ := hA rfl
    have e : b = [] := List.eq_nil_of_length_eq_zero hn
    subst e
    refine ⟨v, W, ?_, by simpa using hown, World.grownBy.refl W _, .inl rfl⟩
    rcases hown.2 with ⟨rfl, h0⟩ | ⟨g, cap, cur, rfl, _, _, hnc, _⟩
    · simp [Builtin.append_, run_underlying F.sl, sizeOf, typeInfo, hi0, Builtin.lenOf, Builtin.firstCells]
    · simp [Builtin.append_, run_underlying F.sl, sizeOf, typeInfo, hi0, Builtin.lenOf, Builtin.firstCells, hnc, storeCells]
  | some ad =>
    obtain ⟨v', w', e1, e2, e3, _, e5⟩ := run_append_own_at (P := Try.prog) W base SL ty E i0 z0 K.k i0.bytes F.sl hi0 hz0 hz1 rfl hz3 K.pos v a.length _ hown ad b.length c (K.row b) (K.row_len b) h2.news (K.row_cell b) (by simp only [maxLen]; omega) (Nat.le_trans (Nat.mul_le_mul hb hz2) (by decide)) hbase
    exact ⟨v', w', e1, by rw [K.row_append]; exact e2, e3, e5⟩
variable {ops : Array Oper} {o : Oper} {a : Act} {w : World} {Q : Exit → Act → World → Prop}
theorem val_of {w : World} {base : Nat} {e : TypeId} {size n : Nat} {v : Value} {xs : List Value} (h : w.ownsRow base e size v n xs) : ∃ A c, v = .slice A n c := by
  rcases h.2 with ⟨rfl, rfl⟩ | ⟨g, cap, cur, rfl, _⟩
  · exact ⟨_, _, rfl⟩
  · exact ⟨_, _, rfl⟩
/-- What append leaves: the row, and which blocks have turned. -/
def Kd.Grew (K : Kd α) (E : TypeId) (base : Nat) (v : Value) (n : Nat) (l : List α) (w : World) (v' : Value) (w' : World) : Prop :=
  w'.ownsRow base E K.k v' n (K.row l) ∧ w.grownBy w' v.ownBlock ∧ (v'.ownBlock = v.ownBlock ∨ v'.ownBlock = some w.heap.size) ∧ Below base w w'
theorem Kd.wpList_many {E SL : TypeId} (F : K.Ty E SL) {rest : List Oper} (hgd : o.guard = none) (s x : Operand) (ho : o.op = .call { callee := .builtin .append, args := #[s, x], argTypes := #[SL, SL] }) (base : Nat) (v : Value) (n : Nat) (l : List α) (hn : n = l.length) (hs : a.eval s = v) (hown : w.ownsRow base E K.k v n (K.row l))
    (A : Option Addr) (m c : Nat) (b : List α) (hm : m = b.length) (hA : A = none → m = 0 ∧ c = 0) (hx : a.eval x = .slice A m c) (h2 : K.Rd w A b) (hb : n + m ≤ 1000000000) (hbase : base ≤ w.heap.size)
    (h : ∀ A' c' w', K.Grew E base v (n + m) (l ++ b) w (.slice A' (n + m) c') w' → wpList Try.prog ops Q rest (a.put o.dst (.slice A' (n + m) c')) w') : wpList Try.prog ops Q (o :: rest) a w := by
  refine wpList_plain hgd fun _ hK => ?_
  obtain ⟨v', w', e1, e2, e3, e4⟩ := Kd.append F w base v n l b o.type hn hown A m c hm hA h2 hb hbase
  unfold Oper.wp execOp
  simp only [ho, resolve, invoke, builtin, Sem.run_bind, Sem.run_pure, Result.andThen_ok, List.map_toArray, List.map_cons, List.map_nil, hs, hx, e1]
  obtain ⟨A', c', rfl⟩ := val_of e2
  exact hK _ _ (h A' c' w' ⟨e2, e3, e4, (Below.refl base w).grown e3 hbase (own_ge hown)⟩)
theorem Kd.rd_block {w : World} {g : Nat} {E : TypeId} {r : α} (hg : w.heap[g]? = some (.cells (K.enc r).toArray E (0, 0))) : K.Rd w (some ⟨g, 0, none⟩) [r] := fun _ => by
  refine ⟨g, 0, rfl, lt_of_block hg, fun i hi j hj => ?_⟩
  have e0 : i = 0 := by simpa using hi
  subst e0
  have e : (0 + 0 * K.k + j) = j := by omega
  rw [e, cell_of_row w g j _ E (0, 0) hg]
  simp
theorem Kd.wpList_one {E SL : TypeId} (F : K.Ty E SL) {rest : List Oper} (hgd : o.guard = none) (s x : Operand) (ho : o.op = .call { callee := .builtin .append, args := #[s, x], argTypes := #[SL, SL] }) (base : Nat) (v : Value) (n : Nat) (l : List α) (hn : n = l.length) (hs : a.eval s = v)
    (hown : w.ownsRow base E K.k v n (K.row l)) (g : Nat) (r : α) (hx : a.eval x = .slice (some ⟨g, 0, none⟩) 1 1) (hg : w.heap[g]? = some (.cells (K.enc r).toArray E (0, 0))) (hb : n ≤ 100000000) (hbase : base ≤ w.heap.size)
    (h : ∀ A' c' w', K.Grew E base v (n + 1) (l ++ [r]) w (.slice A' (n + 1) c') w' → wpList Try.prog ops Q rest (a.put o.dst (.slice A' (n + 1) c')) w') : wpList Try.prog ops Q (o :: rest) a w :=
  Kd.wpList_many F hgd s x ho base v n l hn hs hown _ 1 1 [r] rfl (fun e => by cases e) hx (Kd.rd_block hg) (by omega) hbase h
/-- At a step of a region that draws its order. -/
theorem Kd.step_many {E SL : TypeId} (F : K.Ty E SL) {L : Act → World → Prop} {X : Prop} (hgd : o.guard = none) (s x : Operand) (ho : o.op = .call { callee := .builtin .append, args := #[s, x], argTypes := #[SL, SL] }) (base : Nat) (v : Value) (n : Nat) (l : List α) (hn : n = l.length) (hs : a.eval s = v) (hown : w.ownsRow base E K.k v n (K.row l))
    (A : Option Addr) (m c : Nat) (b : List α) (hm : m = b.length) (hA : A = none → m = 0 ∧ c = 0) (hx : a.eval x = .slice A m c) (h2 : K.Rd w A b) (hb : n + m ≤ 1000000000) (hbase : base ≤ w.heap.size)
    (h : ∀ A' c' w', K.Grew E base v (n + m) (l ++ b) w (.slice A' (n + m) c') w' → L (a.put o.dst (.slice A' (n + m) c')) w') : if Region.wanted o (yielded ops a.tmps) = true then Oper.wp Try.prog o a w L Q else X := by
  have hw : Region.wanted o (yielded ops a.tmps) = true := by simp [Region.wanted, hgd]
  rw [if_pos hw]
  obtain ⟨v', w', e1, e2, e3, e4⟩ := Kd.append F w base v n l b o.type hn hown A m c hm hA h2 hb hbase
  unfold Oper.wp execOp
  simp only [ho, resolve, invoke, builtin, Sem.run_bind, Sem.run_pure, Result.andThen_ok, List.map_toArray, List.map_cons, List.map_nil, hs, hx, e1]
  obtain ⟨A', c', rfl⟩ := val_of e2
  exact h A' c' w' ⟨e2, e3, e4, (Below.refl base w).grown e3 hbase (own_ge hown)⟩
theorem Kd.step_one {E SL : TypeId} (F : K.Ty E SL) {L : Act → World → Prop} {X : Prop} (hgd : o.guard = none) (s x : Operand) (ho : o.op = .call { callee := .builtin .append, args := #[s, x], argTypes := #[SL, SL] }) (base : Nat) (v : Value) (n : Nat) (l : List α) (hn : n = l.length) (hs : a.eval s = v)
    (hown : w.ownsRow base E K.k v n (K.row l)) (g : Nat) (r : α) (hx : a.eval x = .slice (some ⟨g, 0, none⟩) 1 1) (hg : w.heap[g]? = some (.cells (K.enc r).toArray E (0, 0))) (hb : n ≤ 100000000) (hbase : base ≤ w.heap.size)
    (h : ∀ A' c' w', K.Grew E base v (n + 1) (l ++ [r]) w (.slice A' (n + 1) c') w' → L (a.put o.dst (.slice A' (n + 1) c')) w') : if Region.wanted o (yielded ops a.tmps) = true then Oper.wp Try.prog o a w L Q else X :=
  Kd.step_many F hgd s x ho base v n l hn hs hown _ 1 1 [r] rfl (fun e => by cases e) hx (Kd.rd_block hg) (by omega) hbase h
/-- 'l = append(l, ..)' where l is a variable in a box. -/
theorem Kd.box_step {w V w7 : World} {lb base : Nat} {E T : TypeId} {v v' : Value} {n0 n : Nat} {l0 l : List α} (h1 : w.heap[lb]? = some (.cells #[v] T (0, 0))) (hlb : lb < base) (h2 : w.ownsRow base E K.k v n0 (K.row l0)) (hV : Below w.heap.size w V) (hG : K.Grew E base v n l V v' w7) :
    (w7.setCell ⟨lb, 0, none⟩ v').heap[lb]? = some (.cells #[v'] T (0, 0)) ∧ (w7.setCell ⟨lb, 0, none⟩ v').ownsRow base E K.k v' n (K.row l) ∧ Frm (fun x => x = lb ∨ v.ownBlock = some x) w (w7.setCell ⟨lb, 0, none⟩ v') ∧ Sub (fun x => x = lb ∨ v.ownBlock = some x) (fun x => x = lb ∨ v'.ownBlock = some x) w.heap.size := by
  obtain ⟨ho, hg, hat, -⟩ := hG
  have z1 := lt_of_block h1
  have zV := hV.size
  have hge := own_ge h2
  have hge7 := own_ge ho
  have hF : Frm (fun x => x = lb ∨ v.ownBlock = some x) w w7 := (frm_of_below hV).grown hg (fun k hk => .inl (.inr hk))
  have hq : w7.heap[lb]? = some (.cells #[v] T (0, 0)) := (hg.block _ (by omega) (fun e => by have := hge _ e.symm; omega)).trans ((hV.block _ z1).trans h1)
  refine ⟨one_setCell hq, ownsRow_setCell_other ho (fun e => by have := hge7 _ e; simp only at this; omega) _, hF.setCell (p := ⟨lb, 0, none⟩) (.inl (.inl rfl)) _, ?_⟩
  rintro x (rfl | hx)
  · exact .inl (.inl rfl)
  · rcases hat with e | e
    · exact .inl (.inr (by rw [← e]; exact hx))
    · rw [e] at hx
      simp only [Option.some.injEq] at hx
      exact .inr (by omega)
theorem Kd.ty_of {E SL : TypeId} {z : Value} {b : Nat} (h : (Try.prog.info? E).map (fun i => (i.zero, i.size, i.bytes)) = some (some z, K.k, b)) (hb : b ≤ 140000) (hz : z.cells.size = K.k) (sl : Try.prog.underlying SL = some (.slice E)) : K.Ty E SL := by
  obtain ⟨i, hi, e⟩ := Option.map_eq_some_iff.1 h
  simp only [Prod.mk.injEq] at e
  exact ⟨⟨i, z, hi, e.1, e.2.1, by omega, hz⟩, sl⟩
end

/-- A struct stored into a box of its own. -/
theorem wpList_row {ops : Array Oper} {rest : List Oper} {o : Oper} {a : Act} {w : World} {Q : Exit → Act → World → Prop} (hgd : o.guard = none) (ty : TypeId) (x y : Operand) (ho : o.op = .store ty x y)
    (g : Nat) (cells : Array Value) (hx : a.eval x = .pointer (some ⟨g, 0, none⟩)) (hy : a.eval y = .agg cells)
    (t : TypeId) (old : Array Value) (hg : w.heap[g]? = some (.cells old t (0, 0))) (k : Nat) (hi : (Try.prog.info? ty).map (·.size) = some k) (hk : cells.size = k)
    (hold : old.size = k) (h1 : cells.toList.all (·.oneCell') = true)
    (h : ∀ w', w'.heap[g]? = some (.cells cells t (0, 0)) → Frm (fun b => b = g) w w' → wpList Try.prog ops Q rest (a.put o.dst undef) w') : wpList Try.prog ops Q (o :: rest) a w :=
  wpList_store_row hgd ty x y ho g cells hx hy t old hg (by rw [hk]; exact hi) (by rw [hk]; exact hold) (by rw [← Array.all_toList]; exact h1) (h _ (setRow_heap w g old cells t _ hg) ⟨rfl, rfl, rfl, by simp [World.setRow], fun k _ hn => setRow_other w g k cells hn⟩)

/-- Where a part of a row lies. -/
def cutK (s : Nat) (A : Option Addr) (c k : Nat) : Option Addr := if c = k then A else A.map (·.add (k * s))
section
variable {α : Type} {K : Kd α}
theorem Kd.slice_lh {E SL : TypeId} (F : K.Ty E SL) (A : Option Addr) (n c : Nat) (l h : Int) (h0 : 0 ≤ l) (h1 : l ≤ h) (h2 : h ≤ c) (w : World) :
    (Instr.slice SL (.slice A n c) (some (.int .i64 l)) (some (.int .i64 h)) none).run Try.prog w = .ok (.slice (cutK K.k A c l.toNat) (h.toNat - l.toNat) (c - l.toNat)) w := by
  obtain ⟨i0, z0, hi0, hz0, hz1, hz2, hz3⟩ := F.info
  have e : Try.prog.elem SL = E := by simp [Program.elem, F.sl]
  rw [run_slice_lh w SL A n c (by rw [e]; exact F.sl) .i64 .i64 l h h0 h1 h2, e]
  simp [sizeOf, typeInfo, hi0, hz1, cutK, sliced]
theorem Kd.slice_to {E SL : TypeId} (F : K.Ty E SL) (A : Option Addr) (n c : Nat) (h : Int) (h0 : 0 ≤ h) (h2 : h ≤ c) (w : World) :
    (Instr.slice SL (.slice A n c) none (some (.int .i64 h)) none).run Try.prog w = .ok (.slice A h.toNat c) w := by
  obtain ⟨i0, z0, hi0, hz0, hz1, hz2, hz3⟩ := F.info
  have e : Try.prog.elem SL = E := by simp [Program.elem, F.sl]
  rw [run_slice_h w SL A n c (by rw [e]; exact F.sl) .i64 h h0 h2, e]
  have ez : A.map (fun x => x.add 0) = A := by
    cases A with
    | none => rfl
    | some x => obtain ⟨g, o, r⟩ := x; cases r <;> simp [Addr.add]
  simp [sizeOf, typeInfo, hi0, hz1, sliced, ez]
theorem Kd.slice_from {E SL : TypeId} (F : K.Ty E SL) (A : Option Addr) (n c : Nat) (l : Int) (h0 : 0 ≤ l) (h1 : l ≤ n) (w : World) :
    (Instr.slice SL (.slice A n c) (some (.int .i64 l)) none none).run Try.prog w = .ok (.slice (cutK K.k A c l.toNat) (n - l.toNat) (c - l.toNat)) w := by
  obtain ⟨i0, z0, hi0, hz0, hz1, hz2, hz3⟩ := F.info
  have e : Try.prog.elem SL = E := by simp [Program.elem, F.sl]
  rw [run_slice_l w SL A n c (by rw [e]; exact F.sl) .i64 l h0 h1, e]
  simp [sizeOf, typeInfo, hi0, hz1, cutK, sliced]
theorem Kd.Rd.cut {w : World} {A : Option Addr} {l : List α} (h : K.Rd w A l) (c k : Nat) (hc : l.length ≤ c) : K.Rd w (cutK K.k A c k) (l.drop k) := fun hl => by
  have hk : k < l.length := by
    rcases Nat.lt_or_ge k l.length with e | e
    · exact e
    · exact absurd (List.drop_eq_nil_of_le e) hl
  obtain ⟨g, off, rfl, -⟩ := h (by rintro rfl; cases hk)
  have e : cutK K.k (some ⟨g, off, none⟩) c k = some ⟨g, off + k * K.k, none⟩ := by
    unfold cutK
    rw [if_neg (by omega), Option.map_some]
    congr 1
    unfold Addr.add
    split <;> simp_all
  rw [e]
  exact h.drop k hl
end

end Go.Proofs.Ytggceecolfebjaa

namespace Go.Proofs.Ytggceecolfebjaa
open Go.RowKit Go.Maps
set_option maxRecDepth 100000

def pc6 (x : Pc) : List Value := [.int .u64 (u x.p.a.hi), .int .u64 (u x.p.a.lo), .bool x.p.a.v6, .int .i64 x.p.n, .int .i64 x.h, .bool x.r]
def pcK : Kd Pc := ⟨pc6, 6, by decide, fun _ => rfl, fun x u hu => by simp [pc6] at hu; rcases hu with rfl | rfl | rfl | rfl | rfl | rfl <;> rfl⟩
theorem ty_piece : pcK.Ty 49 37 := Kd.ty_of (z := .agg #[.int .u64 0, .int .u64 0, .bool false, .int .i64 0, .int .i64 0, .bool false]) (b := 48) (by kernel_rfl) (by decide) rfl Try.underlying37
theorem ty_rpiece : pcK.Ty 53 40 := Kd.ty_of (z := .agg #[.int .u64 0, .int .u64 0, .bool false, .int .i64 0, .int .i64 0, .bool false]) (b := 48) (by kernel_rfl) (by decide) rfl Try.underlying40

theorem size_piece : (Try.prog.info? 49).map (·.size) = some 6 := by kernel_rfl
theorem size_rpiece : (Try.prog.info? 53).map (·.size) = some 6 := by kernel_rfl
@[simp] theorem build_piece (h l n x : Int) (v y : Bool) (w : World) : (Instr.build 49 #[(0, .agg #[.int .u64 h, .int .u64 l, .bool v, .int .i64 n]), (1, .int .i64 x), (2, .bool y)]).run Try.prog w = .ok (.agg #[.int .u64 h, .int .u64 l, .bool v, .int .i64 n, .int .i64 x, .bool y]) w := run_build w _ _ _ (by kernel_rfl)
@[simp] theorem build_rpiece (h l n x : Int) (v y : Bool) (w : World) : (Instr.build 53 #[(0, .agg #[.int .u64 h, .int .u64 l, .bool v, .int .i64 n]), (1, .int .i64 x), (2, .bool y)]).run Try.prog w = .ok (.agg #[.int .u64 h, .int .u64 l, .bool v, .int .i64 n, .int .i64 x, .bool y]) w := run_build w _ _ _ (by kernel_rfl)
theorem RibS.frm {w w' : World} {r : Nat} {S R : Nat → Prop} {n h : Int} {L : List Pr} {most : Nat} (H : RibS w r S n h L most) (hf : Frm R w w') (hd : ∀ b, S b → ¬ R b) : RibS w' r S n h L most := by
  obtain ⟨t, m, S0, D, H, hI, rfl⟩ := H
  exact ⟨t, m, S0, D, { H with blk := (hf.block _ H.lt (hd r (.inl rfl))).trans H.blk, tree := H.tree.frm hf (fun b hb => hd b (.inr (.inr hb))), map := cnts_frm H.map hf (hd m (.inr (.inl rfl))) }, hI, rfl⟩

/-- What is shown, as long as more is wanted. -/
def walkS {σ : Type} (nx : σ → Pf → σ × Bool) (s : σ) : List Pf → σ × Bool
  | [] => (s, true)
  | q :: r => if (nx s q).2 = true then walkS nx (nx s q).1 r else nx s q
theorem walk_one {σ : Type} (nx : σ → Pf → σ × Bool) (s : σ) (q : Pf) : walkS nx s [q] = nx s q := by
  unfold walkS
  split
  · rename_i h
    show ((nx s q).1, true) = _
    rw [← h]
  · rfl
theorem walk_cons {σ : Type} (nx : σ → Pf → σ × Bool) (s : σ) (q : Pf) (r : List Pf) : walkS nx s (q :: r) = if (nx s q).2 = true then walkS nx (nx s q).1 r else nx s q := rfl
theorem walk_append {σ : Type} (nx : σ → Pf → σ × Bool) (s : σ) (a b : List Pf) : walkS nx s (a ++ b) = if (walkS nx s a).2 = true then walkS nx (walkS nx s a).1 b else walkS nx s a := by
  induction a generalizing s with
  | nil => simp [walkS]
  | cons q r ih =>
    rw [List.cons_append, walk_cons, walk_cons]
    by_cases h : (nx s q).2 = true
    · rw [if_pos h, if_pos h]
      exact ih _
    · rw [if_neg h, if_neg h, if_neg h]

theorem walk_go {σ : Type} {nx : σ → Pf → σ × Bool} {go : σ → Prop} (hn : ∀ s q, go s → (nx s q).2 = true → go (nx s q).1) : ∀ (bs : List Pf) (s : σ), go s → (walkS nx s bs).2 = true → go (walkS nx s bs).1 := by
  intro bs
  induction bs with
  | nil => exact fun s h _ => h
  | cons q r ih =>
    intro s h he
    rw [walk_cons] at he ⊢
    by_cases hq : (nx s q).2 = true
    · rw [if_pos hq] at he ⊢
      exact ih _ (hn s q h hq) he
    · rw [if_neg hq] at he
      exact absurd he hq
section
variable {w : World} {r : Nat} {S : Nat → Prop} {n h : Int} {L : List Pr} {most : Nat}
set_option maxHeartbeats 1000000 in
theorem piece_any (H : RibS w r S n h L most) (p : Pf) : Calls Try.prog 27 #[.pointer (some ⟨r, 0, none⟩), .agg #[.int .u64 (u p.a.hi), .int .u64 (u p.a.lo), .bool p.a.v6, .int .i64 p.n]] w fun e w' => e = .returned (.agg #[.int .u64 (u (pieceO L p).p.a.hi), .int .u64 (u (pieceO L p).p.a.lo), .bool (pieceO L p).p.a.v6, .int .i64 (pieceO L p).p.n, .int .i64 (pieceO L p).h, .bool (pieceO L p).r]) ∧ Below w.heap.size w w' := by
  have HH := Lib.hid H
  clear H
  have cb := fun W (H : RibS W r S n h L most) => rib_governs H p
  unfold OptPost at cb
  simp only [pieceO]
  obtain ⟨Y, hY⟩ : ∃ Y, (govL L p).getD nilPr = Y := ⟨_, rfl⟩
  obtain ⟨k, hk⟩ : ∃ k, (govL L p).isSome = k := ⟨_, rfl⟩
  rw [hY, hk] at cb ⊢
  have CB := Lib.hid cb
  clear cb hY hk
  go_enter Try.func27, Try.ntmps27
  go_wp2_with fail
  refine (CB.out _ (HH.out.keep (by go_grown))).mono ?_
  rintro e w1 ⟨rfl, hw1⟩
  have b1 : Below w.heap.size w w1 := below_of (by go_grown) hw1
  obtain ⟨pa, pb, pc, pg, pd, pe, pf, ph, pz⟩ := cells4 (b := w.heap.size) hw1 (by go_size) (by go_simp <;> rfl) (by go_simp <;> rfl) (by go_simp <;> rfl) (by go_simp <;> rfl) (by go_simp <;> rfl) (by go_simp <;> rfl) (by go_simp <;> rfl) (by go_simp <;> rfl)
  have hq1 : w1.heap[w.heap.size + 1]? = some (.cells #[.int .u64 0, .int .u64 0, .bool false, .int .i64 0, .int .i64 0, .bool false] 49 (0, 0)) := (hw1.block _ (by go_size)).trans (by repeat (first | (refine hp_new ?_; (simp; done)) | (refine hp_old ?_ ?_; · (first | (simp; done) | (simp; omega)))))
  have z1 := lt_of_block hq1
  have d1 : ¬ w.heap.size = w1.heap.size := by omega
  clear hw1
  go_wp2_with (refine wpList_row rfl _ _ _ rfl (w.heap.size + 1) _ rfl rfl 49 _ (hp_old z1 hq1) 6 size_piece rfl rfl rfl ?_; intro w9 h9 f9; have b9 : Below w.heap.size w w9 := (below_of (by go_grown) (Below.refl _ _)).trans (f9.below (fun b hb => by omega) (by go_size)); have q0 := cell_row (i := 0) h9; have q1 := cell_row (i := 1) h9; have q2 := cell_row (i := 2) h9; have q3 := cell_row (i := 3) h9; have q4 := cell_row (i := 4) h9; have q5 := cell_row (i := 5) h9; simp at q0 q1 q2 q3 q4 q5; clear f9)
  refine bodyPost_ret (v := .agg #[.int .u64 (u p.a.hi), .int .u64 (u p.a.lo), .bool p.a.v6, .int .i64 p.n, .int .i64 Y.v, .bool k]) (by simp [*, results, Try.results27, go_sem] <;> rfl) rfl ⟨rfl, ?_⟩
  exact b9
end

/-- What a function that is shown blocks keeps; S: its blocks. -/
structure Shows {σ : Type} (r : Nat) (SR : Nat → Prop) (n h : Int) (L : List Pr) (most : Nat) (nx : σ → Pf → σ × Bool) (go : σ → Prop) (f : FuncId) (cap : Array Value) (I : σ → (Nat → Prop) → World → Prop) : Prop where
  next : ∀ s q, go s → (nx s q).2 = true → go (nx s q).1
  see : ∀ s q S w, go s → I s S w → psane q = true → Calls Try.prog f (#[.agg #[.int .u64 (u q.a.hi), .int .u64 (u q.a.lo), .bool q.a.v6, .int .i64 q.n]] ++ cap) w fun e w' => e = .returned (.bool (nx s q).2) ∧ ∃ S', I (nx s q).1 S' w' ∧ Frm S w w' ∧ Sub S S' w.heap.size
  keep : ∀ s S w w', I s S w → Below w.heap.size w w' → I s S w'
  lt : ∀ s S w, I s S w → ∀ b, S b → b < w.heap.size
  rib : ∀ s S w, I s S w → RibS w r SR n h L most
def EachPost {σ : Type} (nx : σ → Pf → σ × Bool) (I : σ → (Nat → Prop) → World → Prop) (s : σ) (bs : List Pf) (S : Nat → Prop) (w : World) (e : Ending) (w' : World) : Prop :=
  e = .returned (.bool (walkS nx s bs).2) ∧ ∃ S', I (walkS nx s bs).1 S' w' ∧ Frm S w w' ∧ Sub S S' w.heap.size

set_option maxHeartbeats 4000000 in
theorem each_any {σ : Type} {r : Nat} {SR : Nat → Prop} {n h : Int} {L : List Pr} {most : Nat} {nx : σ → Pf → σ × Bool} {go : σ → Prop} {f : FuncId} {cap : Array Value} {I : σ → (Nat → Prop) → World → Prop} (hI : Shows r SR n h L most nx go f cap I) (hent : Enters Try.prog f) :
    ∀ p, psane p = true → ∀ s S w, go s → I s S w → Calls Try.prog 25 #[.pointer (some ⟨r, 0, none⟩), .agg #[.int .u64 (u p.a.hi), .int .u64 (u p.a.lo), .bool p.a.v6, .int .i64 p.n], .func (.func f) #[] cap] w (EachPost nx I s (blks L p) S w) := by
  have hE : ∀ args w, (callFunc f args).run Try.prog w = .ok (.enter f args) w := hent
  have HI := Lib.hid hI
  clear hI hent
  refine blk_ind (L := L) (fun p hp hi s S w hgo h0 => ?_) (fun p hp hi hn s0 s1 ih0 ih1 s S w hgo h0 => ?_)
  · have H0 := Lib.hid h0
    have HP := Lib.hid hp
    have hp1 : (!psane p) = false := by simp [hp]
    have ci := fun W (H : RibS W r SR n h L most) => rib_ins H p
    rw [hi] at ci
    have CI := Lib.hid ci
    have hbs : blks L p = [p] := blks_no hi
    unfold EachPost
    rw [hbs, walk_one]
    obtain ⟨b, hb⟩ : ∃ b, (nx s p).2 = b := ⟨_, rfl⟩
    have cs := fun W (h : I s S W) => HI.out.see s p S W hgo h HP.out
    rw [hb] at cs ⊢
    have CS := Lib.hid cs
    clear h0 hp hi ci hbs hb cs
    go_enter Try.func25, Try.ntmps25
    go_wp2_with fail
    refine (psane_any p _).mono ?_
    rintro e w1 ⟨rfl, hw1⟩
    have zw1 := hw1.size
    have bw1 := below_of (w := w) (by go_grown) hw1
    try simp at zw1
    obtain ⟨pa, pb, pc, pg, pd, pe, pf, ph, pz⟩ := cells4 (b := w.heap.size) hw1 (by go_size) (by go_simp <;> rfl) (by go_simp <;> rfl) (by go_simp <;> rfl) (by go_simp <;> rfl) (by go_simp <;> rfl) (by go_simp <;> rfl) (by go_simp <;> rfl) (by go_simp <;> rfl)
    clear hw1
    go_wp2_with fail
    refine (CI.out _ ((HI.out.rib _ _ _ H0.out).keep bw1)).mono ?_
    rintro e w2 ⟨rfl, hw2⟩
    have b2 : Below w.heap.size w w2 := bw1.trans (hw2.mono bw1.size)
    obtain ⟨pa2, pb2, pc2, pg2, -⟩ := cells4 hw2 pz pa pb pc pg pd pe pf ph
    clear hw2 pa pb pc pg pd pe pf ph bw1 pz
    go_wp2_with fail
    refine (CS.out _ (HI.out.keep _ _ _ _ H0.out b2)).mono ?_
    rintro e w3 ⟨rfl, S3, g1, g2, g3⟩
    have HG := Lib.hid (And.intro g1 (And.intro g2 g3))
    clear g1 g2 g3
    go_wp2
    go_ret
    exact ⟨rfl, S3, HG.out.1, (frm_of_below b2).trans HG.out.2.1 (Sub.refl _ _), fun x hx => (HG.out.2.2 x hx).imp id (fun h => Nat.le_trans b2.size h)⟩
  · have H0 := Lib.hid h0
    have HP := Lib.hid hp
    have hp1 : (!psane p) = false := by simp [hp]
    have ci := fun W (H : RibS W r SR n h L most) => rib_ins H p
    rw [hi] at ci
    have CI := Lib.hid ci
    have hbs : blks L p = blks L (pchild p 0).1 ++ blks L (pchild p 1).1 := blks_yes hp hi
    unfold EachPost at ih0 ih1 ⊢
    rw [hbs, walk_append]
    have c0 := pchild_any p 0
    have c1 := pchild_any p 1
    generalize pchild p 0 = x at ih0 c0 ⊢
    generalize pchild p 1 = y at ih1 c1 ⊢
    have ia := fun S w => ih0 s S w hgo
    have hgX := walk_go HI.out.next (blks L x.1) s hgo
    generalize walkS nx s (blks L x.1) = X at ia hgX ⊢
    have ib := fun S w hg => ih1 X.1 S w hg
    generalize walkS nx X.1 (blks L y.1) = Y at ib ⊢
    have IA := Lib.hid ia
    have IB := Lib.hid ib
    have C0 := Lib.hid c0
    have C1 := Lib.hid c1
    have hlt := HI.out.lt _ _ _ H0.out
    have HLT := Lib.hid hlt
    clear h0 hp hi ci hbs hlt ih0 ih1 ia ib c0 c1 s0 s1
    obtain ⟨x0, x1⟩ := x
    obtain ⟨y0, y1⟩ := y
    obtain ⟨X0, X1⟩ := X
    obtain ⟨Y0, Y1⟩ := Y
    simp only at IA IB C0 C1 hgX
    have HGX := Lib.hid hgX
    clear hgX
    go_enter Try.func25, Try.ntmps25
    go_wp2_with fail
    refine (psane_any p _).mono ?_
    rintro e w1 ⟨rfl, hw1⟩
    have zw1 := hw1.size
    have bw1 := below_of (w := w) (by go_grown) hw1
    try simp at zw1
    obtain ⟨pa, pb, pc, pg, pd, pe, pf, ph, pz⟩ := cells4 (b := w.heap.size) hw1 (by go_size) (by go_simp <;> rfl) (by go_simp <;> rfl) (by go_simp <;> rfl) (by go_simp <;> rfl) (by go_simp <;> rfl) (by go_simp <;> rfl) (by go_simp <;> rfl) (by go_simp <;> rfl)
    clear hw1
    go_wp2_with fail
    refine (CI.out _ ((HI.out.rib _ _ _ H0.out).keep bw1)).mono ?_
    rintro e w2 ⟨rfl, hw2⟩
    have b2 : Below w.heap.size w w2 := bw1.trans (hw2.mono bw1.size)
    have z2 := b2.size
    obtain ⟨pa2, pb2, pc2, pg2, pd2, pe2, pf2, ph2, pz2⟩ := cells4 hw2 pz pa pb pc pg pd pe pf ph
    clear hw2 pa pb pc pg pd pe pf ph bw1 pz
    go_wp2_with fail
    refine (C0.out _).mono ?_
    rintro e w3 ⟨rfl, hw3⟩
    have b3 : Below w.heap.size w w3 := b2.trans (hw3.mono b2.size)
    have z3 := hw3.size
    obtain ⟨pa3, pb3, pc3, pg3, -, -, -, -, pz3⟩ := cells4 hw3 pz2 pa2 pb2 pc2 pg2 pd2 pe2 pf2 ph2
    clear hw3 pa2 pb2 pc2 pg2 pd2 pe2 pf2 ph2 b2 pz2
    have n3 : ¬ w.heap.size = w3.heap.size := by omega
    go_wp2_with fail
    refine (C1.out _).mono ?_
    rintro e w4 ⟨rfl, hw4⟩
    have b4 : Below w.heap.size w w4 := below_of (by go_grown) hw4
    have z4 := hw4.size
    simp at z4
    have hx4 : PBox w4 w3.heap.size x0 := PBox.keep (by exact ⟨by go_simp <;> rfl, by go_simp <;> rfl, by go_simp <;> rfl, by go_simp <;> rfl, by go_simp <;> rfl, by go_simp <;> rfl, by go_simp <;> rfl, by go_simp <;> rfl, by go_size⟩) hw4
    have HX4 := Lib.hid hx4
    clear hw4 pa3 pb3 pc3 pg3 pz3 hx4
    obtain ⟨xa, xb, xc, xd, -, -, -, -, xz⟩ := id HX4.out
    have nx4 : ¬ w3.heap.size = w4.heap.size := by omega
    go_wp2_with fail
    generalize hV : World.alloc _ _ = w5
    have e5 : Below w4.heap.size w4 w5 := by subst hV; go_grown
    have b5 := b4.trans (e5.mono b4.size)
    have z5 : w4.heap.size < w5.heap.size := by subst hV; go_size
    have HX5 := Lib.hid (HX4.out.keep e5)
    have HY5 : Hid (PBox w5 w4.heap.size y0) := Lib.hid (by subst hV; exact ⟨by go_simp <;> rfl, by go_simp <;> rfl, by go_simp <;> rfl, by go_simp <;> rfl, by go_simp <;> rfl, by go_simp <;> rfl, by go_simp <;> rfl, by go_simp <;> rfl, by go_size⟩)
    clear hV e5 HX4 b4 xa xb xc xd xz nx4
    refine (IA.out _ _ (HI.out.keep _ _ _ _ H0.out b5)).mono ?_
    rintro e w6 ⟨rfl, S6, g1, g2, g3⟩
    have zg := g2.size
    have HG := Lib.hid (And.intro g1 (And.intro g2 g3))
    have HY6 := Lib.hid (HY5.out.frm g2 (fun e => by have := HLT.out _ e; omega))
    clear g1 g2 g3
    cases hX1 : X1
    · subst hX1
      go_wp2
      go_ret
      exact ⟨rfl, S6, HG.out.1, (frm_of_below b5).trans HG.out.2.1 (Sub.refl _ _), fun x hx => (HG.out.2.2 x hx).imp id (fun h => Nat.le_trans b5.size h)⟩
    · subst hX1
      obtain ⟨ya, yb, yc, yd, -⟩ := id HY6.out
      go_wp2_with fail
      refine (IB.out _ _ (HGX.out (by first | exact trivial | rfl)) HG.out.1).mono ?_
      rintro e w7 ⟨rfl, S7, k1, k2, k3⟩
      have HK := Lib.hid (And.intro k1 (And.intro k2 k3))
      clear k1 k2 k3 ya yb yc yd
      go_wp2
      go_ret
      refine ⟨rfl, S7, HK.out.1, ((frm_of_below b5).trans HG.out.2.1 (Sub.refl _ _)).trans HK.out.2.1 (fun x hx => (HG.out.2.2 x hx).imp id (fun h => Nat.le_trans b5.size h)), fun x hx => ?_⟩
      rcases HK.out.2.2 x hx with e | e
      · exact (HG.out.2.2 x e).imp id (fun h => Nat.le_trans b5.size h)
      · exact .inr (Nat.le_trans b5.size (Nat.le_trans zg e))
set_option maxHeartbeats 1000000 in
theorem each_no {p : Pf} (hp : psane p = false) (r : Nat) (f : Value) (w : World) : Calls Try.prog 25 #[.pointer (some ⟨r, 0, none⟩), .agg #[.int .u64 (u p.a.hi), .int .u64 (u p.a.lo), .bool p.a.v6, .int .i64 p.n], f] w fun e w' => e = .returned (.bool true) ∧ Below w.heap.size w w' := by
  have hp1 : (!psane p) = true := by simp [hp]
  clear hp
  go_enter Try.func25, Try.ntmps25
  go_wp2_with fail
  refine (psane_any p _).mono ?_
  rintro e w1 ⟨rfl, hw1⟩
  have zw1 := hw1.size
  have bw1 := below_of (w := w) (by go_grown) hw1
  try simp at zw1
  clear hw1
  go_wp2
  go_ret
  exact ⟨rfl, bw1⟩

end Go.Proofs.Ytggceecolfebjaa

namespace Go.Proofs.Ytggceecolfebjaa
open Go.RowKit Go.Maps
set_option maxRecDepth 100000

def pnx (L : List Pr) (m : Nat) (s : List Pc) (q : Pf) : List Pc × Bool := if s.length = m then (s, false) else (s ++ [pieceO L q], true)
theorem pnx_walk (L : List Pr) (m : Nat) : ∀ (bs : List Pf) (s : List Pc), s.length ≤ m → walkS (pnx L m) s bs = (s ++ (bs.map (pieceO L)).take (m - s.length), decide (bs.length ≤ m - s.length)) := by
  intro bs
  induction bs with
  | nil => intro s _; simp [walkS]
  | cons q r ih =>
    intro s hs
    rw [walk_cons]
    by_cases h : s.length = m
    · have e : pnx L m s q = (s, false) := by unfold pnx; rw [if_pos h]
      rw [e, if_neg (by simp), h]
      simp
    · have e : pnx L m s q = (s ++ [pieceO L q], true) := by unfold pnx; rw [if_neg h]
      rw [e, if_pos rfl, ih _ (by simp; omega)]
      obtain ⟨k, hk⟩ : ∃ k, m - s.length = k + 1 := ⟨m - s.length - 1, by omega⟩
      have hk' : m - (s ++ [pieceO L q]).length = k := by simp; omega
      rw [hk, hk']
      simp
/-- What Pieces' function keeps. -/
def PiecesI (w0 : World) (r : Nat) (SR : Nat → Prop) (n h : Int) (L : List Pr) (most m : Nat) (s : List Pc) (S : Nat → Prop) (w : World) : Prop :=
  ∃ v mv, (S = fun x => x = w0.heap.size + 1 + 1 + 1 ∨ v.ownBlock = some x) ∧ Below w0.heap.size w0 w ∧ RibS w r SR n h L most ∧ w.heap[w0.heap.size]? = some (.cells #[.pointer (some ⟨r, 0, none⟩)] 29 (0, 0)) ∧ w.heap[w0.heap.size + 1 + 1]? = some (.cells #[.int .i64 mv] 3 (0, 0)) ∧ w.heap[w0.heap.size + 1 + 1 + 1]? = some (.cells #[v] 37 (0, 0)) ∧ w.ownsRow (w0.heap.size + 1 + 1 + 1 + 1) 49 pcK.k v s.length (pcK.row s) ∧ s.length ≤ m ∧ mv = (m : Int)
theorem PiecesI.keep {w0 w w' : World} {r : Nat} {SR : Nat → Prop} {n h : Int} {L : List Pr} {most m : Nat} {s : List Pc} {S : Nat → Prop} (H : PiecesI w0 r SR n h L most m s S w) (hb : Below w.heap.size w w') : PiecesI w0 r SR n h L most m s S w' := by
  obtain ⟨v, mv, rfl, hB, hR, hr, hm, h1, h2, h3, h4⟩ := H
  exact ⟨v, mv, rfl, hB.trans (hb.mono (by have := lt_of_block h1; omega)), hR.keep hb, (hb.block _ (lt_of_block hr)).trans hr, (hb.block _ (lt_of_block hm)).trans hm, (hb.block _ (lt_of_block h1)).trans h1, own_block h2 (fun b _ hl => hb.block b hl), h3, h4⟩
theorem PiecesI.lt {w0 w : World} {r : Nat} {SR : Nat → Prop} {n h : Int} {L : List Pr} {most m : Nat} {s : List Pc} {S : Nat → Prop} (H : PiecesI w0 r SR n h L most m s S w) : ∀ b, S b → b < w.heap.size ∧ w0.heap.size + 1 + 1 + 1 ≤ b := by
  obtain ⟨v, mv, rfl, hB, hR, hr, hm, h1, h2, h3, h4⟩ := H
  rintro b (rfl | hb)
  · exact ⟨lt_of_block h1, Nat.le_refl _⟩
  · have := h2.lt b hb
    exact ⟨this.2, by omega⟩

set_option maxHeartbeats 8000000 in
theorem pieces1_any {w0 w : World} {r : Nat} {SR : Nat → Prop} {n h : Int} {L : List Pr} {most m : Nat} {s : List Pc} {S : Nat → Prop} (H : PiecesI w0 r SR n h L most m s S w) (hm9 : m ≤ 4096) (hSR : ∀ x, SR x → x < w0.heap.size) (q : Pf) :
    Calls Try.prog 26 #[.agg #[.int .u64 (u q.a.hi), .int .u64 (u q.a.lo), .bool q.a.v6, .int .i64 q.n], .pointer (some ⟨w0.heap.size + 1 + 1 + 1, 0, none⟩), .pointer (some ⟨w0.heap.size + 1 + 1, 0, none⟩), .pointer (some ⟨w0.heap.size, 0, none⟩)] w fun e w' => e = .returned (.bool (pnx L m s q).2) ∧ ∃ S', PiecesI w0 r SR n h L most m (pnx L m s q).1 S' w' ∧ Frm S w w' ∧ Sub S S' w.heap.size := by
  have HH := Lib.hid H
  obtain ⟨v, mv, hS, hB, hR, hr, hm, h1, h2, h3, h4⟩ := H
  obtain ⟨A, c, rfl, -⟩ := own_val h2
  have c1 := cell_of_one h1
  have f1 := free_of_one h1
  have cr := cell_of_one hr
  have cm := cell_of_one hm
  have z1 := lt_of_block h1
  have zr := lt_of_block hr
  have zm := lt_of_block hm
  generalize hb0 : w0.heap.size = b at *
  have n1 : ¬ b + 1 + 1 + 1 = w.heap.size := by omega
  have n2 : ¬ b + 1 + 1 = w.heap.size := by omega
  have n3 : ¬ b = w.heap.size := by omega
  by_cases hs : s.length = m
  · have e : pnx L m s q = (s, false) := by unfold pnx; rw [if_pos hs]
    rw [e]
    have t0 : ((s.length : Int) == mv) = true := by simp [h4, hs]
    clear h1 h2 hR hr hm hB e hS hs
    go_enter Try.func26, Try.ntmps26
    go_wp2
    go_ret
    have hb1 : Below w.heap.size w (w.alloc (.cells #[.int .u64 (u q.a.hi), .int .u64 (u q.a.lo), .bool q.a.v6, .int .i64 q.n] 27)) := by go_grown
    exact ⟨rfl, S, HH.out.keep hb1, frm_of_below hb1, Sub.refl _ _⟩
  · have e : pnx L m s q = (s ++ [pieceO L q], true) := by unfold pnx; rw [if_neg hs]
    rw [e]
    have t0 : ((s.length : Int) == mv) = false := by simp [h4]; omega
    have cp := fun W (H : RibS W r SR n h L most) => piece_any H q
    obtain ⟨y, hy⟩ : ∃ y, pieceO L q = y := ⟨_, rfl⟩
    rw [hy] at cp ⊢
    have CP := Lib.hid cp
    have hap : (Value.slice A s.length c).ownBlock ≠ some (b + 1 + 1 + 1) := fun e => by have := own_ge h2 _ e; omega
    have hs9 : s.length ≤ 4096 := by omega
    have hsm : s.length + 1 ≤ m := by omega
    have H1 := Lib.hid h1
    have H2 := Lib.hid h2
    have HR := Lib.hid hR
    have Hr := Lib.hid hr
    have Hm := Lib.hid hm
    clear h1 h2 hR hr hm e hs HH hy cp
    go_enter Try.func26, Try.ntmps26
    go_wp2_with fail
    have hb1 : Below w.heap.size w (w.alloc (.cells #[.int .u64 (u q.a.hi), .int .u64 (u q.a.lo), .bool q.a.v6, .int .i64 q.n] 27)) := by go_grown
    have H2' := Lib.hid (own_block H2.out (fun b _ hl => hb1.block b hl))
    have H1' := Lib.hid ((hb1.block _ z1).trans H1.out)
    have HR' := Lib.hid (HR.out.keep hb1)
    have Hr' := Lib.hid ((hb1.block _ zr).trans Hr.out)
    have Hm' := Lib.hid ((hb1.block _ zm).trans Hm.out)
    have hB' := hB.trans (hb1.mono (by omega))
    have d1 := (hb1.cell (p := ⟨b + 1 + 1 + 1, 0, none⟩) z1).trans c1
    have g1 := (hb1.frozen (p := ⟨b + 1 + 1 + 1, 0, none⟩) z1).trans f1
    have dr := (hb1.cell (p := ⟨b, 0, none⟩) zr).trans cr
    obtain ⟨pa, pb, pc, pd, -, -, -, -, pz⟩ : PBox (w.alloc (.cells #[.int .u64 (u q.a.hi), .int .u64 (u q.a.lo), .bool q.a.v6, .int .i64 q.n] 27)) w.heap.size q := by exact ⟨by go_simp <;> rfl, by go_simp <;> rfl, by go_simp <;> rfl, by go_simp <;> rfl, by go_simp <;> rfl, by go_simp <;> rfl, by go_simp <;> rfl, by go_simp <;> rfl, by go_size⟩
    have hzS := hb1.size
    have HF := Lib.hid (frm_of_below (S := fun x => x = b + 1 + 1 + 1 ∨ (Value.slice A s.length c).ownBlock = some x) hb1)
    have hz9 : (w.alloc (.cells #[.int .u64 (u q.a.hi), .int .u64 (u q.a.lo), .bool q.a.v6, .int .i64 q.n] 27)).heap.size = w.heap.size + 1 := by simp
    generalize World.alloc w _ = V at H2' H1' HR' Hr' Hm' hB' d1 g1 dr pa pb pc pd pz hzS HF hz9 ⊢
    have y1 : b + 1 + 1 + 1 < V.heap.size := by omega
    have y2 : ¬ b + 1 + 1 + 1 = V.heap.size := by omega
    clear hb1 c1 f1 cr cm H1 H2 HR Hr Hm hB n1 n2 n3 hz9 zr zm
    go_region_law (first | (refine Kd.step_one ty_piece rfl (.tmp 10) (.tmp 14) rfl (b + 1 + 1 + 1 + 1) _ _ s rfl (by rfl) (own_block H2'.out (fun b _ hl => Below.block (B := V.heap.size) (w := V) (by go_grown) b hl)) _ y (by rfl) (hp_new rfl) (by omega) (by simp; omega) ?_; intro A7 cc7 w7 hG7; have hV7 := b5.alloc z5 (.cells (pcK.enc y).toArray 49); have c7 := (grown_cell (p := ⟨b + 1 + 1 + 1, 0, none⟩) hV7 hG7.2.1 y1 hap).trans d1; have f7 := (grown_frozen (p := ⟨b + 1 + 1 + 1, 0, none⟩) hV7 hG7.2.1 y1 hap).trans g1; have N7 := Lib.hid (Kd.box_step H1'.out (by omega) H2'.out hV7 hG7); clear hG7 hV7) | (go_simp; go_at_call 27; refine (CP.out _ (HR'.out.keep (by go_grown))).mono ?_; rintro e w5 ⟨rfl, hw5⟩; have b5 : Below V.heap.size V w5 := Below.trans (by go_grown) (hw5.mono (by first | exact Nat.le_refl _ | (simp; done) | (simp; omega))); have z5 := b5.size; have y5 : b + 1 + 1 + 1 < w5.heap.size := (by omega); have y6 : ¬ b + 1 + 1 + 1 = w5.heap.size := (by omega); obtain ⟨k0, k1⟩ := bcell b5; clear hw5))
    all_goals
      go_wp2
      go_ret
      subst hb0
      obtain ⟨n1, n2, n3, n4⟩ := N7.out
      have hl : ∀ x, (x = w0.heap.size + 1 + 1 + 1 ∨ (Value.slice A s.length c).ownBlock = some x) → w0.heap.size + 1 + 1 + 1 ≤ x := fun x hx => by
        rcases hx with rfl | hx
        · exact Nat.le_refl _
        · have := own_ge H2'.out x hx
          omega
      subst hS
      refine ⟨rfl, _, ⟨.slice A7 (s.length + 1) cc7, mv, rfl, ?_, HR'.out.frm n3 (fun x hx e => ?_), (n3.block _ (by omega) (fun e => ?_)).trans ?_, (n3.block _ (by omega) (fun e => ?_)).trans ?_, ?_, ?_, ?_, h4⟩, HF.out.trans n3 (Sub.refl _ _), fun x hx => (n4 x hx).imp id (fun h => by omega)⟩
      · exact hB'.trans (n3.below (fun x hx => by have := hl x hx; omega) (by omega))
      · have := hl _ e
        have := hSR x hx
        omega
      · have := hl _ e
        omega
      · exact Hr'.out
      · have := hl _ e
        omega
      · exact Hm'.out
      · exact n1
      · rw [List.length_append]
        exact n2
      · simp
        omega

theorem pieces_shows {w0 : World} {r : Nat} {SR : Nat → Prop} {n h : Int} {L : List Pr} {most m : Nat} (hm9 : m ≤ 4096) (hSR : ∀ x, SR x → x < w0.heap.size) :
    Shows r SR n h L most (pnx L m) (fun _ => True) 26 #[.pointer (some ⟨w0.heap.size + 1 + 1 + 1, 0, none⟩), .pointer (some ⟨w0.heap.size + 1 + 1, 0, none⟩), .pointer (some ⟨w0.heap.size, 0, none⟩)] (PiecesI w0 r SR n h L most m) where
  next _ _ _ _ := trivial
  see s q S w _ H _ := pieces1_any H hm9 hSR q
  keep s S w w' H hb := H.keep hb
  lt s S w H b hb := (H.lt b hb).1
  rib s S w H := by
    obtain ⟨v, mv, -, -, hR, -⟩ := H
    exact hR
def clampM (most : Int) : Nat := (min (max most 0) 4096).toNat
def piecesL (L : List Pr) (p : Pf) : List Pc := (allB L p).map (pieceO L)
/-- What Pieces tells: pieces, and whether these are all. -/
def PiecesPost (w : World) (l : List Pc) (b : Bool) (e : Ending) (w' : World) : Prop := ∃ A c, e = .returned (.tuple #[.slice A l.length c, .bool b]) ∧ w'.ownsRow w.heap.size 49 pcK.k (.slice A l.length c) l.length (pcK.row l) ∧ Below w.heap.size w w'

set_option maxHeartbeats 4000000 in
theorem pieces_any {w : World} {r : Nat} {S : Nat → Prop} {n h : Int} {L : List Pr} {most : Nat} (H : RibS w r S n h L most) (p : Pf) (k : Int) :
    Calls Try.prog 8 #[.pointer (some ⟨r, 0, none⟩), .agg #[.int .u64 (u p.a.hi), .int .u64 (u p.a.lo), .bool p.a.v6, .int .i64 p.n], .int .i64 k] w (PiecesPost w ((piecesL L p).take (clampM k)) (decide ((allB L p).length ≤ clampM k))) := by
  have hlt := H.lt
  have HH := Lib.hid H
  have HLT := Lib.hid hlt
  have hm9 : clampM k ≤ 4096 := by unfold clampM; omega
  have hmk : min (max k 0) 4096 = (clampM k : Int) := by unfold clampM; omega
  generalize clampM k = m at hm9 hmk ⊢
  clear H hlt
  unfold piecesL allB
  cases hp : psane p
  · rw [if_neg (by simp)]
    have ce := each_no hp
    have CE := Lib.hid ce
    clear ce hp
    go_enter Try.func8, Try.ntmps8
    go_wp2_with fail
    all_goals
      refine (CE.out _ _ _).mono ?_
      rintro e w1 ⟨rfl, hw1⟩
      have b1 : Below w.heap.size w w1 := below_of (by go_grown) hw1
      have c1 : w1.cell? ⟨w.heap.size + 1 + 1 + 1, 0, none⟩ = some (.slice none 0 0) := (hw1.cell (by go_size)).trans (by go_simp <;> rfl)
      clear hw1
      go_wp2
      refine bodyPost_ret (v := .tuple #[.slice none 0 0, .bool true]) (by simp [*, results, Try.results8, go_sem] <;> rfl) rfl ⟨none, 0, ?_, ?_, b1⟩
      · simp
      · simp only [List.map_nil, List.take_nil, List.length_nil]
        exact World.ownsRow_nil _ _ _ _
  · rw [if_pos rfl]
    have ce := fun (W : World) S' (hI : PiecesI w r S n h L most m [] S' W) => each_any (pieces_shows (w0 := w) (n := n) (h := h) (L := L) (most := most) (m := m) hm9 HLT.out) (enters_of Try.func26 (by kernel_rfl) rfl) p hp [] S' W trivial hI
    unfold EachPost at ce
    have hw := pnx_walk L m (blks L p) [] (Nat.zero_le _)
    rw [hw] at ce
    simp only [List.nil_append, List.length_nil, Nat.sub_zero] at ce
    have CE := Lib.hid ce
    clear ce hp hw
    generalize ((blks L p).map (pieceO L)).take m = l at CE ⊢
    generalize decide ((blks L p).length ≤ m) = bb at CE ⊢
    go_enter Try.func8, Try.ntmps8
    go_wp2_with fail
    all_goals
      refine (CE.out _ (fun x => x = w.heap.size + 1 + 1 + 1 ∨ (Value.slice none 0 0).ownBlock = some x) ?_).mono ?_
      · first
        | exact ⟨.slice none 0 0, 0, rfl, by go_grown, HH.out.keep (by go_grown), by repeat (first | (refine hp_new ?_; (simp; done)) | (refine hp_old ?_ ?_; · (first | (simp; done) | (simp; omega)))), by repeat (first | (refine hp_new ?_; (simp; done)) | (refine hp_old ?_ ?_; · (first | (simp; done) | (simp; omega)))), by repeat (first | (refine hp_new ?_; (simp; done)) | (refine hp_old ?_ ?_; · (first | (simp; done) | (simp; omega)))), World.ownsRow_nil _ _ _ _, Nat.zero_le _, by omega⟩
        | exact ⟨.slice none 0 0, 4096, rfl, by go_grown, HH.out.keep (by go_grown), by repeat (first | (refine hp_new ?_; (simp; done)) | (refine hp_old ?_ ?_; · (first | (simp; done) | (simp; omega)))), by repeat (first | (refine hp_new ?_; (simp; done)) | (refine hp_old ?_ ?_; · (first | (simp; done) | (simp; omega)))), by repeat (first | (refine hp_new ?_; (simp; done)) | (refine hp_old ?_ ?_; · (first | (simp; done) | (simp; omega)))), World.ownsRow_nil _ _ _ _, Nat.zero_le _, by omega⟩
        | exact ⟨.slice none 0 0, k, rfl, by go_grown, HH.out.keep (by go_grown), by repeat (first | (refine hp_new ?_; (simp; done)) | (refine hp_old ?_ ?_; · (first | (simp; done) | (simp; omega)))), by repeat (first | (refine hp_new ?_; (simp; done)) | (refine hp_old ?_ ?_; · (first | (simp; done) | (simp; omega)))), by repeat (first | (refine hp_new ?_; (simp; done)) | (refine hp_old ?_ ?_; · (first | (simp; done) | (simp; omega)))), World.ownsRow_nil _ _ _ _, Nat.zero_le _, by omega⟩
      rintro e w1 ⟨rfl, S1, ⟨v, mv, -, hb1, -, -, -, h1, h2, -⟩, -, -⟩
      have c1 := cell_of_one h1
      have H2 := Lib.hid h2
      clear h1 h2
      obtain ⟨A1, cc, rfl, -⟩ := own_val H2.out
      go_wp2
      refine bodyPost_ret (v := .tuple #[.slice A1 l.length cc, .bool bb]) (by simp [*, results, Try.results8, go_sem] <;> rfl) rfl ⟨A1, cc, rfl, own_base H2.out (by omega), hb1⟩

/-- What Count's function keeps. -/
def cnx (s : Nat) (_ : Pf) : Nat × Bool := (s + 1, decide (s + 1 < 100000))
theorem cnx_walk : ∀ (bs : List Pf) (s : Nat), s + bs.length ≤ 99999 → walkS cnx s bs = (s + bs.length, true) := by
  intro bs
  induction bs with
  | nil => intro s _; simp [walkS]
  | cons q r ih =>
    intro s hs
    rw [List.length_cons] at hs
    have e : cnx s q = (s + 1, true) := by unfold cnx; rw [decide_eq_true (by omega)]
    rw [walk_cons, e, if_pos rfl, ih _ (by show s + 1 + r.length ≤ 99999; omega), List.length_cons]
    show (s + 1 + r.length, true) = _
    rw [show s + 1 + r.length = s + (r.length + 1) by omega]
def CountI (w0 : World) (r : Nat) (SR : Nat → Prop) (n h : Int) (L : List Pr) (most : Nat) (s : Nat) (S : Nat → Prop) (w : World) : Prop :=
  (S = fun x => x = w0.heap.size + 1) ∧ Below w0.heap.size w0 w ∧ RibS w r SR n h L most ∧ w.heap[w0.heap.size + 1]? = some (.cells #[.int .i64 (s : Int)] 3 (0, 0)) ∧ s ≤ 200000
theorem CountI.keep {w0 w w' : World} {r : Nat} {SR : Nat → Prop} {n h : Int} {L : List Pr} {most : Nat} {s : Nat} {S : Nat → Prop} (H : CountI w0 r SR n h L most s S w) (hb : Below w.heap.size w w') : CountI w0 r SR n h L most s S w' := by
  obtain ⟨rfl, hB, hR, h1, h3⟩ := H
  exact ⟨rfl, hB.trans (hb.mono (by have := lt_of_block h1; omega)), hR.keep hb, (hb.block _ (lt_of_block h1)).trans h1, h3⟩

set_option maxHeartbeats 2000000 in
theorem count1_any {w0 w : World} {r : Nat} {SR : Nat → Prop} {n h : Int} {L : List Pr} {most : Nat} {s : Nat} {S : Nat → Prop} (H : CountI w0 r SR n h L most s S w) (hs : s + 1 ≤ 200000) (hSR : ∀ x, SR x → x < w0.heap.size) (q : Pf) :
    Calls Try.prog 29 #[.agg #[.int .u64 (u q.a.hi), .int .u64 (u q.a.lo), .bool q.a.v6, .int .i64 q.n], .pointer (some ⟨w0.heap.size + 1, 0, none⟩)] w fun e w' => e = .returned (.bool (decide (s + 1 < 100000))) ∧ ∃ S', CountI w0 r SR n h L most (s + 1) S' w' ∧ Frm S w w' ∧ Sub S S' w.heap.size := by
  obtain ⟨rfl, hB, hR, h1, h3⟩ := H
  have c1 := cell_of_one h1
  have f1 := free_of_one h1
  have z1 := lt_of_block h1
  have n1 : ¬ w0.heap.size + 1 = w.heap.size := by omega
  have s1 : (s : Int) + 1 ≤ 200000 := by omega
  have hd : decide ((s : Int) + 1 < 100000) = decide (s + 1 < 100000) := by
    rw [Bool.eq_iff_iff, decide_eq_true_iff, decide_eq_true_iff]
    omega
  have H1 := Lib.hid h1
  have HR := Lib.hid hR
  have HD := Lib.hid hd
  clear h1 hR hd
  go_enter Try.func29, Try.ntmps29
  go_wp2
  go_ret
  have hb1 : Below w.heap.size w (w.alloc (.cells #[.int .u64 (u q.a.hi), .int .u64 (u q.a.lo), .bool q.a.v6, .int .i64 q.n] 27)) := by go_grown
  have hF0 : Frm (fun x => x = w0.heap.size + 1) w (w.setCell ⟨w0.heap.size + 1, 0, none⟩ (.int .i64 ((s : Int) + 1))) := (Frm.refl (fun x => x = w0.heap.size + 1) w).setCell (p := ⟨w0.heap.size + 1, 0, none⟩) (.inl rfl) _
  have hF : Frm (fun x => x = w0.heap.size + 1) w ((w.setCell ⟨w0.heap.size + 1, 0, none⟩ (.int .i64 ((s : Int) + 1))).alloc (.cells #[.int .u64 (u q.a.hi), .int .u64 (u q.a.lo), .bool q.a.v6, .int .i64 q.n] 27)) := hF0.then (by go_grown)
  have hq := one_setCell (u := .int .i64 ((s : Int) + 1)) H1.out
  refine ⟨ret_bool HD.out, _, ⟨rfl, hB.trans (hF.below (B := w0.heap.size) (fun b hb => by omega) (by omega)), HR.out.frm hF (fun b hb e => by have := hSR b hb; omega), hp_old (lt_of_block hq) hq, by omega⟩, hF, Sub.refl _ _⟩
theorem count_shows {w0 : World} {r : Nat} {SR : Nat → Prop} {n h : Int} {L : List Pr} {most : Nat} (hSR : ∀ x, SR x → x < w0.heap.size) :
    Shows r SR n h L most cnx (fun s => s < 100000) 29 #[.pointer (some ⟨w0.heap.size + 1, 0, none⟩)] (CountI w0 r SR n h L most) where
  next s q _ h := of_decide_eq_true h
  see s q S w hs H _ := count1_any H (by omega) hSR q
  keep s S w w' H hb := H.keep hb
  lt s S w H b hb := by
    obtain ⟨rfl, -, -, h1, -⟩ := H
    have : b = w0.heap.size + 1 := hb
    rw [this]
    exact lt_of_block h1
  rib s S w H := H.2.2.1

set_option maxHeartbeats 2000000 in
theorem count_any {w : World} {r : Nat} {S : Nat → Prop} {n h : Int} {L : List Pr} {most : Nat} (H : RibS w r S n h L most) (p : Pf) (hl : (allB L p).length ≤ 99999) :
    Calls Try.prog 12 #[.pointer (some ⟨r, 0, none⟩), .agg #[.int .u64 (u p.a.hi), .int .u64 (u p.a.lo), .bool p.a.v6, .int .i64 p.n]] w fun e w' => e = .returned (.int .i64 ((allB L p).length : Int)) ∧ Below w.heap.size w w' := by
  have hlt := H.lt
  have HH := Lib.hid H
  have HLT := Lib.hid hlt
  clear H hlt
  unfold allB at hl ⊢
  cases hp : psane p
  · rw [if_neg (by simp)]
    have ce := each_no hp
    have CE := Lib.hid ce
    clear ce hp hl
    go_enter Try.func12, Try.ntmps12
    go_wp2_with fail
    refine (CE.out _ _ _).mono ?_
    rintro e w1 ⟨rfl, hw1⟩
    have b1 : Below w.heap.size w w1 := below_of (by go_grown) hw1
    have c1 : w1.cell? ⟨w.heap.size + 1, 0, none⟩ = some (.int .i64 0) := (hw1.cell (by go_size)).trans (by go_simp <;> rfl)
    clear hw1
    go_wp2
    go_ret
    exact ⟨rfl, b1⟩
  · rw [hp, if_pos rfl] at hl
    rw [if_pos rfl]
    have ce := fun (W : World) S' (hI : CountI w r S n h L most 0 S' W) => each_any (count_shows (w0 := w) (n := n) (h := h) (L := L) (most := most) HLT.out) (enters_of Try.func29 (by kernel_rfl) rfl) p hp 0 S' W (by decide) hI
    unfold EachPost at ce
    have hw := cnx_walk (blks L p) 0 (by omega)
    rw [Nat.zero_add] at hw
    rw [hw] at ce
    have CE := Lib.hid ce
    clear ce hp hw
    generalize (blks L p).length = k at CE hl ⊢
    go_enter Try.func12, Try.ntmps12
    go_wp2_with fail
    refine (CE.out _ _ ⟨rfl, by go_grown, HH.out.keep (by go_grown), by repeat (first | (refine hp_new ?_; (simp; done)) | (refine hp_old ?_ ?_; · (first | (simp; done) | (simp; omega)))), by omega⟩).mono ?_
    rintro e w1 ⟨rfl, S1, ⟨-, hb1, -, h1, -⟩, -, -⟩
    have c1 := cell_of_one h1
    clear h1
    go_wp2
    go_ret
    exact ⟨rfl, hb1⟩

end Go.Proofs.Ytggceecolfebjaa

namespace Go.Proofs.Ytggceecolfebjaa
open Go.RowKit Go.Maps
set_option maxRecDepth 100000

theorem QBox.kept {w w' : World} {b : Nat} {x : Pr} (h : QBox w b x) (hb : Below w.heap.size w w') : QBox w' b x := by
  obtain ⟨h0, h1, h2, h3, h4, hz⟩ := h
  exact ⟨(hb.cell hz).trans h0, (hb.cell hz).trans h1, (hb.cell hz).trans h2, (hb.cell hz).trans h3, (hb.cell hz).trans h4, Nat.lt_of_lt_of_le hz hb.size⟩
theorem QBox.turn {S : Nat → Prop} {w w' : World} {b : Nat} {x : Pr} (h : QBox w b x) (hf : Frm S w w') (hn : ¬ S b) : QBox w' b x := by
  obtain ⟨h0, h1, h2, h3, h4, hz⟩ := h
  exact ⟨(hf.cell hz hn).trans h0, (hf.cell hz hn).trans h1, (hf.cell hz hn).trans h2, (hf.cell hz hn).trans h3, (hf.cell hz hn).trans h4, Nat.lt_of_lt_of_le hz hf.size⟩
def exD (j : Nat) : Int := if j = 0 then 10 else if j = 3 then 1 else 0
def adD : Ad := ⟨720575944674246656#64, 0#64, false⟩
theorem exD_from : fromv exD false = adD := by decide +kernel
theorem exF : leafO (fillK [⟨nilP, 3⟩, ⟨pof adB' 16, 4⟩] 2).1 adD = some ⟨pof adD 16, 3⟩ := by decide +kernel
theorem exG : goodL (fillK [⟨nilP, 3⟩, ⟨pof adB' 16, 4⟩] 2).1 ⟨pof adD 16, 3⟩ = true ∧ (pof adD 16).n = 16 := by decide +kernel

end Go.Proofs.Ytggceecolfebjaa

namespace Go.Proofs.Ytggceecolfebjaa
open Go.RowKit Go.Maps
set_option maxRecDepth 100000

/-- Pieces lie in a block. -/
def PcR (w : World) (g : Nat) (l : List Pc) : Prop := g < w.heap.size ∧ ∀ i, (h : i < l.length) → w.cell? ⟨g, i * 6, none⟩ = some (.int .u64 (u l[i].p.a.hi)) ∧ w.cell? ⟨g, i * 6 + 1, none⟩ = some (.int .u64 (u l[i].p.a.lo)) ∧ w.cell? ⟨g, i * 6 + 2, none⟩ = some (.bool l[i].p.a.v6) ∧ w.cell? ⟨g, i * 6 + 3, none⟩ = some (.int .i64 l[i].p.n) ∧ w.cell? ⟨g, i * 6 + 4, none⟩ = some (.int .i64 l[i].h) ∧ w.cell? ⟨g, i * 6 + 5, none⟩ = some (.bool l[i].r)
theorem PcR.keep {w w' : World} {g : Nat} {l : List Pc} (h : PcR w g l) (hb : Below w.heap.size w w') : PcR w' g l := by
  refine ⟨Nat.lt_of_lt_of_le h.1 hb.size, fun i hi => ?_⟩
  obtain ⟨c0, c1, c2, c3, c4, c5⟩ := h.2 i hi
  exact ⟨(hb.cell (p := ⟨g, i * 6, none⟩) h.1).trans c0, (hb.cell (p := ⟨g, i * 6 + 1, none⟩) h.1).trans c1, (hb.cell (p := ⟨g, i * 6 + 2, none⟩) h.1).trans c2, (hb.cell (p := ⟨g, i * 6 + 3, none⟩) h.1).trans c3, (hb.cell (p := ⟨g, i * 6 + 4, none⟩) h.1).trans c4, (hb.cell (p := ⟨g, i * 6 + 5, none⟩) h.1).trans c5⟩
theorem PcR.of {w : World} {base : Nat} {E : TypeId} {g c n : Nat} {l : List Pc} (h : w.ownsRow base E pcK.k (.slice (some ⟨g, 0, none⟩) n c) n (pcK.row l)) (hn : n = l.length) : PcR w g l := by
  subst hn
  have key : ∀ i, (hi : i < l.length) → ∀ j, j < 6 → w.cell? ⟨g, i * 6 + j, none⟩ = (pc6 l[i])[j]? := fun i hi j hj => by
    have e : pcK.k = 6 := rfl
    have := h.cellAt (i * 6 + j) (by rw [e]; omega)
    rw [this]
    have := pcK.row_at l i hi j hj
    rw [e] at this
    exact this
  exact ⟨(h.lt g rfl).2, fun i hi => ⟨key i hi 0 (by decide), key i hi 1 (by decide), key i hi 2 (by decide), key i hi 3 (by decide), key i hi 4 (by decide), key i hi 5 (by decide)⟩⟩
theorem PcR.take {w : World} {g : Nat} {l : List Pc} (h : PcR w g l) (k : Nat) : PcR w g (l.take k) := ⟨h.1, fun i hi => by
  rw [List.length_take] at hi
  have := h.2 i (by omega)
  rw [List.getElem_take]
  exact this⟩
/-- What Pieces tells, as it is used: nothing, or a row. -/
theorem PiecesPost.row {w : World} {l : List Pc} {b : Bool} {e : Ending} {w' : World} (h : PiecesPost w l b e w') : ∃ A c, e = .returned (.tuple #[.slice A l.length c, .bool b]) ∧ l.length ≤ c ∧ (A = none → l = [] ∧ c = 0) ∧ (∀ a, A = some a → a = ⟨a.block, 0, none⟩ ∧ PcR w' a.block l) ∧ Below w.heap.size w w' := by
  obtain ⟨A, c, rfl, ho, hb⟩ := h
  have ho' := ho
  rcases ho.2 with ⟨h1, h2⟩ | ⟨g, cap, cur, h1, hg, hh, hnc, hcm⟩
  · simp only [Value.slice.injEq] at h1
    obtain ⟨rfl, -, rfl⟩ := h1
    exact ⟨none, 0, rfl, by omega, fun _ => ⟨List.eq_nil_of_length_eq_zero h2, rfl⟩, (fun a e => by cases e), hb⟩
  · simp only [Value.slice.injEq, true_and] at h1
    obtain ⟨rfl, rfl⟩ := h1
    exact ⟨some ⟨g, 0, none⟩, c, rfl, hnc, (fun e => by cases e), (fun a e => by cases e; exact ⟨rfl, PcR.of ho' rfl⟩), hb⟩
def pcB (h l : Int) (v : Bool) (n o : Int) (q : Bool) (h' l' : Int) (v' : Bool) (n' o' : Int) (q' : Bool) : Bool := pfB h l v n h' l' v' n' && o == o' && q == q'
@[simp] theorem pcB_self (h l : Int) (v : Bool) (n o : Int) (q : Bool) : pcB h l v n o q h l v n o q = true := by simp [pcB]
@[simp] theorem eq_pc (h l h' l' : Int) (v v' : Bool) (n n' o o' : Int) (q q' : Bool) (w : World) :
    (Op.equalIn 10000 49 (.agg #[.int .u64 h, .int .u64 l, .bool v, .int .i64 n, .int .i64 o, .bool q]) (.agg #[.int .u64 h', .int .u64 l', .bool v', .int .i64 n', .int .i64 o', .bool q'])).run Try.prog w = .ok (pcB h l v n o q h' l' v' n' o' q') w := by
  rw [show (10000 : Nat) = 9999 + 1 from rfl, run_equalIn_struct w 9999 _ _ _ (by kernel_rfl) Try.stoodInHeld49]
  simp [go_sem, pcB, pfB, adB]
  by_cases h1 : h = h' <;> by_cases h2 : l = l' <;> by_cases h3 : v = v' <;> by_cases h4 : n = n' <;> by_cases h5 : o = o' <;> by_cases h6 : q = q' <;> simp [h1, h2, h3, h4, h5, h6]
@[simp] theorem eq_rpc (h l h' l' : Int) (v v' : Bool) (n n' o o' : Int) (q q' : Bool) (w : World) :
    (Op.equalIn 10000 53 (.agg #[.int .u64 h, .int .u64 l, .bool v, .int .i64 n, .int .i64 o, .bool q]) (.agg #[.int .u64 h', .int .u64 l', .bool v', .int .i64 n', .int .i64 o', .bool q'])).run Try.prog w = .ok (pcB h l v n o q h' l' v' n' o' q') w := by
  rw [show (10000 : Nat) = 9999 + 1 from rfl, run_equalIn_struct w 9999 _ _ _ (by kernel_rfl) Try.stoodInHeld53]
  simp [go_sem, pcB, pfB, adB]
  by_cases h1 : h = h' <;> by_cases h2 : l = l' <;> by_cases h3 : v = v' <;> by_cases h4 : n = n' <;> by_cases h5 : o = o' <;> by_cases h6 : q = q' <;> simp [h1, h2, h3, h4, h5, h6]

theorem put_len8 (p : Pf) (v : Int) (L : List Pr) : (putL p v L).length ≤ L.length + 1 := by
  induction L with
  | nil => simp [putL]
  | cons x r ih =>
    unfold putL
    split
    · simp
      omega
    · split <;> simp <;> omega
theorem fill_len (ls : List Pr) : ∀ k, k ≤ ls.length → (fillK ls k).1.length ≤ k := by
  intro k
  induction k with
  | zero => intro _; simp [fillK, fills]
  | succ k ih =>
    intro hk
    rw [fillK_succ ls k hk]
    have := ih (by omega)
    show (addQ _ _ _ _ _).length ≤ _
    unfold addQ
    have := put_len8 ls[k].p ls[k].v (fillK ls k).1
    split <;> omega

set_option maxHeartbeats 2000000 in
theorem filled8_any (A : Option Addr) (cap : Nat) (ls : List Pr) (w : World) (hr : RdQ w A ls) (hl : ls.length ≤ 60) :
    Calls Try.prog 6 #[.slice A ls.length cap] w (FillPost w ls) := by
  have HRD := Lib.hid hr
  clear hr
  go_enter Try.func6, Try.ntmps6
  go_wp2_with fail
  refine (rib_new 200 200 _).mono ?_
  rintro e w3 ⟨r, S3, rfl, hT3, hb3, hS3⟩
  have hR3 : RibS w3 r S3 200 200 [] 2 := hT3
  have HR3 := Lib.hid hR3
  have HS3 := Lib.hid hS3
  have b3 : Below w.heap.size w w3 := hb3
  clear hR3 hT3 hS3 hb3
  go_wp2_with fail
  go_loopw [4] (fun i wr => ∃ (k : Nat) (S : Nat → Prop), k ≤ ls.length ∧ i = .int .i64 k ∧ RibS wr r S 200 200 (fillK ls k).1 (fillK ls k).2 ∧ (fillK ls k).2 ≤ 2 + 128 * k ∧ (∀ b, S b → w.heap.size ≤ b) ∧ Below w.heap.size w wr) (fun i _ => ls.length - (RowKit.intOf i).toNat)
  case atStart => exact ⟨0, S3, Nat.zero_le _, rfl, HR3.out, Nat.le_refl _, HS3.out, b3⟩
  case round =>
    obtain ⟨k, S, hk, rfl, hR, hm, hN, hB⟩ := hrel
    have HR6 := Lib.hid hR
    have HN := Lib.hid hN
    clear hR hN HR3 HS3 b3
    by_cases hlt : k < ls.length
    · obtain ⟨g, off, rfl, hg, hc⟩ := HRD.out (by intro e; rw [e] at hlt; cases hlt)
      obtain ⟨c0, c1, c2, c3, c4⟩ := hc k hlt
      have d0 := (hB.cell (p := ⟨g, off + k * 5, none⟩) hg).trans c0
      have d1 := (hB.cell (p := ⟨g, off + k * 5 + 1, none⟩) hg).trans c1
      have d2 := (hB.cell (p := ⟨g, off + k * 5 + 2, none⟩) hg).trans c2
      have d3 := (hB.cell (p := ⟨g, off + k * 5 + 3, none⟩) hg).trans c3
      have d4 := (hB.cell (p := ⟨g, off + k * 5 + 4, none⟩) hg).trans c4
      have hs := fillK_succ ls k hlt
      obtain ⟨y, hy⟩ : ∃ y, ls[k] = y := ⟨_, rfl⟩
      rw [hy] at d0 d1 d2 d3 d4 hs
      have HS := Lib.hid hs
      have gz : g < wr.heap.size := Nat.lt_of_lt_of_le hg hB.size
      have k1 : (k : Int) < (ls.length : Int) := by omega
      have t1 : decide ((k : Int) < (ls.length : Int)) = true := decide_eq_true k1
      have k2 : (k : Int) + 1 ≤ 200 := by omega
      have HM := Lib.hid hm
      clear c0 c1 c2 c3 c4 hc hy hs hm
      obtain ⟨W, rfl⟩ : ∃ W, W = wr := ⟨_, rfl⟩
      have Ld0 := fun x : Later W.heap.size W => (x.cell (p := ⟨g, off + k * 5, none⟩) gz).trans d0
      have Ld1 := fun x : Later W.heap.size W => (x.cell (p := ⟨g, off + k * 5 + 1, none⟩) gz).trans d1
      have Ld2 := fun x : Later W.heap.size W => (x.cell (p := ⟨g, off + k * 5 + 2, none⟩) gz).trans d2
      have Ld3 := fun x : Later W.heap.size W => (x.cell (p := ⟨g, off + k * 5 + 3, none⟩) gz).trans d3
      have Ld4 := fun x : Later W.heap.size W => (x.cell (p := ⟨g, off + k * 5 + 4, none⟩) gz).trans d4
      go_wp2_with fail
      refine region_tail 11 W.heap.size (by kernel_rfl) (by kernel_rfl) ?_
      simp only [List.take_succ_cons, List.take_zero, List.drop_succ_cons, List.drop_zero]
      repeat (go_big_quiet_step (fail))
      refine wpQuiet_nil ?_
      intro x
      have hx := x.below
      generalize x.at = V at hx ⊢
      clear x Ld0 Ld1 Ld2 Ld3 Ld4 d0 d1 d2 d3 d4
      have hz : w.heap.size ≤ V.heap.size := Nat.le_trans hB.size hx.size
      have bV : Below w.heap.size w V := hB.trans (hx.mono hB.size)
      go_wp2_with fail
      refine (rib_add (HR6.out.keep hx) (by have := HM.out; omega) y.p y.v).mono ?_
      rintro e w6 ⟨⟨rfl, S6, g1, g2, g3⟩, g4⟩
      have b6 := bV.trans (g2.below HN.out hz)
      have nn : ∀ b, S6 b → w.heap.size ≤ b := fun b hb => by
        rcases g3 b hb with e | e
        · exact HN.out b e
        · omega
      have hm6 : (fillK ls (k + 1)).2 ≤ 2 + 128 * (k + 1) := by
        have := HM.out
        rw [HS.out]
        show addM 200 200 _ _ _ _ ≤ _
        omega
      have hR6 : RibS w6 r S6 200 200 (fillK ls (k + 1)).1 (fillK ls (k + 1)).2 := by rw [HS.out]; exact g1
      have HQ := Lib.hid (And.intro hR6 (And.intro hm6 (And.intro nn b6)))
      clear g1 g2 g3 g4 hR6 hm6 nn b6 hx bV
      go_wp2
      go_roundw
      case rel => exact ⟨k + 1, S6, by omega, by go_num, HQ.out.1, HQ.out.2.1, HQ.out.2.2.1, HQ.out.2.2.2⟩
      case measure => simp [RowKit.intOf]; omega
    · obtain rfl : k = ls.length := by omega
      have HM := Lib.hid hm
      clear hm
      go_wp2
      go_ret
      exact ⟨r, S, rfl, HR6.out, HM.out, HN.out, hB⟩

theorem ex8 : (((piecesL (fillK [⟨pof adB' 16, 4⟩] 1).1 (pof adB' 8)).take (clampM 99)).map fun x => (x.p.n, x.h, x.r)) = [(16, 0, false), (16, 4, true), (15, 0, false), (14, 0, false), (13, 0, false), (12, 0, false), (11, 0, false), (10, 0, false), (9, 0, false)] ∧ ((piecesL (fillK [⟨pof adB' 16, 4⟩] 1).1 (pof adB' 8)).take (clampM 99))[1]? = some ⟨pof adB' 16, 4, true⟩ ∧ (allB (fillK [⟨pof adB' 16, 4⟩] 1).1 (pof adB' 8)).length = 9 := by decide +kernel

set_option maxHeartbeats 4000000 in
theorem awake8_gen (a : Ad) (w : World) (ea : fromv exB false = a) (L : List Pr) (M : Nat) (hL : fillK [⟨pof a 16, 4⟩] 1 = (L, M)) (l : List Pc) (hl : (piecesL L (pof a 8)).take (clampM 99) = l) (h9 : l.length = 9) (h0 : l[0].r = false) (h1 : l[1] = ⟨pof a 16, 4, true⟩) (hc : (allB L (pof a 8)).length = 9) :
    Calls Try.prog 5 #[] w fun e w' => e = .returned (.bool true) ∧ Below w.heap.size w w' := by
  have hFa := fun (g : Nat) (W : World) hg hc => from_four g 0 4 exB (by intro j _; unfold exB; omega) W hg hc
  rw [ea] at hFa
  have HFa := Lib.hid hFa
  have co := pof_any a
  have cf := fun (A : Option Addr) (cap : Nat) (W : World) (hr : RdQ W A [⟨pof a 16, 4⟩]) => filled8_any A cap [⟨pof a 16, 4⟩] W hr (by simp)
  have cl := fun (W : World) (r : Nat) (S : Nat → Prop) (H : RibS W r S 200 200 L M) => pieces_any H (pof a 8) 99
  have cc := fun (W : World) (r : Nat) (S : Nat → Prop) (H : RibS W r S 200 200 L M) => count_any H (pof a 8) (by rw [hc]; decide)
  unfold FillPost at cf
  rw [show ([⟨pof a 16, 4⟩] : List Pr).length = 1 from rfl, hL] at cf
  rw [hl, hc, show decide (9 ≤ clampM 99) = true from by decide] at cl
  rw [hc] at cc
  generalize pof a = F at co cf cl cc h1 hL hl hc
  have cr : ∀ (w' : World) g, PcR w' g l → w'.cell? ⟨g, 6, none⟩ = some (.int .u64 (u (F 16).a.hi)) ∧ w'.cell? ⟨g, 7, none⟩ = some (.int .u64 (u (F 16).a.lo)) ∧ w'.cell? ⟨g, 8, none⟩ = some (.bool (F 16).a.v6) ∧ w'.cell? ⟨g, 9, none⟩ = some (.int .i64 (F 16).n) ∧ w'.cell? ⟨g, 10, none⟩ = some (.int .i64 4) ∧ w'.cell? ⟨g, 11, none⟩ = some (.bool true) ∧ w'.cell? ⟨g, 5, none⟩ = some (.bool false) ∧ g < w'.heap.size := fun w' g hR => by
    have x1 := hR.2 1 (by omega)
    have x0 := hR.2 0 (by omega)
    rw [h1] at x1
    rw [h0] at x0
    exact ⟨x1.1, x1.2.1, x1.2.2.1, x1.2.2.2.1, x1.2.2.2.2.1, x1.2.2.2.2.2, x0.2.2.2.2.2, hR.1⟩
  have CO := Lib.hid co
  have CF := Lib.hid cf
  have CL := Lib.hid cl
  have CC := Lib.hid cc
  have CR := Lib.hid cr
  clear hFa ea co cf cl cc cr hL h0 h1 hl hc
  go_enter Try.func5, Try.ntmps5
  go_wp2_with fail
  refine (HFa.out w.heap.size _ ?_ ?_).mono ?_
  · simp
  · intro j hj
    have hj' : j = 0 ∨ j = 1 ∨ j = 2 ∨ j = 3 := by omega
    rcases hj' with rfl | rfl | rfl | rfl <;> rw [cell_new (by simp)] <;> rfl
  rintro e w1 ⟨rfl, hw1⟩
  have zw1 := hw1.size
  have bw1 := below_of (w := w) (by go_grown) hw1
  try simp at zw1
  clear hw1
  go_wp2_with fail
  refine (CO.out _ _).mono ?_
  rintro e w2 ⟨rfl, hw2⟩
  have e2 : Below w1.heap.size w1 w2 := below_of (by go_grown) hw2
  have b2 := bw1.trans (e2.mono bw1.size)
  have HA2 : Hid (ABox w2 w1.heap.size a) := Lib.hid (ABox.keep ⟨by go_simp <;> rfl, by go_simp <;> rfl, by go_simp <;> rfl, by go_size⟩ hw2)
  clear hw2 e2
  go_wp2_with fail
  refine (CF.out (some ⟨w2.heap.size, 0, none⟩) 1 _ ?_).mono ?_
  · intro _
    refine ⟨w2.heap.size, 0, rfl, by go_size, fun i hi => ?_⟩
    have hi' : i = 0 := by simp only [List.length_cons, List.length_nil] at hi; omega
    subst hi'
    refine ⟨?_, ?_, ?_, ?_, ?_⟩ <;> (rw [cell_new (by simp)]; rfl)
  rintro e w3 ⟨r, S3, rfl, hR3, -, hS3, hb3⟩
  have e3 : Below w2.heap.size w2 w3 := below_of (by go_grown) hb3
  have b3 := b2.trans (e3.mono b2.size)
  have HR3 := Lib.hid hR3
  have HA3 := Lib.hid (HA2.out.keep e3)
  clear hR3 hS3 hb3 e3 HA2
  obtain ⟨pa, pb, pc, pz⟩ := id HA3.out
  go_wp2_with fail
  refine (CO.out _ _).mono ?_
  rintro e w4 ⟨rfl, hw4⟩
  have b4 := b3.trans (hw4.mono b3.size)
  have HR4 := Lib.hid (HR3.out.keep hw4)
  have HA4 := Lib.hid (HA3.out.keep hw4)
  clear hw4 HR3 HA3 pa pb pc pz
  go_wp2_with fail
  refine (CL.out _ _ _ HR4.out).mono ?_
  rintro e w5 hp5
  obtain ⟨A, c, rfl, hlc, hA1, hA2, hw5⟩ := hp5.row
  cases A with
  | none =>
    have := (hA1 rfl).1
    rw [this] at h9
    cases h9
  | some ad =>
  obtain ⟨e1, hr5⟩ := hA2 _ rfl
  generalize ad.block = g at e1 hr5
  subst e1
  have b5 := b4.trans (hw5.mono b4.size)
  have HR5 := Lib.hid (HR4.out.keep hw5)
  have HA5 := Lib.hid (HA4.out.keep hw5)
  have z5 := b5.size
  obtain ⟨x0, x1, x2, x3, x4, x5, x6, xz⟩ := CR.out _ _ hr5
  obtain ⟨pa, pb, pc, pz⟩ := id HA5.out
  clear hw5 HR4 HA4 hA1 hA2 hp5 hr5
  rw [h9]
  have t9 : ((9 : Nat) : Int) = 9 := rfl
  rw [h9] at hlc
  go_wp2_with fail
  obtain ⟨W, rfl⟩ : ∃ W, W = w5 := ⟨_, rfl⟩
  have Lpa := fun x : Later W.heap.size W => (x.cell pz).trans pa
  have Lpb := fun x : Later W.heap.size W => (x.cell pz).trans pb
  have Lpc := fun x : Later W.heap.size W => (x.cell pz).trans pc
  have Lx0 := fun x : Later W.heap.size W => (x.cell (p := ⟨g, 6, none⟩) xz).trans x0
  have Lx1 := fun x : Later W.heap.size W => (x.cell (p := ⟨g, 7, none⟩) xz).trans x1
  have Lx2 := fun x : Later W.heap.size W => (x.cell (p := ⟨g, 8, none⟩) xz).trans x2
  have Lx3 := fun x : Later W.heap.size W => (x.cell (p := ⟨g, 9, none⟩) xz).trans x3
  have Lx4 := fun x : Later W.heap.size W => (x.cell (p := ⟨g, 10, none⟩) xz).trans x4
  have Lx5 := fun x : Later W.heap.size W => (x.cell (p := ⟨g, 11, none⟩) xz).trans x5
  have Lx6 := fun x : Later W.heap.size W => (x.cell (p := ⟨g, 5, none⟩) xz).trans x6
  try simp only [List.append_eq, List.cons_append, List.nil_append]
  refine region_later W.heap.size (by kernel_rfl) (by kernel_rfl) ?_
  repeat (go_big_quiet_step (first | (go_at_call 20; exact later_of (Nat.le_refl _) (CO.out _ _)) | (go_at_call 12; exact later_of (Nat.le_refl _) (CC.out _ _ _ (HR5.out.keep (Later.below _))))))
  refine wpQuiet_nil ?_
  intro x
  have hx := x.below
  generalize x.at = V at hx ⊢
  clear x Lpa Lpb Lpc Lx0 Lx1 Lx2 Lx3 Lx4 Lx5 Lx6 pa pb pc x0 x1 x2 x3 x4 x5 x6
  go_wp2
  go_ret
  exact ⟨rfl, b5.trans (hx.mono z5)⟩
theorem awake8_any (w : World) : Calls Try.prog 5 #[] w fun e w' => e = .returned (.bool true) ∧ Below w.heap.size w w' := by
  have h9 : ((piecesL (fillK [⟨pof adB' 16, 4⟩] 1).1 (pof adB' 8)).take (clampM 99)).length = 9 := by
    have := congrArg List.length ex8.1
    simpa using this
  refine awake8_gen adB' w exB_from _ _ rfl _ rfl h9 ?_ ?_ ex8.2.2
  · have := congrArg (fun l => l[0]?) ex8.1
    simp only [List.getElem?_map] at this
    rw [List.getElem?_eq_getElem (by omega)] at this
    simp only [Option.map_some, List.getElem?_cons_zero, Option.some.injEq, Prod.mk.injEq] at this
    exact this.2.2
  · have := ex8.2.1
    rw [List.getElem?_eq_getElem (by omega)] at this
    exact Option.some.inj this

end Go.Proofs.Ytggceecolfebjaa

namespace Go.Proofs.Ytggceecolfebjaa
open Go.RowKit Go.Maps
set_option maxRecDepth 100000

/-- The cells of a piece. -/
theorem rd6 {w : World} {A : Option Addr} {l : List Pc} (h : pcK.Rd w A l) {i : Nat} (hi : i < l.length) : ∃ g off, A = some ⟨g, off, none⟩ ∧ g < w.heap.size ∧ w.cell? ⟨g, off + i * 6, none⟩ = some (.int .u64 (u l[i].p.a.hi)) ∧ w.cell? ⟨g, off + i * 6 + 1, none⟩ = some (.int .u64 (u l[i].p.a.lo)) ∧ w.cell? ⟨g, off + i * 6 + 2, none⟩ = some (.bool l[i].p.a.v6) ∧ w.cell? ⟨g, off + i * 6 + 3, none⟩ = some (.int .i64 l[i].p.n) ∧ w.cell? ⟨g, off + i * 6 + 4, none⟩ = some (.int .i64 l[i].h) ∧ w.cell? ⟨g, off + i * 6 + 5, none⟩ = some (.bool l[i].r) := by
  obtain ⟨g, off, e, hz, hc⟩ := h (by rintro rfl; cases hi)
  exact ⟨g, off, e, hz, hc i hi 0 (by decide), hc i hi 1 (by decide), hc i hi 2 (by decide), hc i hi 3 (by decide), hc i hi 4 (by decide), hc i hi 5 (by decide)⟩
/-- What Pieces tells, as it is used. -/
theorem PiecesPost.rd {w : World} {l : List Pc} {b : Bool} {e : Ending} {w' : World} (h : PiecesPost w l b e w') : ∃ A c, e = .returned (.tuple #[.slice A l.length c, .bool b]) ∧ l.length ≤ c ∧ (A = none → l = [] ∧ c = 0) ∧ pcK.Rd w' A l ∧ (∀ a, A = some a → w.heap.size ≤ a.block ∧ a = ⟨a.block, 0, none⟩) ∧ Below w.heap.size w w' := by
  obtain ⟨A, c, rfl, ho, hb⟩ := h
  obtain ⟨A', c', e, hle, hrd, hA⟩ := Kd.rd_own ho rfl
  simp only [Value.slice.injEq, true_and] at e
  obtain ⟨rfl, rfl⟩ := e
  refine ⟨A, c, rfl, hle, fun e => ?_, hrd, fun a e => ⟨(hA a e).1, (hA a e).2.2⟩, hb⟩
  rcases ho.2 with ⟨h1, h2⟩ | ⟨g, cap, cur, h1, _⟩
  · simp only [Value.slice.injEq] at h1
    exact ⟨List.eq_nil_of_length_eq_zero h2, h1.2.2⟩
  · rw [e] at h1
    simp at h1

set_option maxHeartbeats 2000000 in
theorem same8_any (l : List Pc) (A B : Option Addr) (ca cb : Nat) (w : World) (hA : pcK.Rd w A l) (hB : pcK.Rd w B l) (hl : l.length ≤ 100000000) :
    Calls Try.prog 10 #[.slice A l.length ca, .slice B l.length cb] w fun e w' => e = .returned (.bool true) ∧ Below w.heap.size w w' := by
  have HA := Lib.hid hA
  have HB := Lib.hid hB
  clear hA hB
  go_enter Try.func10, Try.ntmps10
  go_wp2_with fail
  go_loopw [5] (fun i wr => ∃ k : Nat, k ≤ l.length ∧ i = .int .i64 k ∧ Below w.heap.size w wr) (fun i _ => l.length - (intOf i).toNat)
  case atStart => exact ⟨0, Nat.zero_le _, rfl, Below.refl _ _⟩
  case round =>
    obtain ⟨k, hk, rfl, hB⟩ := hrel
    by_cases hlt : k < l.length
    · have hlt' : (k : Int) < (l.length : Int) := by omega
      have hk0 : (0 : Int) ≤ (k : Int) := by omega
      have hk9 : (k : Int) + 1 ≤ 1000000000 := by omega
      obtain ⟨ag, ao, ae, az, a0, a1, a2, a3, a4, a5⟩ := rd6 (HA.out.keep hB (Nat.le_refl _)) hlt
      obtain ⟨bg, bo, be, bz, b0, b1, b2, b3, b4, b5⟩ := rd6 (HB.out.keep hB (Nat.le_refl _)) hlt
      subst ae be
      generalize l[k] = r at *
      obtain ⟨W, rfl⟩ : ∃ W, W = wr := ⟨_, rfl⟩
      have hz := hB.size
      have La0 := fun x : Later W.heap.size W => (x.cell (p := ⟨ag, ao + k * 6, none⟩) az).trans a0
      have La1 := fun x : Later W.heap.size W => (x.cell (p := ⟨ag, ao + k * 6 + 1, none⟩) az).trans a1
      have La2 := fun x : Later W.heap.size W => (x.cell (p := ⟨ag, ao + k * 6 + 2, none⟩) az).trans a2
      have La3 := fun x : Later W.heap.size W => (x.cell (p := ⟨ag, ao + k * 6 + 3, none⟩) az).trans a3
      have La4 := fun x : Later W.heap.size W => (x.cell (p := ⟨ag, ao + k * 6 + 4, none⟩) az).trans a4
      have La5 := fun x : Later W.heap.size W => (x.cell (p := ⟨ag, ao + k * 6 + 5, none⟩) az).trans a5
      have Lb0 := fun x : Later W.heap.size W => (x.cell (p := ⟨bg, bo + k * 6, none⟩) bz).trans b0
      have Lb1 := fun x : Later W.heap.size W => (x.cell (p := ⟨bg, bo + k * 6 + 1, none⟩) bz).trans b1
      have Lb2 := fun x : Later W.heap.size W => (x.cell (p := ⟨bg, bo + k * 6 + 2, none⟩) bz).trans b2
      have Lb3 := fun x : Later W.heap.size W => (x.cell (p := ⟨bg, bo + k * 6 + 3, none⟩) bz).trans b3
      have Lb4 := fun x : Later W.heap.size W => (x.cell (p := ⟨bg, bo + k * 6 + 4, none⟩) bz).trans b4
      have Lb5 := fun x : Later W.heap.size W => (x.cell (p := ⟨bg, bo + k * 6 + 5, none⟩) bz).trans b5
      clear a0 a1 a2 a3 a4 a5 b0 b1 b2 b3 b4 b5
      go_wp2_with fail
      refine region_later W.heap.size (by kernel_rfl) (by kernel_rfl) ?_
      repeat (go_big_quiet_step (fail))
      refine wpQuiet_nil ?_
      intro x
      have hx : Below w.heap.size w x.at := hB.trans (x.below.mono hz)
      clear La0 La1 La2 La3 La4 La5 Lb0 Lb1 Lb2 Lb3 Lb4 Lb5
      generalize x.at = w2 at *
      clear x
      go_wp2_with fail
      refine ⟨⟨k + 1, by omega, by go_num, hx⟩, by simp [intOf]; omega⟩
    · obtain rfl : k = l.length := by omega
      have hlt' : ¬ (l.length : Int) < (l.length : Int) := by omega
      go_wp2
      go_ret
      exact ⟨rfl, hB⟩
end Go.Proofs.Ytggceecolfebjaa

namespace Go.Proofs.Ytggceecolfebjaa
open Go.RowKit Go.Maps
set_option maxRecDepth 100000

/-- A piece that lies at an address. -/
def EBox (w : World) (g o : Nat) (x : Pc) : Prop := w.cell? ⟨g, o, none⟩ = some (.int .u64 (u x.p.a.hi)) ∧ w.cell? ⟨g, o + 1, none⟩ = some (.int .u64 (u x.p.a.lo)) ∧ w.cell? ⟨g, o + 2, none⟩ = some (.bool x.p.a.v6) ∧ w.cell? ⟨g, o + 3, none⟩ = some (.int .i64 x.p.n) ∧ w.cell? ⟨g, o + 4, none⟩ = some (.int .i64 x.h) ∧ w.cell? ⟨g, o + 5, none⟩ = some (.bool x.r) ∧ g < w.heap.size
theorem EBox.keep {w w' : World} {g o : Nat} {x : Pc} (h : EBox w g o x) (hb : Below w.heap.size w w') : EBox w' g o x := by
  obtain ⟨c0, c1, c2, c3, c4, c5, hz⟩ := h
  exact ⟨(hb.cell (p := ⟨g, o, none⟩) hz).trans c0, (hb.cell (p := ⟨g, o + 1, none⟩) hz).trans c1, (hb.cell (p := ⟨g, o + 2, none⟩) hz).trans c2, (hb.cell (p := ⟨g, o + 3, none⟩) hz).trans c3, (hb.cell (p := ⟨g, o + 4, none⟩) hz).trans c4, (hb.cell (p := ⟨g, o + 5, none⟩) hz).trans c5, Nat.lt_of_lt_of_le hz hb.size⟩
theorem rd_ebox {w : World} {A : Option Addr} {l : List Pc} (h : pcK.Rd w A l) {i : Nat} (hi : i < l.length) : ∃ g off, A = some ⟨g, off, none⟩ ∧ EBox w g (off + i * 6) l[i] := by
  obtain ⟨g, off, e, hz, c0, c1, c2, c3, c4, c5⟩ := rd6 h hi
  exact ⟨g, off, e, c0, c1, c2, c3, c4, c5, hz⟩
theorem all_len {L : List Pr} {n : Nat} (hn : L.length ≤ n) (p : Pf) : (allB L p).length ≤ 1 + 128 * n := by
  unfold allB
  split
  · rename_i h
    exact blk_most h hn
  · simp
theorem clamp_nat (k : Nat) (h : k ≤ 4096) : clampM (k : Int) = k := by unfold clampM; omega
theorem pieces_len (L : List Pr) (p : Pf) : (piecesL L p).length = (allB L p).length := by unfold piecesL; simp
/-- The hop and whether one governs. -/
def hopO (o : Option Pr) : Int := (o.getD nilPr).v
theorem piece_mem {L : List Pr} {p : Pf} {x : Pc} (hx : x ∈ piecesL L p) : psane p = true ∧ psane x.p = true ∧ pcov p x.p = true ∧ insL L x.p = false ∧ x.h = hopO (govL L x.p) ∧ x.r = (govL L x.p).isSome ∧ (x.p = p ∨ wideP L x.p.a 0 = x.p) := by
  obtain ⟨q, hq, rfl⟩ := List.mem_map.1 hx
  unfold allB at hq
  by_cases hp : psane p = true
  · rw [if_pos hp] at hq
    obtain ⟨a1, a2, a3⟩ := blk_all L p hp q hq
    exact ⟨hp, a1, a2, a3, rfl, rfl, blk_leaf L p hp q hq⟩
  · rw [if_neg hp] at hq
    cases hq
theorem piece_leaf {L : List Pr} {p : Pf} {x : Pc} (hx : x ∈ piecesL L p) : hopO (leafO L x.p.a) = x.h ∧ (leafO L x.p.a).isSome = x.r ∧ (x.p = wideP L x.p.a 0 ∨ x.p = p ∧ pcov (wideP L x.p.a 0) p = true) := by
  obtain ⟨h0, h1, h2, h3, h4, h5, h6⟩ := piece_mem hx
  have hg := gov_con h3 (con_first x.p h1)
  refine ⟨?_, ?_, ?_⟩
  · rw [h4, hg, leaf_eq]
    unfold hopO
    cases longL L x.p.a <;> rfl
  · rw [h5, hg, leaf_eq]
    cases longL L x.p.a <;> rfl
  · rcases h6 with e | e
    · refine .inr ⟨e, ?_⟩
      rw [e] at h3 ⊢
      exact leaf_over h0 h3
    · exact .inl e.symm
theorem mem_take {α : Type} {l : List α} {n i : Nat} (hi : i < (l.take n).length) : (l.take n)[i] ∈ l := List.mem_of_mem_take (List.getElem_mem hi)

end Go.Proofs.Ytggceecolfebjaa

namespace Go.Proofs.Ytggceecolfebjaa
open Go.RowKit Go.Maps
set_option maxRecDepth 100000

/-- Where the k-th block begins: behind the one ahead. -/
def atC (s : Ad) (l : List Pf) : Nat → Ad
  | 0 => s
  | k + 1 => (nextv (fillv (l[k]?.getD nilP).a (l[k]?.getD nilP).n)).1
theorem chain_at {e : Ad} : ∀ {l : List Pf} {s : Ad}, Chain e s l → ∀ k, (hk : k < l.length) → l[k].a = atC s l k ∧ (fillv l[k].a l[k].n = e ↔ k + 1 = l.length) := by
  intro l
  induction l with
  | nil => intro s h; exact h.elim
  | cons q r ih =>
    intro s h k hk
    by_cases hr : r = []
    · subst hr
      obtain ⟨h1, h2⟩ := h
      have : k = 0 := by simp at hk; exact hk
      subst this
      exact ⟨h1, by simp [h2]⟩
    · rw [chain_cons hr] at h
      obtain ⟨h1, h2, h3⟩ := h
      cases k with
      | zero =>
        refine ⟨h1, fun e => absurd e h2, fun e => ?_⟩
        have : r.length = 0 := by simp at e; exact List.length_eq_zero_iff.2 e
        exact absurd (List.eq_nil_of_length_eq_zero this) hr
      | succ k =>
        rw [List.length_cons] at hk
        obtain ⟨i1, i2⟩ := ih h3 k (by omega)
        refine ⟨?_, ?_⟩
        · rw [List.getElem_cons_succ, i1]
          cases k with
          | zero => rfl
          | succ k => rfl
        · rw [List.getElem_cons_succ, i2, List.length_cons]
          omega
theorem whole_at {L : List Pr} {p : Pf} (hp : psane p = true) {k : Nat} (hk : k < (piecesL L p).length) : psane (piecesL L p)[k].p = true ∧ pcov p (piecesL L p)[k].p = true ∧ insL L (piecesL L p)[k].p = false ∧ hopO (govL L (piecesL L p)[k].p) = (piecesL L p)[k].h ∧ (govL L (piecesL L p)[k].p).isSome = (piecesL L p)[k].r ∧ (piecesL L p)[k].p.a = atC p.a (blks L p) k ∧ (fillv (piecesL L p)[k].p.a (piecesL L p)[k].p.n = fillv p.a p.n ↔ k + 1 = (piecesL L p).length) ∧ atC p.a (blks L p) (k + 1) = (nextv (fillv (piecesL L p)[k].p.a (piecesL L p)[k].p.n)).1 := by
  obtain ⟨h0, h1, h2, h3, h4, h5, -⟩ := piece_mem (List.getElem_mem hk)
  refine ⟨h1, h2, h3, h4.symm, h5.symm, ?_⟩
  have e : piecesL L p = (blks L p).map (pieceO L) := by unfold piecesL allB; rw [if_pos hp]
  have hk' : k < (blks L p).length := by rw [e, List.length_map] at hk; exact hk
  have ek : (piecesL L p)[k].p = (blks L p)[k] := by
    have : (piecesL L p)[k] = ((blks L p).map (pieceO L))[k]'(by rw [List.length_map]; exact hk') := by congr 1
    rw [this, List.getElem_map]
    rfl
  rw [ek]
  obtain ⟨c1, c2⟩ := chain_at (blk_chain L p hp) k hk'
  refine ⟨c1, ?_, ?_⟩
  · rw [c2, e, List.length_map]
  · show (nextv (fillv ((blks L p)[k]?.getD nilP).a ((blks L p)[k]?.getD nilP).n)).1 = _
    rw [List.getElem?_eq_getElem hk']
    rfl

def HBox (w : World) (b : Nat) (x : Ad) : Prop := w.heap[b]? = some (.cells #[.int .u64 (u x.hi), .int .u64 (u x.lo), .bool x.v6] 25 (0, 0))
theorem HBox.keep {w w' : World} {b : Nat} {x : Ad} (h : HBox w b x) (hb : Below w.heap.size w w') : HBox w' b x := (hb.block _ (lt_of_block h)).trans h
theorem HBox.abox {w : World} {b : Nat} {x : Ad} (h : HBox w b x) : ABox w b x :=
  ⟨(cell_of_row w b 0 _ _ _ h).trans rfl, (cell_of_row w b 1 _ _ _ h).trans rfl, (cell_of_row w b 2 _ _ _ h).trans rfl, lt_of_block h⟩
theorem adB_iff (a b : Ad) : adB (u a.hi) (u a.lo) a.v6 (u b.hi) (u b.lo) b.v6 = decide (a = b) := by
  have h := pfEq_iff ⟨a, 0⟩ ⟨b, 0⟩
  rw [Bool.eq_iff_iff, decide_eq_true_iff]
  unfold pfEq pfB at h
  simpa using h
theorem size_ad : (Try.prog.info? 25).map (·.size) = some 3 := by kernel_rfl

end Go.Proofs.Ytggceecolfebjaa

namespace Go.Proofs.Ytggceecolfebjaa
open Go.RowKit Go.Maps
set_option maxRecDepth 100000

def nilPc : Pc := ⟨nilP, 0, false⟩
def pairP (x y : Pc) : Bool := decide (x.h = y.h) && (x.r == y.r && (decide (pcmp x.p y.p < 0) && ((psib x.p).2 && decide ((psib x.p).1 = y.p))))
def upP (x : Pc) : Pc := ⟨(pparent x.p).1, x.h, x.r⟩
def joinV (x y : Pc) : Pc × Bool := if pairP x y = true then (upP x, true) else (nilPc, false)
def oneL : List Pc → Option (List Pc)
  | [] => none
  | x :: l => match l with
    | [] => none
    | y :: r => if pairP x y = true then some (upP x :: r) else (oneL l).map (x :: ·)
theorem oneL_cons (x y : Pc) (r : List Pc) : oneL (x :: y :: r) = if pairP x y = true then some (upP x :: r) else (oneL (y :: r)).map (x :: ·) := rfl
theorem oneL_len : ∀ {l m : List Pc}, oneL l = some m → m.length + 1 = l.length := by
  intro l
  induction l with
  | nil => intro m h; cases h
  | cons x l ih =>
    intro m h
    cases l with
    | nil => cases h
    | cons y r =>
      rw [oneL_cons] at h
      split at h
      · cases h
        rfl
      · obtain ⟨k, hk, rfl⟩ := Option.map_eq_some_iff.1 h
        have := ih hk
        simp at this ⊢
        omega
def sqzN : Nat → List Pc → List Pc
  | 0, l => l
  | k + 1, l => match oneL l with
    | none => l
    | some m => sqzN k m
def sqz (l : List Pc) : List Pc := sqzN l.length l
theorem sqz_none {l : List Pc} (h : oneL l = none) : sqz l = l := by
  unfold sqz
  cases l.length with
  | zero => rfl
  | succ k => unfold sqzN; rw [h]
theorem sqz_some {l m : List Pc} (h : oneL l = some m) : sqz l = sqz m := by
  unfold sqz
  rw [← oneL_len h]
  conv => lhs; unfold sqzN
  rw [h]
theorem sqz_ind {Q : List Pc → List Pc → Prop} (h0 : ∀ l, oneL l = none → Q l l) (h1 : ∀ l m s, oneL l = some m → Q m s → Q l s) : ∀ l, Q l (sqz l) := by
  have : ∀ (k : Nat) l, l.length = k → Q l (sqz l) := by
    intro k
    induction k with
    | zero =>
      intro l hl
      obtain rfl := List.eq_nil_of_length_eq_zero hl
      exact h0 [] rfl
    | succ k ih =>
      intro l hl
      cases e : oneL l with
      | none => rw [sqz_none e]; exact h0 l e
      | some m =>
        rw [sqz_some e]
        have := oneL_len e
        exact h1 l m _ e (ih m (by omega))
  exact fun l => this _ l rfl
theorem sqz_le (l : List Pc) : (sqz l).length ≤ l.length := sqz_ind (Q := fun l s => s.length ≤ l.length) (fun _ _ => Nat.le_refl _) (fun _ _ _ h i => by have := oneL_len h; omega) l
theorem sqz_end (l : List Pc) : oneL (sqz l) = none := sqz_ind (Q := fun _ s => oneL s = none) (fun _ h => h) (fun _ _ _ _ i => i) l
theorem sqz_again (l : List Pc) : sqz (sqz l) = sqz l := sqz_none (sqz_end l)
/-- The first k pairs are none. -/
theorem oneL_at : ∀ {l : List Pc} (i : Nat), (∀ j, (h : j + 1 < l.length) → j < i → pairP l[j] l[j + 1] = false) → (hi : i + 1 < l.length) → pairP l[i] l[i + 1] = true → oneL l = some (l.take i ++ upP l[i] :: l.drop (i + 2)) := by
  intro l
  induction l with
  | nil => intro i _ hi; simp at hi
  | cons x l ih =>
    intro i h hi hp
    cases l with
    | nil => simp at hi
    | cons y r =>
      rw [oneL_cons]
      cases i with
      | zero =>
        have hp' : pairP x y = true := hp
        rw [if_pos hp']
        rfl
      | succ i =>
        have h0 := h 0 (by simp) (by omega)
        simp only [List.getElem_cons_zero, Nat.zero_add, List.getElem_cons_succ] at h0
        rw [if_neg (by rw [h0]; decide)]
        have hi' : i + 1 < (y :: r).length := by simp at hi ⊢; omega
        rw [ih i (fun j hj hji => h (j + 1) (by simp at hj ⊢; omega) (by omega)) hi' hp]
        rfl
theorem oneL_no : ∀ {l : List Pc}, (∀ j, (h : j + 1 < l.length) → pairP l[j] l[j + 1] = false) → oneL l = none := by
  intro l
  induction l with
  | nil => intro _; rfl
  | cons x l ih =>
    intro h
    cases l with
    | nil => rfl
    | cons y r =>
      have h0 := h 0 (by simp)
      simp only [List.getElem_cons_zero, Nat.zero_add, List.getElem_cons_succ] at h0
      rw [oneL_cons, if_neg (by rw [h0]; decide), ih (fun j hj => h (j + 1) (by simp at hj ⊢; omega))]
      rfl
theorem child_back {x : Pf} (hx : psane x = true) (h0 : 0 < x.n) : x = (pchild (pof x.a (x.n - 1)) (bitv x.a (x.n - 1))).1 := by
  obtain ⟨b0, b1⟩ := psane_bd hx
  obtain ⟨q1, q2, q3, q4⟩ := (psane_iff _).1 hx
  have hq := psane_pof x.a (x.n - 1)
  have hcov := cov_pofI (a := x.a) (m := x.n - 1) (n := x.n) (by omega) (by omega) b1
  have hqn : (pof x.a (x.n - 1)).n = x.n - 1 := by
    rw [pof_of x.a (x.n - 1) (x.n - 1) (clamp_id _ _ (by omega) (by omega))]
  have hxx : pof x.a x.n = x := (con_iff_pof x x.a).1 (con_first x hx)
  rw [hxx] at hcov
  obtain ⟨c1, c2, c3, c4, c5⟩ := (pcov_iff _ _).1 hcov
  have hv : (pof x.a (x.n - 1)).a.v6 = x.a.v6 := c4
  have hlt : (pof x.a (x.n - 1)).n < wid (pof x.a (x.n - 1)).a.v6 := by rw [hqn, hv]; omega
  rw [child_eq _ _ hq hlt]
  refine sane_ext hx (child_sane _ _ hq hlt) (by show x.n = (pof x.a (x.n - 1)).n + 1; omega) ?_ ?_
  · show x.a.v6 = (setv _ _ _).v6
    rw [set_v6, hv]
  intro j hj
  show D x.a j = D (setv _ _ _) j
  rw [child_D _ _ hq hlt j, hqn]
  split
  · rename_i e
    have hw := wid_bd x.a.v6
    have e2 : x.n - 1 = ((127 - j : Nat) : Int) := by omega
    rw [e2, bitv_D x.a (127 - j) (by have := wid_wd x.a.v6; omega), show 127 - (127 - j) = j by omega]
    cases D x.a j
    · simp [odd_01.1]
    · simp [odd_01.2]
  · rename_i e
    exact c5 j (by rw [hqn]; omega)
theorem pair_con {x y : Pc} (h : pairP x y = true) (a : Ad) : pcon (upP x).p a = (pcon x.p a || pcon y.p a) := by
  unfold pairP at h
  simp only [Bool.and_eq_true, decide_eq_true_iff] at h
  obtain ⟨-, -, -, h4, h5⟩ := h
  have hpar : (pparent x.p).2 = true := by
    unfold psib at h4
    split at h4
    · assumption
    · cases h4
  have hsx : psane x.p = true ∧ 0 < x.p.n ∧ pparent x.p = (pof x.p.a (x.p.n - 1), true) := by
    unfold pparent at hpar ⊢
    by_cases e : psane x.p = true
    · rw [if_pos e] at hpar ⊢
      by_cases e0 : x.p.n = 0
      · rw [if_pos e0] at hpar
        cases hpar
      · have := psane_bd e
        exact ⟨e, by omega, if_neg e0⟩
    · rw [if_neg e] at hpar
      cases hpar
  obtain ⟨s1, s2, s3⟩ := hsx
  obtain ⟨b0, b1⟩ := psane_bd s1
  have hq := psane_pof x.p.a (x.p.n - 1)
  have hqn : (pof x.p.a (x.p.n - 1)).n = x.p.n - 1 := by
    rw [pof_of x.p.a (x.p.n - 1) (x.p.n - 1) (clamp_id _ _ (by omega) (by omega))]
  have hv : (pof x.p.a (x.p.n - 1)).a.v6 = x.p.a.v6 := by
    have hcov := cov_pofI (a := x.p.a) (m := x.p.n - 1) (n := x.p.n) (by omega) (by omega) b1
    rw [(con_iff_pof x.p x.p.a).1 (con_first x.p s1)] at hcov
    exact ((pcov_iff _ _).1 hcov).2.2.2.1
  have hlt : (pof x.p.a (x.p.n - 1)).n < wid (pof x.p.a (x.p.n - 1)).a.v6 := by rw [hqn, hv]; omega
  have hx := child_back s1 s2
  have hy : y.p = (pchild (pof x.p.a (x.p.n - 1)) (1 - bitv x.p.a (x.p.n - 1))).1 := by
    rw [← h5]
    unfold psib
    rw [if_pos hpar, s3]
    show (pchild (pof x.p.a (x.p.n - 1)) (1 - bitv x.p.a (pof x.p.a (x.p.n - 1)).n)).1 = _
    rw [hqn]
  have hk := kin_con (pof x.p.a (x.p.n - 1)) hq hlt a
  have hup : (upP x).p = pof x.p.a (x.p.n - 1) := by unfold upP; rw [s3]
  have key : pcon x.p a = pcon (pchild (pof x.p.a (x.p.n - 1)) (bitv x.p.a (x.p.n - 1))).1 a := congrArg (fun q => pcon q a) hx
  rw [hup, hk, hy, key]
  clear key hx hy hk hup hlt hv hqn hq h4 h5
  generalize pof x.p.a (x.p.n - 1) = Q
  rcases bitv_01 x.p.a (x.p.n - 1) with e | e
  · rw [e]
    rfl
  · rw [e, Bool.or_comm]
    rfl
def atL (l : List Pc) (a : Ad) : Option Pc := l.find? fun x => pcon x.p a
theorem oneL_atL : ∀ {l m : List Pc}, oneL l = some m → ∀ a, (atL m a).map (fun x => (x.h, x.r)) = (atL l a).map (fun x => (x.h, x.r)) := by
  intro l
  induction l with
  | nil => intro m h; cases h
  | cons x l ih =>
    intro m h a
    cases l with
    | nil => cases h
    | cons y r =>
      rw [oneL_cons] at h
      split at h
      · rename_i hp
        cases h
        unfold atL
        rw [List.find?_cons, List.find?_cons, List.find?_cons, pair_con hp a]
        have hh : y.h = x.h ∧ y.r = x.r := by
          unfold pairP at hp
          simp only [Bool.and_eq_true, decide_eq_true_iff, beq_iff_eq] at hp
          exact ⟨hp.1.symm, hp.2.1.symm⟩
        cases pcon x.p a
        · cases pcon y.p a
          · rfl
          · simp [upP, hh.1, hh.2]
        · rfl
      · obtain ⟨k, hk, rfl⟩ := Option.map_eq_some_iff.1 h
        have := ih hk a
        unfold atL at this ⊢
        rw [List.find?_cons, List.find?_cons]
        cases pcon x.p a
        · exact this
        · rfl
theorem sqz_atL (l : List Pc) (a : Ad) : (atL (sqz l) a).map (fun x => (x.h, x.r)) = (atL l a).map (fun x => (x.h, x.r)) :=
  sqz_ind (Q := fun l s => (atL s a).map (fun x => (x.h, x.r)) = (atL l a).map (fun x => (x.h, x.r))) (fun _ _ => rfl) (fun _ _ _ h i => i.trans (oneL_atL h a)) l
theorem sqz_isSome (l : List Pc) (a : Ad) : (atL (sqz l) a).isSome = (atL l a).isSome := by
  have := congrArg Option.isSome (sqz_atL l a)
  simpa using this
theorem atL_piece {L : List Pr} {p : Pf} (hp : psane p = true) (a : Ad) : (atL (piecesL L p) a).isSome = pcon p a ∧ ∀ x, atL (piecesL L p) a = some x → x.h = ((longL L a).getD nilPr).v ∧ x.r = (longL L a).isSome := by
  refine ⟨?_, fun x hx => ?_⟩
  · rw [blk_con L a p hp]
    have e : piecesL L p = (blks L p).map (pieceO L) := by unfold piecesL allB; rw [if_pos hp]
    unfold atL
    rw [e]
    generalize blks L p = l
    induction l with
    | nil => rfl
    | cons q r ih =>
      have e0 : pcon (pieceO L q).p a = pcon q a := rfl
      simp only [List.map_cons, List.find?_cons, List.any_cons, e0]
      cases pcon q a
      · simpa using ih
      · rfl
  · have hm := List.mem_of_find?_eq_some hx
    have hc := List.find?_some hx
    obtain ⟨h0, h1, h2, h3, h4, h5, -⟩ := piece_mem hm
    rw [h4, h5, gov_con h3 hc]
    exact ⟨rfl, rfl⟩

def CBox (w : World) (b : Nat) (x : Pc) : Prop := w.heap[b]? = some (.cells #[.int .u64 (u x.p.a.hi), .int .u64 (u x.p.a.lo), .bool x.p.a.v6, .int .i64 x.p.n, .int .i64 x.h, .bool x.r] 49 (0, 0))
theorem CBox.keep {w w' : World} {b : Nat} {x : Pc} (h : CBox w b x) (hb : Below w.heap.size w w') : CBox w' b x := (hb.block _ (lt_of_block h)).trans h
theorem CBox.six {w : World} {b : Nat} {x : Pc} (h : CBox w b x) : w.cell? ⟨b, 0, none⟩ = some (.int .u64 (u x.p.a.hi)) ∧ w.cell? ⟨b, 1, none⟩ = some (.int .u64 (u x.p.a.lo)) ∧ w.cell? ⟨b, 2, none⟩ = some (.bool x.p.a.v6) ∧ w.cell? ⟨b, 3, none⟩ = some (.int .i64 x.p.n) ∧ w.cell? ⟨b, 4, none⟩ = some (.int .i64 x.h) ∧ w.cell? ⟨b, 5, none⟩ = some (.bool x.r) ∧ b < w.heap.size :=
  ⟨(cell_of_row w b 0 _ _ _ h).trans rfl, (cell_of_row w b 1 _ _ _ h).trans rfl, (cell_of_row w b 2 _ _ _ h).trans rfl, (cell_of_row w b 3 _ _ _ h).trans rfl, (cell_of_row w b 4 _ _ _ h).trans rfl, (cell_of_row w b 5 _ _ _ h).trans rfl, lt_of_block h⟩

end Go.Proofs.Ytggceecolfebjaa

namespace Go.Proofs.Ytggceecolfebjaa
set_option maxRecDepth 100000
open Go.ChangeShapes Go.WideShapes Go.ChangeAt Go.RowKit Go.Joins Go.Deep

theorem add_plain6 (g off j : Nat) : (⟨g, off, none⟩ : Addr).add j = ⟨g, off + j, none⟩ := by unfold Addr.add; split <;> simp_all
theorem pc_cells {H : Type} {enc : TypeId × Value → H} {W : World} {base n : Nat} {spare : Nat → Bool} {held : Bool} {cs : List Value} {x : DataW H × List MemPlace}
    (hl : cs.length = 6) (h : DataW.trod enc Try.prog W base spare held n 53 cs = some x) : ∃ r : Pc, cs = pc6 r := by
  match cs, hl with
  | [c0, c1, c2, c3, c4, c5], _ =>
  obtain ⟨y0, y1, y5, n, hx, _, h0, h1, h5⟩ := trod_struct3 Try.underlying53 h
  have k0 : Try.prog.cellsOf 27 = 4 := by kernel_rfl
  have k1 : Try.prog.cellsOf 3 = 1 := by kernel_rfl
  have g0 : DataW.trod enc Try.prog W base spare held n 27 [c0, c1, c2, c3] = some y0 := by simpa [Value.cells, k0] using h0
  have g1 : DataW.trod enc Try.prog W base spare held n 3 [c4] = some y1 := by simpa [Value.cells, k0, k1] using h1
  have k5 : Try.prog.cellsOf 4 = 1 := by kernel_rfl
  have g5 : DataW.trod enc Try.prog W base spare held n 4 [c5] = some y5 := by simpa [Value.cells, k0, k1, k5] using h5
  obtain ⟨y2, y3, n2, _, _, h2, h3⟩ := trod_struct2 Try.underlying27 g0
  have k4 : Try.prog.cellsOf 25 = 3 := by kernel_rfl
  have g2 : DataW.trod enc Try.prog W base spare held n2 25 [c0, c1, c2] = some y2 := by simpa [k4] using h2
  have g3 : DataW.trod enc Try.prog W base spare held n2 3 [c3] = some y3 := by simpa [k1] using h3
  obtain ⟨z0, z1, z2, m, hz, _, i0, i1, i2⟩ := trod_struct3 Try.underlying25 g2
  have k2 : Try.prog.cellsOf 23 = 1 := by kernel_rfl
  have k3 : Try.prog.cellsOf 4 = 1 := by kernel_rfl
  have j0 : DataW.trod enc Try.prog W base spare held m 23 [c0] = some z0 := by simpa [k2] using i0
  have j1 : DataW.trod enc Try.prog W base spare held m 23 [c1] = some z1 := by simpa [k2] using i1
  have j2 : DataW.trod enc Try.prog W base spare held m 4 [c2] = some z2 := by simpa [k3] using i2
  obtain ⟨x0, e0, _, w0⟩ := DataW.trod_int Try.underlying23 j0
  obtain ⟨x1, e1, _, w1⟩ := DataW.trod_int Try.underlying23 j1
  obtain ⟨x2, e2, _⟩ := DataW.trod_bool Try.underlying4 j2
  obtain ⟨x3, e3, _, w3⟩ := DataW.trod_int Try.underlying3 g3
  obtain ⟨x4, e4, _, w4⟩ := DataW.trod_int Try.underlying3 g1
  obtain ⟨x5, e5, _⟩ := DataW.trod_bool Try.underlying4 g5
  obtain ⟨lo0, hi0⟩ := bounds_u64 w0
  obtain ⟨lo1, hi1⟩ := bounds_u64 w1
  obtain ⟨a0, rfl⟩ := u_of x0 lo0 (by omega)
  obtain ⟨a1, rfl⟩ := u_of x1 lo1 (by omega)
  simp at e0 e1 e2 e3 e4 e5
  subst e0 e1 e2 e3 e4 e5
  exact ⟨⟨⟨⟨a0, a1, x2⟩, x3⟩, x4, x5⟩, rfl⟩

theorem open_pcs {H : Type} {enc : TypeId × Value → H} {W : World} {base b0 : Nat} {spare : Nat → Bool} {held : Bool} {r : Reach} {v : Value} {d : DataW H} {p : List MemPlace}
    (hv : Value.okWide Try.prog W r b0 40 v) (h : DataW.Trod enc Try.prog W base spare held 40 v d p) (_ : ∀ b, spare b = true) :
    ∃ A c rs, v = .slice A (List.length rs) c ∧ pcK.Rd W A rs ∧ (A = none → rs.length = 0 ∧ c = 0) ∧ rs.length ≤ c := by
  obtain ⟨A, len, cap, rfl⟩ := okWide_slice Try.underlying40 hv
  obtain ⟨fuel, hf⟩ := h
  have h5 : Try.prog.cellsOf 53 = 6 := by kernel_rfl
  rcases open_slice Try.underlying40 hf with ⟨hcs, _⟩ | ⟨a, l, c, m, n, D, Pl, hcs, _, hl, hm, hmm, _, hi⟩
  · simp [Value.cells] at hcs
    obtain ⟨rfl, rfl, rfl⟩ := hcs
    exact ⟨none, 0, [], rfl, fun h => absurd rfl h, fun _ => ⟨rfl, rfl⟩, Nat.le_refl _⟩
  · simp [Value.cells] at hcs
    obtain ⟨rfl, rfl, rfl⟩ := hcs
    have hlm : len ≤ m := by rw [hmm]; split <;> omega
    have key : ∀ i, i < len → ∃ r : Pc, ∀ j x, (pc6 r)[j]? = some x → W.cell? (a.add (i * 6 + j)) = some x := by
      intro i hlt
      obtain ⟨cs', hc, ht⟩ := hi i (by omega)
      rw [h5] at hc
      obtain ⟨_, hcl, hat⟩ := World.cells?_some hc
      obtain ⟨r, rfl⟩ := pc_cells hcl ht
      refine ⟨r, fun j x hx => ?_⟩
      have hj : j < 6 := by
        rcases Nat.lt_or_ge j 6 with h1 | h1
        · exact h1
        · rw [List.getElem?_eq_none (by simp [pc6]; omega)] at hx; cases hx
      rw [← Go.Deep.add_add, hat j hj, hx]
    have hch : ∃ f : Nat → Pc, ∀ i, i < len → ∀ j x, (pc6 (f i))[j]? = some x → W.cell? (a.add (i * 6 + j)) = some x :=
      ⟨fun i => if h : i < len then (key i h).choose else nilPc, fun i hlt j x hx => (key i hlt).choose_spec j x (by simpa [hlt] using hx)⟩
    obtain ⟨f, hf2⟩ := hch
    refine ⟨some a, cap, (List.range len).map f, by simp, fun hne => ?_, (fun e => by cases e), by simp; omega⟩
    have hpos : 0 < len := by
      rcases Nat.eq_zero_or_pos len with h0 | h0
      · rw [h0] at hne; simp at hne
      · exact h0
    obtain ⟨g, off, spot⟩ := a
    have hspot : spot = none := by
      have := hf2 0 hpos 0 _ rfl
      rw [show 0 * 6 + 0 = 0 from rfl] at this
      simpa [Addr.add] using World.cell?_spot this
    subst hspot
    have hcell : ∀ i, i < len → ∀ j x, (pc6 (f i))[j]? = some x → W.cell? ⟨g, off + i * 6 + j, none⟩ = some x := fun i hlt j x hx => by
      have := hf2 i hlt j x hx
      rw [add_plain6, ← Nat.add_assoc] at this
      exact this
    refine ⟨g, off, rfl, World.block_lt_of_cell? W ⟨g, off + 0 * 6 + 0, none⟩ (hcell 0 hpos 0 _ rfl), fun i hlt j hj => ?_⟩
    have hlt' : i < len := by simpa using hlt
    have e : ((List.range len).map f)[i] = f i := by simp
    rw [e]
    have hj' : j < (pc6 (f i)).length := hj
    have := hcell i hlt' j _ (List.getElem?_eq_getElem hj')
    exact this.trans (List.getElem?_eq_getElem hj').symm

end Go.Proofs.Ytggceecolfebjaa

namespace Go.Proofs.Ytggceecolfebjaa
open Go.RowKit Go.Maps
set_option maxRecDepth 100000

theorem pair_ok {x : Pc} (h : (psib x.p).2 = true) : (pparent x.p).2 = true := by
  unfold psib at h
  split at h
  · assumption
  · cases h
set_option maxHeartbeats 4000000 in
theorem joined_any (x y : Pc) (w : World) : Calls Try.prog 35 #[.agg #[.int .u64 (u x.p.a.hi), .int .u64 (u x.p.a.lo), .bool x.p.a.v6, .int .i64 x.p.n, .int .i64 x.h, .bool x.r], .agg #[.int .u64 (u y.p.a.hi), .int .u64 (u y.p.a.lo), .bool y.p.a.v6, .int .i64 y.p.n, .int .i64 y.h, .bool y.r]] w fun e w' => e = .returned (.tuple #[.agg #[.int .u64 (u (joinV x y).1.p.a.hi), .int .u64 (u (joinV x y).1.p.a.lo), .bool (joinV x y).1.p.a.v6, .int .i64 (joinV x y).1.p.n, .int .i64 (joinV x y).1.h, .bool (joinV x y).1.r], .bool (joinV x y).2]) ∧ Below w.heap.size w w' := by
  have hno : pairP x y = false → joinV x y = (nilPc, false) := fun h => by unfold joinV; rw [if_neg (by rw [h]; decide)]
  have hyes : pairP x y = true → joinV x y = (upP x, true) := fun h => by unfold joinV; rw [if_pos h]
  have cc := fun W => pcmp_any x.p y.p W
  have cs := fun W => psib_any x.p W
  have cp := fun W => pparent_any x.p W
  have CC := Lib.hid cc
  have CS := Lib.hid cs
  have CP := Lib.hid cp
  clear cc cs cp
  by_cases h1 : x.h = y.h
  case neg =>
    have HJ := Lib.hid (hno (by unfold pairP; simp [h1]))
    clear hno hyes
    have t1 : (x.h != y.h) = true := by rw [bne_iff_ne]; exact h1
    clear h1
    go_enter Try.func35, Try.ntmps35
    go_upto_region 1 with fail
    generalize hV : World.alloc _ _ = w1
    have b1 : Below w.heap.size w w1 := by subst hV; go_grown
    have Hx1 : Hid (CBox w1 w.heap.size x) := Lib.hid (by subst hV; unfold CBox; repeat (first | (refine hp_new ?_; (simp; done)) | (refine hp_old ?_ ?_; · (first | (simp; done) | (simp; omega)))))
    have Hy1 : Hid (CBox w1 (w.heap.size + 1) y) := Lib.hid (by subst hV; unfold CBox; repeat (first | (refine hp_new ?_; (simp; done)) | (refine hp_old ?_ ?_; · (first | (simp; done) | (simp; omega)))))
    have Hq1 : Hid (CBox w1 (w.heap.size + 1 + 1) nilPc) := Lib.hid (by subst hV; unfold CBox; repeat (first | (refine hp_new ?_; (simp; done)) | (refine hp_old ?_ ?_; · (first | (simp; done) | (simp; omega)))))
    have z1 := lt_of_block Hq1.out
    clear hV
    obtain ⟨x0, x1, x2, x3, x4, x5, xz⟩ := id Hx1.out.six
    obtain ⟨y0, y1, y2, y3, y4, y5, yz⟩ := id Hy1.out.six
    go_upto_region 2 with fail
    go_wp2_with (refine wpList_row rfl _ _ _ rfl (w.heap.size + 1 + 1) _ rfl rfl 49 _ (Hq1.out) 6 size_piece rfl rfl rfl ?_; intro w9 h9 f9; have b9 : Below w.heap.size w w9 := (b1).trans (f9.below (fun b hb => by omega) (by first | omega | (simp only [World.size_alloc]; omega))); have q0 := cell_row (i := 0) h9; have q1 := cell_row (i := 1) h9; have q2 := cell_row (i := 2) h9; have q3 := cell_row (i := 3) h9; have q4 := cell_row (i := 4) h9; have q5 := cell_row (i := 5) h9; simp at q0 q1 q2 q3 q4 q5; clear f9)
    refine bodyPost_ret (v := .tuple #[.agg #[.int .u64 0, .int .u64 0, .bool false, .int .i64 0, .int .i64 0, .bool false], .bool false]) (by simp [*, results, Try.results35, go_sem] <;> rfl) rfl ⟨by rw [HJ.out]; rfl, b9⟩
  have t1 : (x.h != y.h) = false := by rw [bne_eq_false_iff_eq]; exact h1
  by_cases h2 : x.r = y.r
  case neg =>
    have HJ := Lib.hid (hno (by unfold pairP; simp [h2]))
    clear hno hyes
    have t2 : (x.r == y.r) = false := by rw [beq_eq_false_iff_ne]; exact h2
    clear h2 h1
    go_enter Try.func35, Try.ntmps35
    go_upto_region 1 with fail
    generalize hV : World.alloc _ _ = w1
    have b1 : Below w.heap.size w w1 := by subst hV; go_grown
    have Hx1 : Hid (CBox w1 w.heap.size x) := Lib.hid (by subst hV; unfold CBox; repeat (first | (refine hp_new ?_; (simp; done)) | (refine hp_old ?_ ?_; · (first | (simp; done) | (simp; omega)))))
    have Hy1 : Hid (CBox w1 (w.heap.size + 1) y) := Lib.hid (by subst hV; unfold CBox; repeat (first | (refine hp_new ?_; (simp; done)) | (refine hp_old ?_ ?_; · (first | (simp; done) | (simp; omega)))))
    have Hq1 : Hid (CBox w1 (w.heap.size + 1 + 1) nilPc) := Lib.hid (by subst hV; unfold CBox; repeat (first | (refine hp_new ?_; (simp; done)) | (refine hp_old ?_ ?_; · (first | (simp; done) | (simp; omega)))))
    have z1 := lt_of_block Hq1.out
    clear hV
    obtain ⟨x0, x1, x2, x3, x4, x5, xz⟩ := id Hx1.out.six
    obtain ⟨y0, y1, y2, y3, y4, y5, yz⟩ := id Hy1.out.six
    go_upto_region 2 with fail
    go_wp2_with (refine wpList_row rfl _ _ _ rfl (w.heap.size + 1 + 1) _ rfl rfl 49 _ (Hq1.out) 6 size_piece rfl rfl rfl ?_; intro w9 h9 f9; have b9 : Below w.heap.size w w9 := (b1).trans (f9.below (fun b hb => by omega) (by first | omega | (simp only [World.size_alloc]; omega))); have q0 := cell_row (i := 0) h9; have q1 := cell_row (i := 1) h9; have q2 := cell_row (i := 2) h9; have q3 := cell_row (i := 3) h9; have q4 := cell_row (i := 4) h9; have q5 := cell_row (i := 5) h9; simp at q0 q1 q2 q3 q4 q5; clear f9)
    refine bodyPost_ret (v := .tuple #[.agg #[.int .u64 0, .int .u64 0, .bool false, .int .i64 0, .int .i64 0, .bool false], .bool false]) (by simp [*, results, Try.results35, go_sem] <;> rfl) rfl ⟨by rw [HJ.out]; rfl, b9⟩
  have t2 : (x.r == y.r) = true := by rw [beq_iff_eq]; exact h2
  by_cases h3 : pcmp x.p y.p < 0
  case neg =>
    have HJ := Lib.hid (hno (by unfold pairP; simp [h3]))
    clear hno hyes
    have t3 : decide (0 ≤ pcmp x.p y.p) = true := decide_eq_true (by omega)
    clear h3 h2 h1
    go_enter Try.func35, Try.ntmps35
    go_upto_region 1 with fail
    generalize hV : World.alloc _ _ = w1
    have b1 : Below w.heap.size w w1 := by subst hV; go_grown
    have Hx1 : Hid (CBox w1 w.heap.size x) := Lib.hid (by subst hV; unfold CBox; repeat (first | (refine hp_new ?_; (simp; done)) | (refine hp_old ?_ ?_; · (first | (simp; done) | (simp; omega)))))
    have Hy1 : Hid (CBox w1 (w.heap.size + 1) y) := Lib.hid (by subst hV; unfold CBox; repeat (first | (refine hp_new ?_; (simp; done)) | (refine hp_old ?_ ?_; · (first | (simp; done) | (simp; omega)))))
    have Hq1 : Hid (CBox w1 (w.heap.size + 1 + 1) nilPc) := Lib.hid (by subst hV; unfold CBox; repeat (first | (refine hp_new ?_; (simp; done)) | (refine hp_old ?_ ?_; · (first | (simp; done) | (simp; omega)))))
    have z1 := lt_of_block Hq1.out
    clear hV
    obtain ⟨x0, x1, x2, x3, x4, x5, xz⟩ := id Hx1.out.six
    obtain ⟨y0, y1, y2, y3, y4, y5, yz⟩ := id Hy1.out.six
    go_wp2_with fail
    refine (CC.out _).mono ?_
    rintro e w2 ⟨rfl, hw⟩
    have ee := hw
    have Hx2 := Lib.hid (Hx1.out.keep ee)
    have Hy2 := Lib.hid (Hy1.out.keep ee)
    have Hq2 := Lib.hid (Hq1.out.keep ee)
    have b2 := b1.trans (ee.mono b1.size)
    have z2 := b2.size
    have y2 := ee.size
    clear hw ee Hx1 Hy1 Hq1 x0 x1 x2 x3 x4 x5 xz y0 y1 y2 y3 y4 y5 yz
    go_upto_region 2 with fail
    go_wp2_with (refine wpList_row rfl _ _ _ rfl (w.heap.size + 1 + 1) _ rfl rfl 49 _ (Hq2.out) 6 size_piece rfl rfl rfl ?_; intro w9 h9 f9; have b9 : Below w.heap.size w w9 := (b2).trans (f9.below (fun b hb => by omega) (by first | omega | (simp only [World.size_alloc]; omega))); have q0 := cell_row (i := 0) h9; have q1 := cell_row (i := 1) h9; have q2 := cell_row (i := 2) h9; have q3 := cell_row (i := 3) h9; have q4 := cell_row (i := 4) h9; have q5 := cell_row (i := 5) h9; simp at q0 q1 q2 q3 q4 q5; clear f9)
    refine bodyPost_ret (v := .tuple #[.agg #[.int .u64 0, .int .u64 0, .bool false, .int .i64 0, .int .i64 0, .bool false], .bool false]) (by simp [*, results, Try.results35, go_sem] <;> rfl) rfl ⟨by rw [HJ.out]; rfl, b9⟩
  have t3 : decide (0 ≤ pcmp x.p y.p) = false := decide_eq_false (by omega)
  cases h4 : (psib x.p).2
  case false =>
    have HJ := Lib.hid (hno (by unfold pairP; rw [h4]; simp))
    clear hno hyes
    have cs := CS.out
    rw [h4] at cs
    have CS2 := Lib.hid cs
    clear cs h4 h3 h2 h1
    go_enter Try.func35, Try.ntmps35
    go_upto_region 1 with fail
    generalize hV : World.alloc _ _ = w1
    have b1 : Below w.heap.size w w1 := by subst hV; go_grown
    have Hx1 : Hid (CBox w1 w.heap.size x) := Lib.hid (by subst hV; unfold CBox; repeat (first | (refine hp_new ?_; (simp; done)) | (refine hp_old ?_ ?_; · (first | (simp; done) | (simp; omega)))))
    have Hy1 : Hid (CBox w1 (w.heap.size + 1) y) := Lib.hid (by subst hV; unfold CBox; repeat (first | (refine hp_new ?_; (simp; done)) | (refine hp_old ?_ ?_; · (first | (simp; done) | (simp; omega)))))
    have Hq1 : Hid (CBox w1 (w.heap.size + 1 + 1) nilPc) := Lib.hid (by subst hV; unfold CBox; repeat (first | (refine hp_new ?_; (simp; done)) | (refine hp_old ?_ ?_; · (first | (simp; done) | (simp; omega)))))
    have z1 := lt_of_block Hq1.out
    clear hV
    obtain ⟨x0, x1, x2, x3, x4, x5, xz⟩ := id Hx1.out.six
    obtain ⟨y0, y1, y2, y3, y4, y5, yz⟩ := id Hy1.out.six
    go_wp2_with fail
    refine (CC.out _).mono ?_
    rintro e w2 ⟨rfl, hw⟩
    have ee := hw
    have Hx2 := Lib.hid (Hx1.out.keep ee)
    have Hy2 := Lib.hid (Hy1.out.keep ee)
    have Hq2 := Lib.hid (Hq1.out.keep ee)
    have b2 := b1.trans (ee.mono b1.size)
    have z2 := b2.size
    have y2 := ee.size
    clear hw ee Hx1 Hy1 Hq1 x0 x1 x2 x3 x4 x5 xz y0 y1 y2 y3 y4 y5 yz
    obtain ⟨x0, x1, x2, x3, x4, x5, xz⟩ := id Hx2.out.six
    go_wp2_with fail
    refine (CS2.out _).mono ?_
    rintro e w3 ⟨rfl, hw⟩
    have ee := hw
    have Hx3 := Lib.hid (Hx2.out.keep ee)
    have Hy3 := Lib.hid (Hy2.out.keep ee)
    have Hq3 := Lib.hid (Hq2.out.keep ee)
    have b3 := b2.trans (ee.mono b2.size)
    have z3 := b3.size
    have y3 := ee.size
    clear hw ee Hx2 Hy2 Hq2 x0 x1 x2 x3 x4 x5 xz
    go_upto_region 5 with fail
    go_wp2_with (refine wpList_row rfl _ _ _ rfl (w.heap.size + 1 + 1) _ rfl rfl 49 _ (hp_old (lt_of_block Hq3.out) Hq3.out) 6 size_piece rfl rfl rfl ?_; intro w9 h9 f9; have b9 : Below w.heap.size w w9 := (b3.alloc (by omega) _).trans (f9.below (fun b hb => by omega) (by first | omega | (simp only [World.size_alloc]; omega))); have q0 := cell_row (i := 0) h9; have q1 := cell_row (i := 1) h9; have q2 := cell_row (i := 2) h9; have q3 := cell_row (i := 3) h9; have q4 := cell_row (i := 4) h9; have q5 := cell_row (i := 5) h9; simp at q0 q1 q2 q3 q4 q5; clear f9)
    refine bodyPost_ret (v := .tuple #[.agg #[.int .u64 0, .int .u64 0, .bool false, .int .i64 0, .int .i64 0, .bool false], .bool false]) (by simp [*, results, Try.results35, go_sem] <;> rfl) rfl ⟨by rw [HJ.out]; rfl, b9⟩
  have h6 := pair_ok h4
  by_cases h5 : (psib x.p).1 = y.p
  case neg =>
    have HJ := Lib.hid (hno (by unfold pairP; simp [h5]))
    clear hno hyes
    have t5 : pfB (u (psib x.p).1.a.hi) (u (psib x.p).1.a.lo) (psib x.p).1.a.v6 (psib x.p).1.n (u y.p.a.hi) (u y.p.a.lo) y.p.a.v6 y.p.n = false := by
      cases h : pfB (u (psib x.p).1.a.hi) (u (psib x.p).1.a.lo) (psib x.p).1.a.v6 (psib x.p).1.n (u y.p.a.hi) (u y.p.a.lo) y.p.a.v6 y.p.n
      · rfl
      · exact absurd ((pfEq_iff _ _).1 h) h5
    have cs := CS.out
    rw [h4] at cs
    have CS2 := Lib.hid cs
    clear cs h4 h3 h2 h1 h5 h6
    go_enter Try.func35, Try.ntmps35
    go_upto_region 1 with fail
    generalize hV : World.alloc _ _ = w1
    have b1 : Below w.heap.size w w1 := by subst hV; go_grown
    have Hx1 : Hid (CBox w1 w.heap.size x) := Lib.hid (by subst hV; unfold CBox; repeat (first | (refine hp_new ?_; (simp; done)) | (refine hp_old ?_ ?_; · (first | (simp; done) | (simp; omega)))))
    have Hy1 : Hid (CBox w1 (w.heap.size + 1) y) := Lib.hid (by subst hV; unfold CBox; repeat (first | (refine hp_new ?_; (simp; done)) | (refine hp_old ?_ ?_; · (first | (simp; done) | (simp; omega)))))
    have Hq1 : Hid (CBox w1 (w.heap.size + 1 + 1) nilPc) := Lib.hid (by subst hV; unfold CBox; repeat (first | (refine hp_new ?_; (simp; done)) | (refine hp_old ?_ ?_; · (first | (simp; done) | (simp; omega)))))
    have z1 := lt_of_block Hq1.out
    clear hV
    obtain ⟨x0, x1, x2, x3, x4, x5, xz⟩ := id Hx1.out.six
    obtain ⟨y0, y1, y2, y3, y4, y5, yz⟩ := id Hy1.out.six
    go_wp2_with fail
    refine (CC.out _).mono ?_
    rintro e w2 ⟨rfl, hw⟩
    have ee := hw
    have Hx2 := Lib.hid (Hx1.out.keep ee)
    have Hy2 := Lib.hid (Hy1.out.keep ee)
    have Hq2 := Lib.hid (Hq1.out.keep ee)
    have b2 := b1.trans (ee.mono b1.size)
    have z2 := b2.size
    have y2 := ee.size
    clear hw ee Hx1 Hy1 Hq1 x0 x1 x2 x3 x4 x5 xz y0 y1 y2 y3 y4 y5 yz
    obtain ⟨x0, x1, x2, x3, x4, x5, xz⟩ := id Hx2.out.six
    go_wp2_with fail
    refine (CS2.out _).mono ?_
    rintro e w3 ⟨rfl, hw⟩
    have ee := hw
    have Hx3 := Lib.hid (Hx2.out.keep ee)
    have Hy3 := Lib.hid (Hy2.out.keep ee)
    have Hq3 := Lib.hid (Hq2.out.keep ee)
    have b3 := b2.trans (ee.mono b2.size)
    have z3 := b3.size
    have y3 := ee.size
    clear hw ee Hx2 Hy2 Hq2 x0 x1 x2 x3 x4 x5 xz
    obtain ⟨y0, y1, y2, y3, y4, y5, yz⟩ := id Hy3.out.six
    have yn0 : ¬ w.heap.size + 1 = w3.heap.size := by omega
    go_upto_region 5 with fail
    go_wp2_with (refine wpList_row rfl _ _ _ rfl (w.heap.size + 1 + 1) _ rfl rfl 49 _ (hp_old (lt_of_block Hq3.out) Hq3.out) 6 size_piece rfl rfl rfl ?_; intro w9 h9 f9; have b9 : Below w.heap.size w w9 := (b3.alloc (by omega) _).trans (f9.below (fun b hb => by omega) (by first | omega | (simp only [World.size_alloc]; omega))); have q0 := cell_row (i := 0) h9; have q1 := cell_row (i := 1) h9; have q2 := cell_row (i := 2) h9; have q3 := cell_row (i := 3) h9; have q4 := cell_row (i := 4) h9; have q5 := cell_row (i := 5) h9; simp at q0 q1 q2 q3 q4 q5; clear f9)
    refine bodyPost_ret (v := .tuple #[.agg #[.int .u64 0, .int .u64 0, .bool false, .int .i64 0, .int .i64 0, .bool false], .bool false]) (by simp [*, results, Try.results35, go_sem] <;> rfl) rfl ⟨by rw [HJ.out]; rfl, b9⟩
  have HJ := Lib.hid (hyes (by unfold pairP; simp [h1, h2, h3, h4, h5]))
  have t5 : pfB (u (psib x.p).1.a.hi) (u (psib x.p).1.a.lo) (psib x.p).1.a.v6 (psib x.p).1.n (u y.p.a.hi) (u y.p.a.lo) y.p.a.v6 y.p.n = true := (pfEq_iff _ _).2 h5
  have cs := CS.out
  rw [h4] at cs
  have cp := CP.out
  rw [h6] at cp
  have CS2 := Lib.hid cs
  have CP2 := Lib.hid cp
  clear cs cp h4 h3 h2 h1 h5 h6 hno hyes
  go_enter Try.func35, Try.ntmps35
  go_upto_region 1 with fail
  generalize hV : World.alloc _ _ = w1
  have b1 : Below w.heap.size w w1 := by subst hV; go_grown
  have Hx1 : Hid (CBox w1 w.heap.size x) := Lib.hid (by subst hV; unfold CBox; repeat (first | (refine hp_new ?_; (simp; done)) | (refine hp_old ?_ ?_; · (first | (simp; done) | (simp; omega)))))
  have Hy1 : Hid (CBox w1 (w.heap.size + 1) y) := Lib.hid (by subst hV; unfold CBox; repeat (first | (refine hp_new ?_; (simp; done)) | (refine hp_old ?_ ?_; · (first | (simp; done) | (simp; omega)))))
  have Hq1 : Hid (CBox w1 (w.heap.size + 1 + 1) nilPc) := Lib.hid (by subst hV; unfold CBox; repeat (first | (refine hp_new ?_; (simp; done)) | (refine hp_old ?_ ?_; · (first | (simp; done) | (simp; omega)))))
  have z1 := lt_of_block Hq1.out
  clear hV
  obtain ⟨x0, x1, x2, x3, x4, x5, xz⟩ := id Hx1.out.six
  obtain ⟨y0, y1, y2, y3, y4, y5, yz⟩ := id Hy1.out.six
  go_wp2_with fail
  refine (CC.out _).mono ?_
  rintro e w2 ⟨rfl, hw⟩
  have ee := hw
  have Hx2 := Lib.hid (Hx1.out.keep ee)
  have Hy2 := Lib.hid (Hy1.out.keep ee)
  have Hq2 := Lib.hid (Hq1.out.keep ee)
  have b2 := b1.trans (ee.mono b1.size)
  have z2 := b2.size
  have y2 := ee.size
  clear hw ee Hx1 Hy1 Hq1 x0 x1 x2 x3 x4 x5 xz y0 y1 y2 y3 y4 y5 yz
  obtain ⟨x0, x1, x2, x3, x4, x5, xz⟩ := id Hx2.out.six
  go_wp2_with fail
  refine (CS2.out _).mono ?_
  rintro e w3 ⟨rfl, hw⟩
  have ee := hw
  have Hx3 := Lib.hid (Hx2.out.keep ee)
  have Hy3 := Lib.hid (Hy2.out.keep ee)
  have Hq3 := Lib.hid (Hq2.out.keep ee)
  have b3 := b2.trans (ee.mono b2.size)
  have z3 := b3.size
  have y3 := ee.size
  clear hw ee Hx2 Hy2 Hq2 x0 x1 x2 x3 x4 x5 xz
  obtain ⟨x0, x1, x2, x3, x4, x5, xz⟩ := id Hx3.out.six
  have xn0 : ¬ w.heap.size = w3.heap.size := by omega
  obtain ⟨y0, y1, y2, y3, y4, y5, yz⟩ := id Hy3.out.six
  have yn0 : ¬ w.heap.size + 1 = w3.heap.size := by omega
  go_wp2_with fail
  refine (CP2.out _).mono ?_
  rintro e w4 ⟨rfl, hw⟩
  have ee : Below w3.heap.size w3 w4 := below_of (by go_grown) hw
  have Hs4 : Hid (PBox w4 (w3.heap.size) (psib x.p).1) := Lib.hid (PBox.keep (by exact ⟨by go_simp <;> rfl, by go_simp <;> rfl, by go_simp <;> rfl, by go_simp <;> rfl, by go_simp <;> rfl, by go_simp <;> rfl, by go_simp <;> rfl, by go_simp <;> rfl, by go_size⟩) hw)
  have Hx4 := Lib.hid (Hx3.out.keep ee)
  have Hy4 := Lib.hid (Hy3.out.keep ee)
  have Hq4 := Lib.hid (Hq3.out.keep ee)
  have b4 := b3.trans (ee.mono b3.size)
  have z4 := b4.size
  have y4 := ee.size
  clear hw ee Hx3 Hy3 Hq3 x0 x1 x2 x3 x4 x5 xz xn0 y0 y1 y2 y3 y4 y5 yz yn0
  obtain ⟨x0, x1, x2, x3, x4, x5, xz⟩ := id Hx4.out.six
  have xn0 : ¬ w.heap.size = w4.heap.size := by omega
  clear t1 t2 t3 t5
  go_upto_region 7 with fail
  go_wp2_with (refine wpList_row rfl _ _ _ rfl (w.heap.size + 1 + 1) _ rfl rfl 49 _ (hp_old (lt_of_block Hq4.out) Hq4.out) 6 size_piece rfl rfl rfl ?_; intro w9 h9 f9; have b9 : Below w.heap.size w w9 := (b4.alloc (by omega) _).trans (f9.below (fun b hb => by omega) (by first | omega | (simp only [World.size_alloc]; omega))); have q0 := cell_row (i := 0) h9; have q1 := cell_row (i := 1) h9; have q2 := cell_row (i := 2) h9; have q3 := cell_row (i := 3) h9; have q4 := cell_row (i := 4) h9; have q5 := cell_row (i := 5) h9; simp at q0 q1 q2 q3 q4 q5; clear f9)
  refine bodyPost_ret (v := .tuple #[.agg #[.int .u64 (u (pparent x.p).1.a.hi), .int .u64 (u (pparent x.p).1.a.lo), .bool (pparent x.p).1.a.v6, .int .i64 (pparent x.p).1.n, .int .i64 x.h, .bool x.r], .bool true]) (by simp [*, results, Try.results35, go_sem] <;> rfl) rfl ⟨by rw [HJ.out]; rfl, b9⟩

end Go.Proofs.Ytggceecolfebjaa

namespace Go.Proofs.Ytggceecolfebjaa
open Go.RowKit
set_option maxRecDepth 100000

section
variable {α : Type} {K : Kd α}
variable {E SL : TypeId} {ops : Array Oper} {rest : List Oper} {o : Oper} {a : Act} {w : World} {Q : Exit → Act → World → Prop}
theorem Kd.run_copy (F : K.Ty E SL) (ty : TypeId) (g x dLen dCap : Nat) (ad : Addr) (sLen sCap : Nat) (cur : Array Value) (t : TypeId) (cs : List Value) (hg : w.heap[g]? = some (.cells cur t (0, 0))) (hn : cs.length = Nat.min sLen dLen * K.k)
    (hsrc : ∀ j v, cs[j]? = some v → w.cell? (ad.add j) = some v) (hfit : x + cs.length ≤ cur.size) (h1 : ∀ v ∈ cs, v.oneCell' = true) :
    (Builtin.copy_ #[SL, SL] ty #[.slice (some ⟨g, x, none⟩) dLen dCap, .slice (some ad) sLen sCap]).run Try.prog w = .ok (goInt (Nat.min sLen dLen)) (w.setRow g (cur.toList.take x ++ cs ++ cur.toList.drop (x + cs.length)).toArray) := by
  obtain ⟨i0, z0, hi0, hz0, hz1, hz2, hz3⟩ := F.info
  have hl := run_loadCells_list (P := Try.prog) w ad cs hsrc
  have hst := run_storeCells_at Try.prog g x t cs 0 cur w hg (by simpa using hfit) h1
  simp [Builtin.copy_, run_underlying F.sl, Builtin.lenOf, Builtin.firstCells, sizeOf, typeInfo, hi0, hz1, ← hn, hl, hst]
theorem Kd.run_copy_none (F : K.Ty E SL) (ty : TypeId) (d s : Option Addr) (dLen dCap sLen sCap : Nat) (hn : Nat.min sLen dLen = 0) :
    (Builtin.copy_ #[SL, SL] ty #[.slice d dLen dCap, .slice s sLen sCap]).run Try.prog w = .ok (goInt 0) w := by
  obtain ⟨i0, z0, hi0, hz0, hz1, hz2, hz3⟩ := F.info
  have hl : ∀ (x : Addr), (loadCells x 0).run Try.prog w = .ok #[] w := fun x => by simpa using run_loadCells_list (P := Try.prog) w x [] (by simp)
  cases d <;> cases s <;> simp [Builtin.copy_, run_underlying F.sl, Builtin.lenOf, Builtin.firstCells, sizeOf, typeInfo, hi0, hn, storeCells, hl]
theorem Kd.wpList_copy (F : K.Ty E SL) (hgd : o.guard = none) (d s : Operand) (ho : o.op = .call { callee := .builtin .copy, args := #[d, s], argTypes := #[SL, SL] }) (dp sp : Option Addr) (dLen dCap sLen sCap : Nat) (hd : a.eval d = .slice dp dLen dCap) (hs : a.eval s = .slice sp sLen sCap)
    (g off : Nat) (cur : List Value) (t : TypeId) (hg : w.heap[g]? = some (.cells cur.toArray t (0, 0))) (cs : List Value) (hn : cs.length = Nat.min sLen dLen * K.k)
    (hpos : 0 < cs.length → dp = some ⟨g, off, none⟩ ∧ ∃ ad, sp = some ad ∧ ∀ j v, cs[j]? = some v → w.cell? (ad.add j) = some v)
    (hfit : off + cs.length ≤ cur.length) (h1 : ∀ v ∈ cs, v.oneCell' = true) (B : Nat) (w0 : World) (hb : Below B w0 w) (hBg : B ≤ g)
    (h : ∀ w' v, Hid (w'.heap[g]? = some (.cells (splice cur off cs).toArray t (0, 0))) → Below B w0 w' → wpList Try.prog ops Q rest (a.put o.dst v) w') :
    wpList Try.prog ops Q (o :: rest) a w := by
  refine wpList_plain hgd fun L hK => ?_
  by_cases h0 : cs.length = 0
  · obtain rfl : cs = [] := List.eq_nil_of_length_eq_zero h0
    have hmin : Nat.min sLen dLen = 0 := by
      have hp := K.pos
      rcases Nat.eq_zero_or_pos (Nat.min sLen dLen) with e | e
      · exact e
      · have := Nat.mul_pos e hp
        simp only [List.length_nil] at hn
        omega
    have hrun := Kd.run_copy_none (w := w) F o.type dp sp dLen dCap sLen sCap hmin
    unfold Oper.wp
    simp [execOp, ho, resolve, invoke, builtin, hd, hs, hrun, Result.andThen]
    exact hK _ _ (h w _ (show _ = _ by simpa [splice] using hg) hb)
  · obtain ⟨rfl, ad, rfl, hsrc⟩ := hpos (by omega)
    have hrun := Kd.run_copy (w := w) F o.type g off dLen dCap ad sLen sCap cur.toArray t cs hg hn hsrc (by simpa using hfit) h1
    unfold Oper.wp
    simp [execOp, ho, resolve, invoke, builtin, hd, hs, hrun, Result.andThen]
    exact hK _ _ (h _ _ (show _ = _ by simpa [splice] using setRow_heap w g _ _ t _ hg) (below_setRow hb hBg _))
theorem Kd.wpList_room (F : K.Ty E SL) (hgd : o.guard = none) (s x : Operand) (ho : o.op = .call { callee := .builtin .append, args := #[s, x], argTypes := #[SL, SL] }) (g n cap : Nat) (hs : a.eval s = .slice (some ⟨g, 0, none⟩) n cap)
    (ad : Addr) (m c : Nat) (hx : a.eval x = .slice (some ad) m c) (cur : List Value) (t : TypeId) (hg : w.heap[g]? = some (.cells cur.toArray t (0, 0))) (cs : List Value) (hn : cs.length = m * K.k) (hsrc : ∀ j v, cs[j]? = some v → w.cell? (ad.add j) = some v)
    (hroom : n + m ≤ cap) (hfit : n * K.k + cs.length ≤ cur.length) (h1 : ∀ v ∈ cs, v.oneCell' = true) (B : Nat) (w0 : World) (hb : Below B w0 w) (hBg : B ≤ g)
    (h : ∀ w', Hid (w'.heap[g]? = some (.cells (splice cur (n * K.k) cs).toArray t (0, 0))) → Below B w0 w' → wpList Try.prog ops Q rest (a.put o.dst (.slice (some ⟨g, 0, none⟩) (n + m) cap)) w') :
    wpList Try.prog ops Q (o :: rest) a w := by
  refine wpList_plain hgd fun L hK => ?_
  obtain ⟨i0, z0, hi0, hz0, hz1, hz2, hz3⟩ := F.info
  have hfc := run_firstCells_some (P := Try.prog) (w := w) K.k m ad m c cs hn hsrc
  have hst := run_storeCells_at Try.prog g (n * K.k) t cs 0 cur.toArray w hg (by simpa using hfit) h1
  have hrun : (Builtin.append_ #[SL, SL] o.type #[.slice (some ⟨g, 0, none⟩) n cap, .slice (some ad) m c]).run Try.prog w = .ok (.slice (some ⟨g, 0, none⟩) (n + m) cap) (w.setRow g (cur.take (n * K.k) ++ cs ++ cur.drop (n * K.k + cs.length)).toArray) := by
    simp only [Nat.add_zero] at hst
    simp [Builtin.append_, run_underlying F.sl, sizeOf, typeInfo, hi0, hz1, Builtin.lenOf, hroom, hfc, Addr.add_lit, hst]
  unfold Oper.wp
  simp [execOp, ho, resolve, invoke, builtin, hs, hx, hrun, Result.andThen]
  exact hK _ _ (h _ (show _ = _ by simpa [splice] using setRow_heap w g _ _ t _ hg) (below_setRow hb hBg _))
theorem Kd.wpList_clear (F : K.Ty E SL) (hone : ∀ i z, Try.prog.info? E = some i → i.zero = some z → ∀ u ∈ z.cells.toList, u.oneCell' = true) (hgd : o.guard = none) (s : Operand) (ho : o.op = .call { callee := .builtin .clear, args := #[s], argTypes := #[SL] }) (g x n cap : Nat) (hs : a.eval s = .slice (some ⟨g, x, none⟩) n cap)
    (cur : List Value) (t : TypeId) (hg : w.heap[g]? = some (.cells cur.toArray t (0, 0))) (hn : 0 < n) (hfit : x + n * K.k ≤ cur.length) (B : Nat) (w0 : World) (hb : Below B w0 w) (hBg : B ≤ g)
    (h : ∀ w' cs, cs.length = n * K.k → Hid (w'.heap[g]? = some (.cells (splice cur x cs).toArray t (0, 0))) → Below B w0 w' → wpList Try.prog ops Q rest (a.put o.dst (.tuple #[])) w') :
    wpList Try.prog ops Q (o :: rest) a w := by
  refine wpList_plain hgd fun L hK => ?_
  obtain ⟨i0, z0, hi0, hz0, hz1, hz2, hz3⟩ := F.info
  obtain ⟨cs, hcs⟩ : ∃ cs, cs = (Builtin.zeroCells z0.cells n).toList := ⟨_, rfl⟩
  have hl : cs.length = n * K.k := by rw [hcs]; simp [Builtin.zeroCells, hz3]
  have h1 : ∀ v ∈ cs, v.oneCell' = true := by
    intro v hv
    rw [hcs] at hv
    simp only [Builtin.zeroCells, Array.toList_map, Array.toList_range, List.mem_map, List.mem_range] at hv
    obtain ⟨j, hj, rfl⟩ := hv
    have hj' : j % z0.cells.size < z0.cells.size := Nat.mod_lt _ (by rw [hz3]; exact K.pos)
    rw [getElem!_pos z0.cells _ hj']
    exact hone i0 z0 hi0 hz0 _ (by simp)
  have hst := run_storeCells_at Try.prog g x t cs 0 cur.toArray w hg (by simp only [List.size_toArray]; omega) h1
  have hrun : (Builtin.clear_ #[SL] o.type #[.slice (some ⟨g, x, none⟩) n cap]).run Try.prog w = .ok (.tuple #[]) (w.setRow g (cur.take x ++ cs ++ cur.drop (x + cs.length)).toArray) := by
    obtain ⟨m, rfl⟩ : ∃ m, n = m + 1 := ⟨n - 1, by omega⟩
    simp only [Nat.add_zero] at hst
    simp [Builtin.clear_, run_underlying F.sl, zeroValue, typeInfo, hi0, hz0, ← hcs, hst]
  unfold Oper.wp
  simp [execOp, ho, resolve, invoke, builtin, hs, hrun, Result.andThen]
  exact hK _ _ (h _ _ hl (show _ = _ by simpa [splice] using setRow_heap w g _ _ t _ hg) (below_setRow hb hBg _))
end
theorem splice_take {α : Type} (L : List α) (off : Nat) (cs : List α) (k : Nat) (h : off ≤ L.length) (hk : k ≤ off) : (splice L off cs).take k = L.take k := by
  unfold splice
  rw [List.take_append_of_le_length (by rw [List.length_take]; omega), List.take_take, Nat.min_eq_left hk]
theorem splice_upto {α : Type} (L : List α) (off : Nat) (cs : List α) (h : off ≤ L.length) : (splice L off cs).take (off + cs.length) = L.take off ++ cs := by
  unfold splice
  rw [← List.append_assoc, List.take_append_of_le_length (by simp; omega), List.take_of_length_le (by simp; omega)]

end Go.Proofs.Ytggceecolfebjaa

namespace Go.Proofs.Ytggceecolfebjaa
open Go.RowKit Go.Maps
set_option maxRecDepth 100000

section
variable {α : Type} (K : Kd α)
theorem Kd.row_take (l : List α) (k : Nat) : (K.row l).take (k * K.k) = K.row (l.take k) := by
  induction k generalizing l with
  | zero => simp [Kd.row]
  | succ k ih =>
    cases l with
    | nil => simp [Kd.row]
    | cons x r =>
      rw [K.row_cons, List.take_succ_cons, K.row_cons, ← ih r, List.take_append, List.take_of_length_le (by rw [K.len, Nat.add_mul]; omega), K.len]
      congr 2
      rw [Nat.add_mul]
      omega
theorem Kd.row_drop (l : List α) (k : Nat) : (K.row l).drop (k * K.k) = K.row (l.drop k) := by
  induction k generalizing l with
  | zero => simp [Kd.row]
  | succ k ih =>
    cases l with
    | nil => simp [Kd.row]
    | cons x r =>
      rw [K.row_cons, List.drop_succ_cons, ← ih r, List.drop_append, List.drop_of_length_le (by rw [K.len, Nat.add_mul]; omega), K.len, List.nil_append]
      congr 1
      rw [Nat.add_mul]
      omega
end

/-- A row of pieces of one's own. -/
def RowPc (w : World) (l : List Pc) (e : Ending) (w' : World) : Prop := ∃ A c, e = .returned (.slice A l.length c) ∧ w'.ownsRow w.heap.size 49 pcK.k (.slice A l.length c) l.length (pcK.row l) ∧ Below w.heap.size w w'
theorem own_none {w : World} {g : Nat} {T : TypeId} (hg : w.heap[g]? = some (.cells #[] T (0, 0))) (base : Nat) (hb : base ≤ g) : w.ownsRow base T pcK.k (.slice (some ⟨g, 0, none⟩) 0 0) 0 (pcK.row []) :=
  ⟨rfl, .inr ⟨g, 0, #[], rfl, hb, hg, Nat.le_refl _, Nat.zero_le _, rfl, rfl⟩⟩
@[simp] theorem nil_pieces (A : Option Addr) (n c : Nat) (w : World) : (binOp .eql 37 (.slice A n c) (.slice none 0 0)).run Try.prog w = .ok (.bool A.isNone) w := Lib.run_eql_slice_nil w _ _ A n c 0 0 Try.underlying37

set_option maxHeartbeats 2000000 in
theorem clone_any (A : Option Addr) (c : Nat) (l : List Pc) (w : World) (hr : pcK.Rd w A l) (hA : A = none → l = [] ∧ c = 0) (hl : l.length ≤ 100000000) :
    Calls Try.prog 34 #[.slice A l.length c] w (RowPc w l) := by
  have HR := Lib.hid hr
  clear hr
  cases A with
  | none =>
    obtain ⟨rfl, rfl⟩ := hA rfl
    have t0 : (none : Option Addr).isNone = true := rfl
    go_enter Try.func34, Try.ntmps34
    go_wp2
    go_ret
    exact ⟨none, 0, rfl, World.ownsRow_nil _ _ _ _, by first | exact Below.refl _ _ | go_grown⟩
  | some ad =>
    have t0 : (some ad).isNone = false := rfl
    go_enter Try.func34, Try.ntmps34
    go_wp2_with (at_builtin; refine Kd.wpList_many ty_piece rfl (.tmp 5) (.tmp 6) rfl w.heap.size _ 0 [] rfl (by rfl) (own_none (hp_new rfl) _ (Nat.le_refl _)) _ l.length c l rfl (fun e => by cases e) (by rfl) (HR.out.kept (by go_grown)) (by omega) (by first | (simp; done) | go_size) ?_; intro A1 c1 w1 hG; have b1 : Below w.heap.size w w1 := Below.trans (by go_grown) hG.2.2.2; have HG := Lib.hid hG.1; clear hG)
    go_ret
    have hG := HG.out
    rw [List.nil_append, Nat.zero_add] at hG
    exact ⟨A1, c1, by simp, hG, b1⟩
theorem size_piece0 : ∀ i z, Try.prog.info? 49 = some i → i.zero = some z → ∀ u ∈ z.cells.toList, u.oneCell' = true := by
  have h : (Try.prog.info? 49).map (fun i => i.zero) = some (some (.agg #[.int .u64 0, .int .u64 0, .bool false, .int .i64 0, .int .i64 0, .bool false])) := by kernel_rfl
  intro i z hi hz u hu
  rw [hi, Option.map_some, hz] at h
  simp only [Option.some.injEq] at h
  subst h
  simp [Value.cells] at hu
  rcases hu with rfl | rfl | rfl | rfl | rfl | rfl <;> rfl

end Go.Proofs.Ytggceecolfebjaa

namespace Go.Proofs.Ytggceecolfebjaa
open Go.RowKit Go.Maps
set_option maxRecDepth 100000

def repL (l : List Pc) (i : Nat) (x : Pc) : List Pc := l.take i ++ x :: l.drop (i + 2)
theorem repl_len {l : List Pc} {i : Nat} (hi : i + 2 ≤ l.length) (x : Pc) : (repL l i x).length = l.length - 1 := by simp [repL]; omega
def RepPost (base : Nat) (l : List Pc) (i : Nat) (x : Pc) (A : Option Addr) (c : Nat) (w : World) (e : Ending) (w' : World) : Prop := e = .returned (.slice A (l.length - 1) c) ∧ w'.ownsRow base 49 pcK.k (.slice A (l.length - 1) c) (l.length - 1) (pcK.row (repL l i x)) ∧ Below base w w'
theorem pc6_len (x : Pc) : (pc6 x).length = 6 := rfl
theorem pc6_cell (x : Pc) : ∀ u ∈ pc6 x, u.oneCell' = true := pcK.cell x
theorem pcrow_len (l : List Pc) : (pcK.row l).length = l.length * 6 := pcK.row_len l
theorem add_off (g o j : Nat) : (⟨g, o, none⟩ : Addr).add j = ⟨g, o + j, none⟩ := by unfold Addr.add; split <;> simp_all
theorem block_cell {w : World} {g : Nat} {Z : List Value} {t : TypeId} (h : w.heap[g]? = some (.cells Z.toArray t (0, 0))) (j : Nat) : w.cell? ⟨g, j, none⟩ = Z[j]? := by
  rw [cell_of_row w g j _ t (0, 0) h]
  simp
theorem src_one {w : World} {g : Nat} {x : Pc} (h : w.heap[g]? = some (.cells (pc6 x).toArray 49 (0, 0))) : ∀ j v, (pc6 x)[j]? = some v → w.cell? ((⟨g, 0, none⟩ : Addr).add j) = some v := fun j v hv => by
  rw [add_off, Nat.zero_add, block_cell h]
  exact hv

/-- The row's block, whole. -/
theorem own_whole {w : World} {base : Nat} {A : Option Addr} {n c : Nat} {l : List Pc} (h : w.ownsRow base 49 pcK.k (.slice A n c) n (pcK.row l)) (hn : 0 < n) : ∃ g Z, A = some ⟨g, 0, none⟩ ∧ base ≤ g ∧ w.heap[g]? = some (.cells (Z : List Value).toArray 49 (0, 0)) ∧ n ≤ c ∧ c ≤ maxLen ∧ Z.length = c * 6 ∧ Z.take (n * 6) = pcK.row l := by
  rcases h.2 with ⟨-, h0⟩ | ⟨g, cap, cur, h1, h2, h3, h4, h5, h6, h7⟩
  · omega
  · simp only [Value.slice.injEq, true_and] at h1
    obtain ⟨rfl, rfl⟩ := h1
    exact ⟨g, cur.toList, rfl, h2, by simpa using h3, h4, h5, by simpa using (show cur.size = c * 6 from h6), h7⟩
theorem whole_own {w : World} {base g n c : Nat} {Z : List Value} {l : List Pc} (hb : base ≤ g) (h : w.heap[g]? = some (.cells Z.toArray 49 (0, 0))) (hn : n = l.length) (hc : n ≤ c) (hm : c ≤ maxLen) (hZ : Z.length = c * 6) (ht : Z.take (n * 6) = pcK.row l) : w.ownsRow base 49 pcK.k (.slice (some ⟨g, 0, none⟩) n c) n (pcK.row l) :=
  ⟨by rw [hn]; exact pcK.row_len l, .inr ⟨g, c, Z.toArray, rfl, hb, h, hc, hm, by show _ = c * 6; simpa using hZ, by show List.take (n * 6) _ = _; simpa using ht⟩⟩
theorem take_head {Z : List Value} {l : List Pc} {n i : Nat} (ht : Z.take (n * 6) = pcK.row l) (hi : i ≤ n) : Z.take (i * 6) = pcK.row (l.take i) := by
  rw [← pcK.row_take l i, ← ht, List.take_take]
  congr 1
  show i * 6 = min (i * 6) (n * 6)
  omega
set_option maxHeartbeats 4000000 in
theorem replace_last {w : World} {base : Nat} {A : Option Addr} {c i : Nat} {l : List Pc} (x : Pc) (g' : Nat) (hown : w.ownsRow base 49 pcK.k (.slice A l.length c) l.length (pcK.row l)) (hx : w.heap[g']? = some (.cells (pc6 x).toArray 49 (0, 0))) (hi : i + 2 = l.length) (hl : l.length ≤ 100000) :
    Calls Try.prog 36 #[.slice A l.length c, .int .i64 (i : Int), .int .i64 ((i : Int) + 2), .slice (some ⟨g', 0, none⟩) 1 1] w (RepPost base l i x A c w) := by
  obtain ⟨g, Z, rfl, hb, hg, hc, hm, hZ, ht⟩ := own_whole hown (by omega)
  have hlen := repl_len (x := x) (show i + 2 ≤ l.length by omega)
  clear hown
  unfold RepPost
  rw [show l.length - 1 = i + 1 by omega]
  have ht1 := take_head ht (show i ≤ l.length by omega)
  have hlr : repL l i x = l.take i ++ [x] := by unfold repL; rw [List.drop_of_length_le (by omega)]
  rw [hlr]
  have hn1 : i + 1 = (l.take i ++ [x]).length := by simp; omega
  have hrow : pcK.row (l.take i ++ [x]) = pcK.row (l.take i) ++ pc6 x := by rw [pcK.row_append, pcK.row_one]; rfl
  have h9 : l.length = i + 2 := by omega
  rw [h9] at hc ⊢
  have hs1 : ∀ W : World, (Instr.slice 37 (.slice (some ⟨g, 0, none⟩) (i + 2) c) (some (.int .i64 (i : Int))) (some (.int .i64 ((i : Int) + 2))) none).run Try.prog W = .ok (.slice (cutK 6 (some ⟨g, 0, none⟩) c i) 2 (c - i)) W := fun W => by
    have := Kd.slice_lh ty_piece (some ⟨g, 0, none⟩) (i + 2) c (i : Int) ((i : Int) + 2) (by omega) (by omega) (by omega) W
    rw [this]
    congr 2
    omega
  have hs2 : ∀ W : World, (Instr.slice 37 (.slice (some ⟨g, 0, none⟩) (i + 2) c) none (some (.int .i64 (i : Int))) none).run Try.prog W = .ok (.slice (some ⟨g, 0, none⟩) i c) W := fun W => by
    have := Kd.slice_to ty_piece (some ⟨g, 0, none⟩) (i + 2) c (i : Int) (by omega) (by omega) W
    simpa using this
  have hs3 : ∀ W : World, (Instr.slice 37 (.slice (some ⟨g, 0, none⟩) (i + 2) c) (some (.int .i64 ((i : Int) + 1))) none none).run Try.prog W = .ok (.slice (some ⟨g, (i + 1) * 6, none⟩) 1 (c - (i + 1))) W := fun W => by
    have := Kd.slice_from ty_piece (some ⟨g, 0, none⟩) (i + 2) c ((i : Int) + 1) (by omega) (by omega) W
    rw [this, show ((i : Int) + 1).toNat = i + 1 by omega, show i + 2 - (i + 1) = 1 by omega]
    unfold cutK
    rw [if_neg (by omega), Option.map_some, add_off, Nat.zero_add]
    rfl
  generalize cutK 6 (some ⟨g, 0, none⟩) c i = C1 at hs1
  have e1 : ((i : Int) == (i : Int) + 2) = false := by rw [beq_eq_false_iff_ne]; omega
  have e3 : decide ((i : Int) + 1 < (i : Int) + 2) = true := decide_eq_true (by omega)
  have i9 : (i : Int) + 2 ≤ 100000 := by omega
  have hf1 : i * pcK.k + (pc6 x).length ≤ Z.length := by show i * 6 + 6 ≤ _; omega
  have hf2 : (i + 1) * 6 + 1 * pcK.k ≤ (splice Z (i * pcK.k) (pc6 x)).length := by rw [length_splice _ _ _ hf1]; show (i + 1) * 6 + 1 * 6 ≤ _; omega
  have HF1 := Lib.hid hf1
  have HF2 := Lib.hid hf2
  clear hf1 hf2
  have HT := Lib.hid ht1
  have HRW := Lib.hid hrow
  have HN := Lib.hid hn1
  have HC := Lib.hid hc
  have HM := Lib.hid hm
  have HZ := Lib.hid hZ
  have Hx := Lib.hid hx
  have Hg := Lib.hid hg
  clear ht ht1 hlr hrow hn1 hc hm hZ hx hg hl hi h9 hlen
  go_enter Try.func36, Try.ntmps36
  go_wp2_with (first
    | (at_builtin; refine Kd.wpList_room ty_piece rfl (.tmp 32) (.tmp 33) rfl g i c (by rfl) ⟨g', 0, none⟩ 1 1 (by rfl) Z _ Hg.out (pc6 x) rfl (src_one Hx.out) (by have := HC.out; omega) HF1.out (pc6_cell x) base w (Below.refl _ _) hb ?_; intro w1 Hg1 b1)
    | (refine Kd.wpList_clear ty_piece size_piece0 rfl (.tmp 43) rfl g ((i + 1) * 6) 1 _ (by rfl) _ _ Hg1.out (by decide) HF2.out base w b1 hb ?_; intro w2 zs hzs Hg2 b2; have HZS := Lib.hid hzs; clear hzs))
  go_ret
  have k1 := HC.out
  have k2 := HZ.out
  have k3 : (pc6 x).length = 6 := rfl
  refine ⟨rfl, whole_own hb Hg2.out HN.out (by omega) HM.out ?_ ?_, b2⟩
  · have l1 : (splice Z (i * pcK.k) (pc6 x)).length = Z.length := length_splice _ _ _ (by show i * 6 + _ ≤ _; omega)
    have l2 : zs.length = 1 * 6 := HZS.out
    rw [length_splice _ _ _ (by omega), l1, k2]
  · have l1 : (splice Z (i * pcK.k) (pc6 x)).length = Z.length := length_splice _ _ _ (by show i * 6 + _ ≤ _; omega)
    rw [splice_take _ _ _ _ (by omega) (Nat.le_refl _)]
    have := splice_upto Z (i * pcK.k) (pc6 x) (by show i * 6 ≤ _; omega)
    rw [show (i + 1) * 6 = i * pcK.k + (pc6 x).length by show _ = i * 6 + 6; omega, this, HRW.out, ← HT.out]
    rfl

theorem mid_facts {Z : List Value} {l : List Pc} {x : Pc} {c i m : Nat} (h9 : l.length = i + 2 + m) (hc : l.length ≤ c) (hZ : Z.length = c * 6) (ht : Z.take (l.length * 6) = pcK.row l) (zs : List Value) (hzs : zs.length = 1 * 6) :
    i * 6 + (pc6 x).length ≤ Z.length ∧ (∀ j v, (pcK.row (l.drop (i + 2)))[j]? = some v → (splice Z (i * 6) (pc6 x))[(i + 2) * 6 + j]? = some v) ∧ (i + 1) * 6 + (pcK.row (l.drop (i + 2))).length ≤ (splice Z (i * 6) (pc6 x)).length ∧ (i + 1 + m) * 6 + 1 * 6 ≤ (splice (splice Z (i * 6) (pc6 x)) ((i + 1) * 6) (pcK.row (l.drop (i + 2)))).length ∧
    (splice (splice (splice Z (i * 6) (pc6 x)) ((i + 1) * 6) (pcK.row (l.drop (i + 2)))) ((i + 1 + m) * 6) zs).length = c * 6 ∧ (splice (splice (splice Z (i * 6) (pc6 x)) ((i + 1) * 6) (pcK.row (l.drop (i + 2)))) ((i + 1 + m) * 6) zs).take ((i + 1 + m) * 6) = pcK.row (repL l i x) := by
  have hx : (pc6 x).length = 6 := rfl
  have hd : (pcK.row (l.drop (i + 2))).length = m * 6 := by rw [pcrow_len, List.length_drop, h9]; congr 1; omega
  have l1 : (splice Z (i * 6) (pc6 x)).length = Z.length := length_splice _ _ _ (by omega)
  have l2 : (splice (splice Z (i * 6) (pc6 x)) ((i + 1) * 6) (pcK.row (l.drop (i + 2)))).length = Z.length := by rw [length_splice _ _ _ (by omega), l1]
  refine ⟨by omega, fun j v hv => ?_, by omega, by omega, ?_, ?_⟩
  · have hj : j < m * 6 := by
      have := (List.getElem?_eq_some_iff.1 hv).1
      omega
    have e1 : (splice Z (i * 6) (pc6 x))[(i + 2) * 6 + j]? = Z[(i + 2) * 6 + j]? := by
      unfold splice
      rw [← List.append_assoc, List.getElem?_append_right (by simp; omega), List.getElem?_drop]
      congr 1
      simp
      omega
    have e2 : Z[(i + 2) * 6 + j]? = (Z.take (l.length * 6))[(i + 2) * 6 + j]? := by rw [List.getElem?_take, if_pos (by omega)]
    rw [e1, e2, ht, ← hv, ← pcK.row_drop l (i + 2), List.getElem?_drop]
    rfl
  · rw [length_splice _ _ _ (by omega), l2, hZ]
  · rw [splice_take _ _ _ _ (by omega) (Nat.le_refl _)]
    have u1 := splice_upto (splice Z (i * 6) (pc6 x)) ((i + 1) * 6) (pcK.row (l.drop (i + 2))) (by omega)
    have u2 := splice_upto Z (i * 6) (pc6 x) (by omega)
    rw [show (i + 1 + m) * 6 = (i + 1) * 6 + (pcK.row (l.drop (i + 2))).length by omega, u1, show (i + 1) * 6 = i * 6 + (pc6 x).length by omega, u2, take_head ht (by omega)]
    unfold repL
    rw [pcK.row_append, pcK.row_cons, List.append_assoc]
    rfl

set_option maxHeartbeats 8000000 in
theorem replace_mid {w : World} {base : Nat} {A : Option Addr} {c i m : Nat} {l : List Pc} (x : Pc) (g' : Nat) (hown : w.ownsRow base 49 pcK.k (.slice A l.length c) l.length (pcK.row l)) (hx : w.heap[g']? = some (.cells (pc6 x).toArray 49 (0, 0))) (h9 : l.length = i + 2 + m) (h0 : 0 < m) (hl : l.length ≤ 100000) :
    Calls Try.prog 36 #[.slice A l.length c, .int .i64 (i : Int), .int .i64 ((i : Int) + 2), .slice (some ⟨g', 0, none⟩) 1 1] w (RepPost base l i x A c w) := by
  obtain ⟨g, Z, rfl, hb, hg, hc, hm, hZ, ht⟩ := own_whole hown (by omega)
  have hlen := repl_len (show i + 2 ≤ l.length by omega) x
  clear hown
  have hmf := fun zs hzs => mid_facts (x := x) h9 hc hZ ht zs hzs
  unfold RepPost
  rw [show l.length - 1 = i + 1 + m by omega] at hlen ⊢
  rw [h9] at hc ⊢
  obtain ⟨hf1, hf2, hf3, hf4, -⟩ := hmf (List.replicate 6 undef) rfl
  have hs1 : ∀ W : World, (Instr.slice 37 (.slice (some ⟨g, 0, none⟩) (i + 2 + m) c) (some (.int .i64 (i : Int))) (some (.int .i64 ((i : Int) + 2))) none).run Try.prog W = .ok (.slice (cutK 6 (some ⟨g, 0, none⟩) c i) 2 (c - i)) W := fun W => by
    have := Kd.slice_lh ty_piece (some ⟨g, 0, none⟩) (i + 2 + m) c (i : Int) ((i : Int) + 2) (by omega) (by omega) (by omega) W
    rw [this]
    congr 2
    omega
  have hs2 : ∀ W : World, (Instr.slice 37 (.slice (some ⟨g, 0, none⟩) (i + 2 + m) c) none (some (.int .i64 (i : Int))) none).run Try.prog W = .ok (.slice (some ⟨g, 0, none⟩) i c) W := fun W => by
    have := Kd.slice_to ty_piece (some ⟨g, 0, none⟩) (i + 2 + m) c (i : Int) (by omega) (by omega) W
    simpa using this
  have hs3 : ∀ W : World, (Instr.slice 37 (.slice (some ⟨g, 0, none⟩) (i + 2 + m) c) (some (.int .i64 ((i : Int) + 2))) none none).run Try.prog W = .ok (.slice (some ⟨g, (i + 2) * 6, none⟩) m (c - (i + 2))) W := fun W => by
    have := Kd.slice_from ty_piece (some ⟨g, 0, none⟩) (i + 2 + m) c ((i : Int) + 2) (by omega) (by omega) W
    rw [this, show ((i : Int) + 2).toNat = i + 2 by omega, show i + 2 + m - (i + 2) = m by omega]
    unfold cutK
    rw [if_neg (by omega), Option.map_some, add_off, Nat.zero_add]
    rfl
  have hs4 : ∀ W : World, (Instr.slice 37 (.slice (some ⟨g, 0, none⟩) (i + 2 + m) c) none (some (.int .i64 ((i : Int) + 1 + (m : Int)))) none).run Try.prog W = .ok (.slice (some ⟨g, 0, none⟩) (i + 1 + m) c) W := fun W => by
    have := Kd.slice_to ty_piece (some ⟨g, 0, none⟩) (i + 2 + m) c ((i : Int) + 1 + (m : Int)) (by omega) (by omega) W
    rw [this, show ((i : Int) + 1 + (m : Int)).toNat = i + 1 + m by omega]
  have hs5 : ∀ W : World, (Instr.slice 37 (.slice (some ⟨g, 0, none⟩) (i + 1 + m) c) (some (.int .i64 (i : Int))) none none).run Try.prog W = .ok (.slice (some ⟨g, i * 6, none⟩) (1 + m) (c - i)) W := fun W => by
    have := Kd.slice_from ty_piece (some ⟨g, 0, none⟩) (i + 1 + m) c (i : Int) (by omega) (by omega) W
    rw [this, show (i : Int).toNat = i by omega, show i + 1 + m - i = 1 + m by omega]
    unfold cutK
    rw [if_neg (by omega), Option.map_some, add_off, Nat.zero_add]
    rfl
  have hs6 : ∀ W : World, (Instr.slice 37 (.slice (some ⟨g, 0, none⟩) (i + 1 + m) c) (some (.int .i64 ((i : Int) + 1))) none none).run Try.prog W = .ok (.slice (some ⟨g, (i + 1) * 6, none⟩) m (c - (i + 1))) W := fun W => by
    have := Kd.slice_from ty_piece (some ⟨g, 0, none⟩) (i + 1 + m) c ((i : Int) + 1) (by omega) (by omega) W
    rw [this, show ((i : Int) + 1).toNat = i + 1 by omega, show i + 1 + m - (i + 1) = m by omega]
    unfold cutK
    rw [if_neg (by omega), Option.map_some, add_off, Nat.zero_add]
    rfl
  have hs7 : ∀ W : World, (Instr.slice 37 (.slice (some ⟨g, 0, none⟩) (i + 2 + m) c) (some (.int .i64 ((i : Int) + 1 + (m : Int)))) none none).run Try.prog W = .ok (.slice (some ⟨g, (i + 1 + m) * 6, none⟩) 1 (c - (i + 1 + m))) W := fun W => by
    have := Kd.slice_from ty_piece (some ⟨g, 0, none⟩) (i + 2 + m) c ((i : Int) + 1 + (m : Int)) (by omega) (by omega) W
    rw [this, show ((i : Int) + 1 + (m : Int)).toNat = i + 1 + m by omega, show i + 2 + m - (i + 1 + m) = 1 by omega]
    unfold cutK
    rw [if_neg (by omega), Option.map_some, add_off, Nat.zero_add]
    rfl
  generalize cutK 6 (some ⟨g, 0, none⟩) c i = C1 at hs1
  have e1 : ((i : Int) == (i : Int) + 2) = false := by rw [beq_eq_false_iff_ne]; omega
  have e2 : ((i : Int) + 2 == (i : Int) + 2 + (m : Int)) = false := by rw [beq_eq_false_iff_ne]; omega
  have e3 : decide ((c : Int) < (i : Int) + 1 + (m : Int)) = false := decide_eq_false (by omega)
  have e4 : decide ((i : Int) + 1 ≤ (i : Int) + 2) = true := decide_eq_true (by omega)
  have i9 : (i : Int) + 2 + (m : Int) ≤ 100000 := by omega
  have HMF := Lib.hid hmf
  have HF1 := Lib.hid hf1
  have HF2 := Lib.hid hf2
  have HF3 := Lib.hid hf3
  have HF4 := Lib.hid hf4
  have HD := Lib.hid (show (pcK.row (l.drop (i + 2))).length = m * 6 by rw [pcrow_len, List.length_drop, h9]; congr 1; omega)
  have HC := Lib.hid hc
  have HM := Lib.hid hm
  have HZ := Lib.hid hZ
  have Hx := Lib.hid hx
  have Hg := Lib.hid hg
  have H0 := Lib.hid h0
  have HLE := Lib.hid hlen
  clear ht hc hm hZ hx hg hl h9 hmf hf1 hf2 hf3 hf4 h0 hlen
  go_enter Try.func36, Try.ntmps36
  have hn1 : (pc6 x).length = Nat.min 1 (1 + m) * pcK.k := by
    show 6 = min 1 (1 + m) * 6
    omega
  have hn2 : (pcK.row (l.drop (i + 2))).length = Nat.min m m * pcK.k := by
    rw [HD.out]
    show m * 6 = min m m * 6
    omega
  have HN1 := Lib.hid hn1
  have HN2 := Lib.hid hn2
  clear hn1 hn2
  go_wp2_with fail
  refine region_later w.heap.size (by kernel_rfl) (by kernel_rfl) ?_
  repeat (go_big_quiet_step (fail))
  refine wpQuiet_nil ?_
  intro x1
  have b1 := x1.below
  generalize x1.at = w1 at b1 ⊢
  clear x1
  have g0 := lt_of_block Hg.out
  have Hg1 := Lib.hid ((b1.block _ (lt_of_block Hg.out)).trans Hg.out)
  have Hx1 := Lib.hid ((b1.block _ (lt_of_block Hx.out)).trans Hx.out)
  clear Hg Hx
  go_wp2_with (refine Kd.wpList_copy ty_piece rfl (.tmp 95) (.tmp 96) rfl _ _ _ _ _ _ (by rfl) (by rfl) g (i * 6) Z _ Hg1.out (pc6 x) HN1.out (fun _ => ⟨rfl, _, rfl, src_one Hx1.out⟩) HF1.out (pc6_cell x) base w1 (Below.refl _ _) hb ?_; intro w2 v2 Hg2 b2)
  have z2 := b2.size
  have z1 := b1.size
  try go_frame
  refine region_tail 9 w2.heap.size (by kernel_rfl) (by kernel_rfl) ?_
  simp only [List.take_succ_cons, List.take_zero, List.drop_succ_cons, List.drop_zero]
  repeat (go_big_quiet_step (fail))
  refine wpQuiet_nil ?_
  intro x2
  have b3 := x2.below
  generalize x2.at = w3 at b3 ⊢
  clear x2
  have Hg3 := Lib.hid ((b3.block _ (lt_of_block Hg2.out)).trans Hg2.out)
  have HS := Lib.hid (fun j v (hv : (pcK.row (l.drop (i + 2)))[j]? = some v) => show w3.cell? ((⟨g, (i + 2) * 6, none⟩ : Addr).add j) = some v by rw [add_off, block_cell Hg3.out]; exact HF2.out j v hv)
  clear Hg1 Hx1 Hg2
  go_wp2_with (first
    | (refine Kd.wpList_copy ty_piece rfl (.tmp 103) (.tmp 106) rfl _ _ _ _ _ _ (by rfl) (by rfl) g ((i + 1) * 6) _ _ Hg3.out (pcK.row (l.drop (i + 2))) HN2.out (fun _ => ⟨rfl, _, rfl, HS.out⟩) HF3.out (pcK.row_cell _) base w3 (Below.refl _ _) hb ?_; intro w4 v4 Hg4 b4)
    | (refine Kd.wpList_clear ty_piece size_piece0 rfl (.tmp 110) rfl g ((i + 1 + m) * 6) 1 _ (by rfl) _ _ Hg4.out (by decide) HF4.out base w3 b4 hb ?_; intro w5 zs hzs Hg5 b5; have HZS := Lib.hid hzs; clear hzs))
  go_ret
  obtain ⟨-, -, -, -, m5, m6⟩ := HMF.out zs HZS.out
  have k1 := HC.out
  exact ⟨rfl, whole_own hb Hg5.out HLE.out.symm (by omega) HM.out m5 m6, ((b1.mono (by omega)).trans b2).trans ((b3.mono (by omega)).trans b5)⟩

theorem replace_any {w : World} {base : Nat} {A : Option Addr} {c i : Nat} {l : List Pc} (x : Pc) (g' : Nat) (hown : w.ownsRow base 49 pcK.k (.slice A l.length c) l.length (pcK.row l)) (hx : w.heap[g']? = some (.cells (pc6 x).toArray 49 (0, 0))) (hi : i + 2 ≤ l.length) (hl : l.length ≤ 100000) :
    Calls Try.prog 36 #[.slice A l.length c, .int .i64 (i : Int), .int .i64 ((i : Int) + 2), .slice (some ⟨g', 0, none⟩) 1 1] w (RepPost base l i x A c w) := by
  rcases Nat.eq_or_lt_of_le hi with h | h
  · exact replace_last x g' hown hx h hl
  · exact replace_mid (m := l.length - (i + 2)) x g' hown hx (by omega) (by omega) hl

end Go.Proofs.Ytggceecolfebjaa

namespace Go.Proofs.Ytggceecolfebjaa
open Go.RowKit Go.Maps
set_option maxRecDepth 100000

set_option maxHeartbeats 1000000 in
theorem cat1_any {w : World} {b : Nat} {a : Ad} (hA : ABox w b a) (x : Pc) : Calls Try.prog 31 #[.agg #[.int .u64 (u x.p.a.hi), .int .u64 (u x.p.a.lo), .bool x.p.a.v6, .int .i64 x.p.n, .int .i64 x.h, .bool x.r], .pointer (some ⟨b, 0, none⟩)] w fun e w' => e = .returned (.bool (pcon x.p a)) ∧ Below w.heap.size w w' := by
  obtain ⟨pa, pb, pc, pz⟩ := hA
  have n1 : ¬ b = w.heap.size := by omega
  go_enter Try.func31, Try.ntmps31
  go_wp2_with fail
  refine (pcon_any x.p a _).mono ?_
  rintro e w1 ⟨rfl, hw1⟩
  have b1 : Below w.heap.size w w1 := below_of (by go_grown) hw1
  go_wp2
  go_ret
  exact ⟨rfl, b1⟩
/-- Where the first one stands, or -1. -/
def IdxPost (l : List Pc) (a : Ad) (w : World) (e : Ending) (w' : World) : Prop :=
  Below w.heap.size w w' ∧ ((e = .returned (.int .i64 (-1)) ∧ ∀ j, (hj : j < l.length) → pcon l[j].p a = false) ∨ ∃ k, ∃ hk : k < l.length, e = .returned (.int .i64 (k : Int)) ∧ pcon l[k].p a = true ∧ ∀ j, (hj : j < k) → pcon (l[j]'(by omega)).p a = false)
set_option maxHeartbeats 2000000 in
theorem cindex_any {w : World} {b : Nat} {a : Ad} (hA : ABox w b a) (A : Option Addr) (c : Nat) (l : List Pc) (hr : pcK.Rd w A l) (hl : l.length ≤ 100000000) :
    Calls Try.prog 30 #[.slice A l.length c, .func (.func 31) #[] #[.pointer (some ⟨b, 0, none⟩)]] w (IdxPost l a w) := by
  have HA := Lib.hid hA
  have HR := Lib.hid hr
  clear hA hr
  unfold IdxPost
  go_enter Try.func30, Try.ntmps30
  go_wp2_with fail
  go_loopw [8] (fun i wr => ∃ k : Nat, k ≤ l.length ∧ i = .int .i64 k ∧ Hid (∀ j, (hj : j < k) → ∀ h : j < l.length, pcon l[j].p a = false) ∧ Below w.heap.size w wr) (fun i _ => l.length - (intOf i).toNat)
  case atStart => exact ⟨0, Nat.zero_le _, rfl, Lib.hid (fun j hj => absurd hj (Nat.not_lt_zero _)), Below.refl _ _⟩
  case round =>
    obtain ⟨k, hk, rfl, hno, hB⟩ := hrel
    by_cases hlt : k < l.length
    · have hlt' : (k : Int) < (l.length : Int) := by omega
      have hk0 : (0 : Int) ≤ (k : Int) := by omega
      have hk9 : (k : Int) + 1 ≤ 1000000000 := by omega
      obtain ⟨ag, ao, ae, az, a0, a1, a2, a3, a4, a5⟩ := rd6 (HR.out.keep hB (Nat.le_refl _)) hlt
      subst ae
      have HLK := Lib.hid (fun x (hx : x = l[k]) => hx)
      have ca := fun x => cat1_any (w := wr) (HA.out.keep hB) x
      have HX := Lib.hid (rfl : l[k] = l[k])
      obtain ⟨x, hx⟩ : ∃ x, l[k] = x := ⟨_, rfl⟩
      rw [hx] at a0 a1 a2 a3 a4 a5
      have CA := Lib.hid (ca x)
      have HXX := Lib.hid hx
      have HB := Lib.hid hB
      clear ca hx HX HLK
      cases hc : pcon x.p a
      · have ca := CA.out
        rw [hc] at ca
        have CB := Lib.hid ca
        have HC := Lib.hid hc
        clear ca hc CA
        go_wp2_with fail
        refine (CB.out).mono ?_
        rintro e w2 ⟨rfl, hw2⟩
        have b2 := HB.out.trans (hw2.mono HB.out.size)
        clear hw2 a0 a1 a2 a3 a4 a5
        go_wp2
        go_roundw
        case rel => exact ⟨k + 1, by omega, by go_num, Lib.hid (fun j hj h => by
          rcases Nat.lt_or_eq_of_le (Nat.le_of_lt_succ hj) with e | e
          · exact hno.out j e h
          · subst e
            rw [HXX.out]
            exact HC.out), b2⟩
        case measure => simp [intOf]; omega
      · have ca := CA.out
        rw [hc] at ca
        have CB := Lib.hid ca
        have HC := Lib.hid hc
        clear ca hc CA
        go_wp2_with fail
        refine (CB.out).mono ?_
        rintro e w2 ⟨rfl, hw2⟩
        have b2 := HB.out.trans (hw2.mono HB.out.size)
        clear hw2 a0 a1 a2 a3 a4 a5
        go_wp2
        go_ret
        exact ⟨b2, .inr ⟨k, hlt, rfl, by rw [HXX.out]; exact HC.out, fun j hj => hno.out j hj (by omega)⟩⟩
    · obtain rfl : k = l.length := by omega
      have hlt' : ¬ (l.length : Int) < (l.length : Int) := by omega
      go_wp2
      go_ret
      exact ⟨hB, .inl ⟨rfl, fun j hj => hno.out j hj hj⟩⟩
theorem atL_none {l : List Pc} {a : Ad} (h : ∀ j, (hj : j < l.length) → pcon l[j].p a = false) : atL l a = none := by
  unfold atL
  rw [List.find?_eq_none]
  intro x hx
  obtain ⟨j, hj, rfl⟩ := List.mem_iff_getElem.1 hx
  rw [h j hj]
  decide
theorem atL_some {l : List Pc} {a : Ad} {k : Nat} (hk : k < l.length) (h : pcon l[k].p a = true) (hn : ∀ j, (hj : j < k) → pcon (l[j]'(by omega)).p a = false) : atL l a = some l[k] := by
  unfold atL
  rw [List.find?_eq_some_iff_getElem]
  exact ⟨h, k, hk, rfl, fun j hj => by rw [hn j hj]; rfl⟩
def AtPost (w : World) (o : Option Pc) (e : Ending) (w' : World) : Prop := e = .returned (.tuple #[.agg #[.int .u64 (u (o.getD nilPc).p.a.hi), .int .u64 (u (o.getD nilPc).p.a.lo), .bool (o.getD nilPc).p.a.v6, .int .i64 (o.getD nilPc).p.n, .int .i64 (o.getD nilPc).h, .bool (o.getD nilPc).r], .bool o.isSome]) ∧ Below w.heap.size w w'
set_option maxHeartbeats 2000000 in
theorem cat_any (A : Option Addr) (c : Nat) (l : List Pc) (a : Ad) (w : World) (hr : pcK.Rd w A l) (hl : l.length ≤ 100000000) :
    Calls Try.prog 14 #[.slice A l.length c, .agg #[.int .u64 (u a.hi), .int .u64 (u a.lo), .bool a.v6]] w (AtPost w (atL l a)) := by
  have HR := Lib.hid hr
  clear hr
  unfold AtPost
  go_enter Try.func14, Try.ntmps14
  go_upto_region 1 with fail
  generalize hV : World.alloc _ _ = w1
  have b1 : Below w.heap.size w w1 := by subst hV; go_grown
  have HA1 : Hid (ABox w1 w.heap.size a) := Lib.hid (by subst hV; exact ⟨by go_simp <;> rfl, by go_simp <;> rfl, by go_simp <;> rfl, by go_size⟩)
  have Hq1 : Hid (CBox w1 (w.heap.size + 1) nilPc) := Lib.hid (by subst hV; unfold CBox; repeat (first | (refine hp_new ?_; (simp; done)) | (refine hp_old ?_ ?_; · (first | (simp; done) | (simp; omega)))))
  have hr1 := HR.out.keep b1 (Nat.le_refl _)
  have HR1 := Lib.hid hr1
  clear hV hr1 HR
  go_wp2_with fail
  refine (cindex_any (HA1.out) A c l HR1.out hl).mono ?_
  rintro e w2 ⟨hw2, hcase⟩
  have b2 := b1.trans (hw2.mono b1.size)
  have z2 := b2.size
  have HR2 := Lib.hid (HR1.out.kept hw2)
  have Hq2 := Lib.hid (Hq1.out.keep hw2)
  clear hw2 HR1 HA1 Hq1 b1
  rcases hcase with ⟨rfl, hn⟩ | ⟨k, hk, rfl, hc, hn⟩
  · have HO := Lib.hid (atL_none hn)
    clear hn
    go_upto_region 3 with fail
    go_wp2_with (refine wpList_row rfl _ _ _ rfl (w.heap.size + 1) _ rfl rfl 49 _ (Hq2.out) 6 size_piece rfl rfl rfl ?_; intro w9 h9 f9; have b9 : Below w.heap.size w w9 := b2.trans (f9.below (fun b hb => by omega) (by omega)); have q0 := cell_row (i := 0) h9; have q1 := cell_row (i := 1) h9; have q2 := cell_row (i := 2) h9; have q3 := cell_row (i := 3) h9; have q4 := cell_row (i := 4) h9; have q5 := cell_row (i := 5) h9; simp at q0 q1 q2 q3 q4 q5; clear f9)
    refine bodyPost_ret (v := .tuple #[.agg #[.int .u64 0, .int .u64 0, .bool false, .int .i64 0, .int .i64 0, .bool false], .bool false]) (by simp [*, results, Try.results14, go_sem] <;> rfl) rfl ⟨by rw [HO.out]; rfl, b9⟩
  · have HO := Lib.hid (atL_some hk hc hn)
    have hk' : (k : Int) < (l.length : Int) := by omega
    have hk0 : (0 : Int) ≤ (k : Int) := by omega
    have t0 : decide ((k : Int) < 0) = false := decide_eq_false (by omega)
    obtain ⟨ag, ao, ae, az, a0, a1, a2, a3, a4, a5⟩ := rd6 (HR2.out) hk
    subst ae
    obtain ⟨x, hx⟩ : ∃ x, l[k] = x := ⟨_, rfl⟩
    rw [hx] at a0 a1 a2 a3 a4 a5 HO
    clear hn hc hx
    go_upto_region 4 with fail
    go_wp2_with (refine wpList_row rfl _ _ _ rfl (w.heap.size + 1) _ rfl rfl 49 _ (Hq2.out) 6 size_piece rfl rfl rfl ?_; intro w9 h9 f9; have b9 : Below w.heap.size w w9 := b2.trans (f9.below (fun b hb => by omega) (by omega)); have q0 := cell_row (i := 0) h9; have q1 := cell_row (i := 1) h9; have q2 := cell_row (i := 2) h9; have q3 := cell_row (i := 3) h9; have q4 := cell_row (i := 4) h9; have q5 := cell_row (i := 5) h9; simp at q0 q1 q2 q3 q4 q5; clear f9)
    refine bodyPost_ret (v := .tuple #[.agg #[.int .u64 (u x.p.a.hi), .int .u64 (u x.p.a.lo), .bool x.p.a.v6, .int .i64 x.p.n, .int .i64 x.h, .bool x.r], .bool true]) (by simp [*, results, Try.results14, go_sem] <;> rfl) rfl ⟨by rw [HO.out]; rfl, b9⟩

end Go.Proofs.Ytggceecolfebjaa

namespace Go.Proofs.Ytggceecolfebjaa
open Go.RowKit

section
variable {P : Program} {ops : Array Oper} {md : Region.Mode} {C : World → Prop}

def sink1B (md : Region.Mode) (ops : Array Oper) (n : Nat) : Bool :=
  (List.range n).all fun i => i == 0 || (List.range (n + 1)).any fun j => decide (i < j) && Region.waitsFor md ops j i
structure Inv1 (md : Region.Mode) (ops : Array Oper) (n : Nat) (listed : Array Bool) : Prop where
  head : HeadInv md ops n listed
  zero : listed.getD 0 false = true
theorem Inv1.set {n i : Nat} {listed : Array Bool} (inv : Inv1 md ops n listed) (hi : i ∈ Region.ready md ops listed) (hin : i < n) : Inv1 md ops n (listed.setIfInBounds i true) :=
  ⟨inv.head.set hi hin, getD_set_true inv.zero⟩
theorem waits1 {n : Nat} {listed : Array Bool} (hs : sink1B md ops n = true) (hc : Region.chainB md ops n = true) (inv : Inv1 md ops n listed) :
    ∀ (d i : Nat), n - i = d → i < n → listed.getD i true = false → ∀ t, n ≤ t → t ∉ Region.ready md ops listed := by
  intro d
  induction d using Nat.strongRecOn with
  | _ d ih =>
    intro i hd hi hun t ht hr
    obtain ⟨_, ot, hot, hall⟩ := mem_ready.1 hr
    have htlt : t < ops.size := (Array.getElem?_eq_some_iff.1 hot).1
    have hi0 : i ≠ 0 := by
      intro e
      subst e
      have := inv.zero
      rw [getD_both hun] at this
      cases this
    by_cases htn : t = n
    · subst htn
      have h1 := List.all_eq_true.1 hs i (List.mem_range.2 hi)
      simp only [Bool.or_eq_true, beq_iff_eq] at h1
      obtain ⟨j, hj, hj2⟩ := List.any_eq_true.1 (h1.resolve_left hi0)
      simp only [Bool.and_eq_true, decide_eq_true_eq] at hj2
      obtain ⟨oj, hoj, e, he, hb, hon⟩ := Region.waitsFor_spec hj2.2
      have hjle : j ≤ t := by have := List.mem_range.1 hj; omega
      by_cases hjt : j = t
      · subst hjt
        have : oj = ot := Option.some.inj (hoj.symm.trans hot)
        subst this
        have h2 := hall e he hb
        rw [hon, getD_both hun] at h2
        cases h2
      · cases hl : listed.getD j false with
        | true =>
          have h2 := inv.head.closed j oj hoj hl e he hb
          rw [hon, getD_both hun] at h2
          cases h2
        | false =>
          have hjs : j < listed.size := by rw [inv.head.size]; omega
          exact ih (t - j) (by omega) j rfl (by omega) (getD_in hjs hl) t (Nat.le_refl _) hr
    · have h1 := List.all_eq_true.1 hc t (List.mem_range.2 htlt)
      simp only [Bool.or_eq_true, decide_eq_true_eq] at h1
      rcases h1 with h1 | h1
      · omega
      · obtain ⟨o', ho', e, he, hb, hon⟩ := Region.waitsFor_spec h1
        have : o' = ot := Option.some.inj (ho'.symm.trans hot)
        subst this
        have h2 := hall e he hb
        rw [hon, getD_both (inv.head.tail (t - 1) (by omega) (by omega))] at h2
        cases h2

theorem AnyHead.first1 {n i : Nat} {oi : Oper} {v : Value} {L : Array Bool → Act → Prop} (hi : ops[i]? = some oi) (hsel : ∀ (j : Nat) (o : Oper) cs b, ops[j]? = some o → o.op ≠ .select cs b)
    (hs : sink1B md ops n = true) (hc : Region.chainB md ops n = true) (hin : i < n) (hL : ∀ done a, L done a → ∀ j ∈ Region.ready md ops done, n ≤ j) (f : Nat) :
    ∀ (done : Array Bool) (a : Act), Inv1 md ops n done →
      (∀ j oj, ops[j]? = some oj → j ≠ i → done.getD j true = false → (∀ e ∈ oj.after, Region.binds md e = true → e.on ≠ i) → oi.apart ops oj = true) →
      i ∈ Region.ready md ops done → YieldsIn P ops C oi v a → AnyHead P md ops C n L f (done.setIfInBounds i true) (a.put oi.dst v) → AnyHead P md ops C n L (f + 1) done a := by
  induction f with
  | zero =>
    intro done a inv _ hr hy H
    refine ⟨List.ne_nil_of_mem hr, fun j hj => ?_⟩
    rcases Nat.lt_or_ge j n with hjn | hjn
    · refine ⟨hjn, ?_⟩
      by_cases e : j = i
      · subst e
        exact hy.qOp hi H
      · exact absurd (hL _ _ H j (ready_mono hj e)) (by omega)
    · exact absurd hj (waits1 hs hc inv _ i rfl hin (mem_ready.1 hr).1 j hjn)
  | succ f ih =>
    intro done a inv hfree hr hy H
    refine ⟨List.ne_nil_of_mem hr, fun j hj => ?_⟩
    rcases Nat.lt_or_ge j n with hjn | hjn
    · refine ⟨hjn, ?_⟩
      by_cases e : j = i
      · subst e
        exact hy.qOp hi H
      · obtain ⟨hjun, oj, hoj, hall⟩ := mem_ready.1 hj
        have hno : ∀ e ∈ oj.after, Region.binds md e = true → e.on ≠ i := by
          intro e he hb heq
          have h1 := hall e he hb
          rw [heq, getD_both (mem_ready.1 hr).1] at h1
          cases h1
        have h2 := qOp_put hoj (hfree j oj hoj e hjun hno) (fun cs b => hsel i oi cs b hi) (fun cs b => hsel j oj cs b hoj) hy (H.2 j (ready_mono hj e)).2
        refine qOp_mono (fun a' h3 => ih _ a' (inv.set hj hjn) (fun k ok hk hki hun hno' => hfree k ok hk hki ?_ hno') (ready_mono hr (Ne.symm e)) h3.1 ?_) h2
        · by_cases hjk : j = k
          · subst hjk; exact hjun
          · rwa [getD_set_ne true hjk] at hun
        · rw [Array.setIfInBounds_comm _ _ e]
          exact h3.2
    · exact absurd hj (waits1 hs hc inv _ i rfl hin (mem_ready.1 hr).1 j hjn)

theorem AnyHead.lex1 {n g : Nat} {R : Act → Prop} (hsel : Region.noSelect ops = true) (hs : sink1B md ops n = true) (hc : Region.chainB md ops n = true) (l : List Oper) :
    ∀ (k : Nat) (done : Array Bool) (a : Act), (∀ j, j < l.length → l[j]? = ops[k + j]?) → k + l.length = n → Inv1 md ops n done → Region.lexHead md ops g l.length k done = true →
      wpQuiet P ops C R l a → AnyHead P md ops C n (fun done' a' => Region.seqB md ops g n done' = true ∧ R a') l.length done a := by
  induction l with
  | nil =>
    intro k done a _ hk _ hB h
    obtain rfl : k = n := by simpa using hk
    exact ⟨by simpa [Region.lexHead] using hB, h⟩
  | cons o l ih =>
    intro k done a hl hk inv hB h
    have h0 : ops[k]? = some o := by simpa using (hl 0 (by simp)).symm
    simp only [List.length_cons, Region.lexHead, Bool.and_eq_true] at hB
    simp only [List.length_cons] at hk
    have hr : k ∈ Region.ready md ops done := by simpa using hB.1.1
    have hq : qOp P ops C k (wpQuiet P ops C R l) a := by unfold qOp; simp only [h0]; exact h
    obtain ⟨v, hy, hK⟩ := yieldsIn_of_qOp h0 hq
    refine AnyHead.first1 h0 (Region.noSelect_spec hsel) hs hc (by omega) (fun d' a' h' => seqB_ready h'.1) l.length done a inv (Region.free_spec h0 hB.1.2) hr hy ?_
    refine ih (k + 1) _ _ (fun j hj => ?_) (by omega) (inv.set hr (by omega)) hB.2 hK
    have := hl (j + 1) (by simp; omega)
    simpa [Nat.add_assoc, Nat.add_comm 1 j] using this

/-- What can be reckoned of the region. -/
def tail1B (ops : Array Oper) (n : Nat) : Bool :=
  Region.noSelect ops && decide (n < ops.size) && decide (1 ≤ n) && sink1B .any ops n && Region.chainB .any ops n && Region.free .any ops (Array.replicate ops.size false) 0 && (Region.ready .any ops (Array.replicate ops.size false)).contains 0 &&
    ((ops[0]?).map fun o => o.after.isEmpty).getD false && Region.lexHead .any ops (ops.size - n) (n - 1) 1 ((Array.replicate ops.size false).setIfInBounds 0 true)

theorem region_head_tail1 {id : Nat} {Q : Exit → Act → World → Prop} {a : Act} {w : World} {o0 : Oper} {l : List Oper} (n : Nat) (v : Value) (hm : P.follows .mixedOrders = true) (hB : tail1B (o0 :: l).toArray n = true) (hC : C w.drew)
    (hy : Yields P (o0 :: l).toArray o0 v a) (hQ : ∀ c a w, Q (.panic c) (a.put o0.dst v) w → Q (.panic c) a w)
    (h : wpQuiet P (o0 :: l).toArray C (fun a' => ∀ w', C w' → wpList P (o0 :: l).toArray Q (l.drop (n - 1)) a' w') (l.take (n - 1)) (a.put o0.dst v)) : (Code.region id (o0 :: l).toArray true).wp P Q a w := by
  simp only [tail1B, Bool.and_eq_true, decide_eq_true_eq] at hB
  obtain ⟨⟨⟨⟨⟨⟨⟨⟨hsel, hn⟩, hn1⟩, hs⟩, hc⟩, hfr⟩, hrd⟩, haf⟩, hlex⟩ := hB
  generalize hops : (o0 :: l).toArray = ops at *
  have hsz : ops.size = l.length + 1 := by rw [← hops]; simp
  have h00 : ops[0]? = some o0 := by rw [← hops]; simp
  have ht : (l.take (n - 1)).length = n - 1 := by simp; omega
  have hd : (l.drop (n - 1)).length = ops.size - n := by simp; omega
  have inv : Inv1 .any ops n ((Array.replicate ops.size false).setIfInBounds 0 true) := by
    refine ⟨⟨by simp, fun j oj hj hl e he hb => ?_, fun t ht' ht2 => ?_⟩, ?_⟩
    · by_cases hj0 : 0 = j
      · subst hj0
        obtain rfl : oj = o0 := Option.some.inj (hj.symm.trans h00)
        rw [h00] at haf
        simp at haf
        rw [haf] at he
        simp at he
      · rw [getD_set_ne false hj0, getD_replicate_false] at hl
        cases hl
    · rw [getD_set_ne true (by omega)]
      exact getD_in (by simpa using ht2) (getD_replicate_false _ _)
    · simp
      omega
  have H := AnyHead.lex1 (md := .any) (g := ops.size - n) hsel hs hc (l.take (n - 1)) 1 _ (a.put o0.dst v) (fun j hj => by
    rw [ht] at hj
    rw [← hops]
    simp [hj, Nat.add_comm 1 j]) (by rw [ht]; omega) inv (by rw [ht]; exact hlex) h
  refine wp_region_any hm ?_
  have K := AnyHead.any (Q := Q) (g := ops.size - n) (fun done a' w' hw' hL => by
    have := wpAny_of_seq (md := .any) (Q' := Q) (l.drop (n - 1)) n done a' w' (fun j => by
      rw [← hops, show n + j = (n - 1 + j) + 1 by omega]
      simp [List.getElem?_drop]) (by rw [hd]; exact hL.1) (hL.2 w' hw')
    rwa [hd] at this) _ _ _ w.drew hC H
  rw [ht] at K
  have K2 := wpAny_take (md := .any) (Q := Q) h00 hsel hfr hrd hQ hy K
  rw [show n - 1 + (ops.size - n) + 1 = ops.size by omega] at K2
  exact K2
end

theorem region_tail1 {P : Program} {id : Nat} {Q : Exit → Act → World → Prop} {a : Act} {w : World} {o0 : Oper} {l : List Oper} (n B : Nat) (v : Value) (hm : P.follows .mixedOrders = true) (hB : tail1B (o0 :: l).toArray n = true)
    (hy : Yields P (o0 :: l).toArray o0 v a) (hQ : ∀ c a w, Q (.panic c) (a.put o0.dst v) w → Q (.panic c) a w)
    (h : wpQuiet P (o0 :: l).toArray (fun w' => ∃ x : Later B w, w' = x.at) (fun a' => ∀ x : Later B w, wpList P (o0 :: l).toArray Q (l.drop (n - 1)) a' x.at) (l.take (n - 1)) (a.put o0.dst v)) : (Code.region id (o0 :: l).toArray true).wp P Q a w :=
  region_head_tail1 (C := fun w' => ∃ x : Later B w, w' = x.at) n v hm hB ⟨⟨w.drew, (Below.refl _ _).drew⟩, rfl⟩ hy hQ (by
    have e : (fun a' => ∀ w', (∃ x : Later B w, w' = x.at) → wpList P (o0 :: l).toArray Q (l.drop (n - 1)) a' w') = (fun a' => ∀ x : Later B w, wpList P (o0 :: l).toArray Q (l.drop (n - 1)) a' x.at) := by
      funext a'
      apply propext
      exact ⟨fun k x => k _ ⟨x, rfl⟩, fun k w' ⟨x, hx⟩ => hx ▸ k x⟩
    rw [e]
    exact h)

end Go.Proofs.Ytggceecolfebjaa

namespace Go.Proofs.Ytggceecolfebjaa
open Go.RowKit Go.Maps
set_option maxRecDepth 100000

def RowRc (w : World) (l : List Pc) (e : Ending) (w' : World) : Prop := ∃ A c, e = .returned (.slice A l.length c) ∧ w'.ownsRow w.heap.size 53 pcK.k (.slice A l.length c) l.length (pcK.row l) ∧ Below w.heap.size w w'
theorem rowpc_rd {w : World} {l : List Pc} {e : Ending} {w' : World} (h : RowPc w l e w') : ∃ A c, e = .returned (.slice A l.length c) ∧ l.length ≤ c ∧ (A = none → l = [] ∧ c = 0) ∧ pcK.Rd w' A l ∧ Below w.heap.size w w' := by
  obtain ⟨A, c, rfl, ho, hb⟩ := h
  obtain ⟨A', c', e, hle, hrd, hA⟩ := Kd.rd_own ho rfl
  simp only [Value.slice.injEq, true_and] at e
  obtain ⟨rfl, rfl⟩ := e
  refine ⟨A, c, rfl, hle, fun e => ?_, hrd, hb⟩
  rcases ho.2 with ⟨h1, h2⟩ | ⟨g, cap, cur, h1, _⟩
  · simp only [Value.slice.injEq] at h1
    exact ⟨List.eq_nil_of_length_eq_zero h2, h1.2.2⟩
  · rw [e] at h1
    simp at h1
theorem rowrc_rd {w : World} {l : List Pc} {e : Ending} {w' : World} (h : RowRc w l e w') : ∃ A c, e = .returned (.slice A l.length c) ∧ l.length ≤ c ∧ (A = none → l = [] ∧ c = 0) ∧ pcK.Rd w' A l ∧ Below w.heap.size w w' := by
  obtain ⟨A, c, rfl, ho, hb⟩ := h
  obtain ⟨A', c', e, hle, hrd, hA⟩ := Kd.rd_own ho rfl
  simp only [Value.slice.injEq, true_and] at e
  obtain ⟨rfl, rfl⟩ := e
  refine ⟨A, c, rfl, hle, fun e => ?_, hrd, hb⟩
  rcases ho.2 with ⟨h1, h2⟩ | ⟨g, cap, cur, h1, _⟩
  · simp only [Value.slice.injEq] at h1
    exact ⟨List.eq_nil_of_length_eq_zero h2, h1.2.2⟩
  · rw [e] at h1
    simp at h1
set_option maxHeartbeats 4000000 in
theorem theirs_any (A : Option Addr) (c : Nat) (l : List Pc) (w : World) (hr : pcK.Rd w A l) (hl : l.length ≤ 100000) :
    Calls Try.prog 11 #[.slice A l.length c] w (RowRc w l) := by
  have HR := Lib.hid hr
  clear hr
  go_enter Try.func11, Try.ntmps11
  go_wp2_with fail
  go_loopw [3, 4] (fun v i wr => ∃ (k : Nat) (A' : Option Addr) (c' : Nat), v = .slice A' k c' ∧ k ≤ l.length ∧ i = .int .i64 k ∧ Hid (wr.ownsRow w.heap.size 53 pcK.k (.slice A' k c') k (pcK.row (l.take k))) ∧ Below w.heap.size w wr) (fun _ i _ => l.length - (intOf i).toNat)
  case atStart => exact ⟨0, none, 0, rfl, Nat.zero_le _, rfl, Lib.hid (World.ownsRow_nil _ _ _ _), Below.refl _ _⟩
  case round =>
    obtain ⟨k, A', c', rfl, hk, rfl, ho, hB⟩ := hrel
    by_cases hlt : k < l.length
    · have hlt' : (k : Int) < (l.length : Int) := by omega
      have hk0 : (0 : Int) ≤ (k : Int) := by omega
      have hk9 : (k : Int) + 1 ≤ 1000000000 := by omega
      obtain ⟨ag, ao, ae, az, a0, a1, a2, a3, a4, a5⟩ := rd6 (HR.out.keep hB (Nat.le_refl _)) hlt
      subst ae
      have hsuc : l.take (k + 1) = l.take k ++ [l[k]] := List.take_succ_eq_append_getElem hlt
      have hlen : k = (l.take k).length := by rw [List.length_take]; omega
      obtain ⟨x, hx⟩ : ∃ x, l[k] = x := ⟨_, rfl⟩
      rw [hx] at a0 a1 a2 a3 a4 a5 hsuc
      obtain ⟨W, rfl⟩ : ∃ W, W = wr := ⟨_, rfl⟩
      have hz := hB.size
      have HS := Lib.hid hsuc
      have HLN := Lib.hid hlen
      clear hx hsuc hlen
      go_upto_region 5 with fail
      have La0 := fun x : Later W.heap.size W => (x.cell (p := ⟨ag, ao + k * 6, none⟩) az).trans a0
      have La1 := fun x : Later W.heap.size W => (x.cell (p := ⟨ag, ao + k * 6 + 1, none⟩) az).trans a1
      have La2 := fun x : Later W.heap.size W => (x.cell (p := ⟨ag, ao + k * 6 + 2, none⟩) az).trans a2
      have La3 := fun x : Later W.heap.size W => (x.cell (p := ⟨ag, ao + k * 6 + 3, none⟩) az).trans a3
      have La4 := fun x : Later W.heap.size W => (x.cell (p := ⟨ag, ao + k * 6 + 4, none⟩) az).trans a4
      have La5 := fun x : Later W.heap.size W => (x.cell (p := ⟨ag, ao + k * 6 + 5, none⟩) az).trans a5
      refine region_tail1 17 W.heap.size (.slice A' k c') (by kernel_rfl) (by kernel_rfl) (.inl ⟨rfl, fun _ => by simp [go_sem]⟩) (fun _ _ _ h => h) ?_
      simp only [Nat.reduceSub, List.take_succ_cons, List.take_zero, List.drop_succ_cons, List.drop_zero, Act.put, List.setIfInBounds_toArray, List.set_cons_succ, List.set_cons_zero]
      repeat (go_big_quiet_step (fail))
      refine wpQuiet_nil ?_
      intro y
      have hy := y.below
      clear La0 La1 La2 La3 La4 La5 a0 a1 a2 a3 a4 a5
      generalize y.at = w2 at hy ⊢
      clear y
      have b2 : Below w.heap.size w w2 := hB.trans (hy.mono hz)
      have ho2 := Lib.hid (own_block ho.out (fun b _ hl => hy.block b hl))
      have z2 := b2.size
      clear ho hlt'
      go_wp2_with (at_builtin; refine Kd.wpList_one ty_rpiece rfl (.tmp 11) (.tmp 28) rfl w.heap.size _ k (l.take k) HLN.out (by rfl) (own_block ho2.out (fun b _ hl => Below.block (B := w2.heap.size) (w := w2) (by go_grown) b hl)) _ x (by rfl) (hp_new rfl) (by omega) (by simp; omega) ?_; intro A9 c9 w9 hG; have HG := Lib.hid hG.1; have b9 : Below w.heap.size w w9 := (b2.alloc (by omega) _).trans hG.2.2.2; clear hG)
      go_roundw
      case rel => exact ⟨k + 1, A9, c9, rfl, by omega, by go_num, Lib.hid (by rw [HS.out]; exact HG.out), b9⟩
      case measure => simp [intOf]; omega
    · obtain rfl : k = l.length := by omega
      have hlt' : ¬ (l.length : Int) < (l.length : Int) := by omega
      rw [List.take_length] at ho
      go_wp2
      go_ret
      exact ⟨A', c', rfl, ho.out, hB⟩
set_option maxHeartbeats 4000000 in
theorem ours_any (A : Option Addr) (c : Nat) (l : List Pc) (w : World) (hr : pcK.Rd w A l) (hl : l.length ≤ 100000) :
    Calls Try.prog 15 #[.slice A l.length c] w (RowPc w l) := by
  have HR := Lib.hid hr
  clear hr
  go_enter Try.func15, Try.ntmps15
  go_wp2_with fail
  go_loopw [3, 4] (fun v i wr => ∃ (k : Nat) (A' : Option Addr) (c' : Nat), v = .slice A' k c' ∧ k ≤ l.length ∧ i = .int .i64 k ∧ Hid (wr.ownsRow w.heap.size 49 pcK.k (.slice A' k c') k (pcK.row (l.take k))) ∧ Below w.heap.size w wr) (fun _ i _ => l.length - (intOf i).toNat)
  case atStart => exact ⟨0, none, 0, rfl, Nat.zero_le _, rfl, Lib.hid (World.ownsRow_nil _ _ _ _), Below.refl _ _⟩
  case round =>
    obtain ⟨k, A', c', rfl, hk, rfl, ho, hB⟩ := hrel
    by_cases hlt : k < l.length
    · have hlt' : (k : Int) < (l.length : Int) := by omega
      have hk0 : (0 : Int) ≤ (k : Int) := by omega
      have hk9 : (k : Int) + 1 ≤ 1000000000 := by omega
      obtain ⟨ag, ao, ae, az, a0, a1, a2, a3, a4, a5⟩ := rd6 (HR.out.keep hB (Nat.le_refl _)) hlt
      subst ae
      have hsuc : l.take (k + 1) = l.take k ++ [l[k]] := List.take_succ_eq_append_getElem hlt
      have hlen : k = (l.take k).length := by rw [List.length_take]; omega
      obtain ⟨x, hx⟩ : ∃ x, l[k] = x := ⟨_, rfl⟩
      rw [hx] at a0 a1 a2 a3 a4 a5 hsuc
      obtain ⟨W, rfl⟩ : ∃ W, W = wr := ⟨_, rfl⟩
      have hz := hB.size
      have HS := Lib.hid hsuc
      have HLN := Lib.hid hlen
      clear hx hsuc hlen
      go_upto_region 5 with fail
      have La0 := fun x : Later W.heap.size W => (x.cell (p := ⟨ag, ao + k * 6, none⟩) az).trans a0
      have La1 := fun x : Later W.heap.size W => (x.cell (p := ⟨ag, ao + k * 6 + 1, none⟩) az).trans a1
      have La2 := fun x : Later W.heap.size W => (x.cell (p := ⟨ag, ao + k * 6 + 2, none⟩) az).trans a2
      have La3 := fun x : Later W.heap.size W => (x.cell (p := ⟨ag, ao + k * 6 + 3, none⟩) az).trans a3
      have La4 := fun x : Later W.heap.size W => (x.cell (p := ⟨ag, ao + k * 6 + 4, none⟩) az).trans a4
      have La5 := fun x : Later W.heap.size W => (x.cell (p := ⟨ag, ao + k * 6 + 5, none⟩) az).trans a5
      refine region_tail1 17 W.heap.size (.slice A' k c') (by kernel_rfl) (by kernel_rfl) (.inl ⟨rfl, fun _ => by simp [go_sem]⟩) (fun _ _ _ h => h) ?_
      simp only [Nat.reduceSub, List.take_succ_cons, List.take_zero, List.drop_succ_cons, List.drop_zero, Act.put, List.setIfInBounds_toArray, List.set_cons_succ, List.set_cons_zero]
      repeat (go_big_quiet_step (fail))
      refine wpQuiet_nil ?_
      intro y
      have hy := y.below
      clear La0 La1 La2 La3 La4 La5 a0 a1 a2 a3 a4 a5
      generalize y.at = w2 at hy ⊢
      clear y
      have b2 : Below w.heap.size w w2 := hB.trans (hy.mono hz)
      have ho2 := Lib.hid (own_block ho.out (fun b _ hl => hy.block b hl))
      have z2 := b2.size
      clear ho hlt'
      go_wp2_with (at_builtin; refine Kd.wpList_one ty_piece rfl (.tmp 11) (.tmp 28) rfl w.heap.size _ k (l.take k) HLN.out (by rfl) (own_block ho2.out (fun b _ hl => Below.block (B := w2.heap.size) (w := w2) (by go_grown) b hl)) _ x (by rfl) (hp_new rfl) (by omega) (by simp; omega) ?_; intro A9 c9 w9 hG; have HG := Lib.hid hG.1; have b9 : Below w.heap.size w w9 := (b2.alloc (by omega) _).trans hG.2.2.2; clear hG)
      go_roundw
      case rel => exact ⟨k + 1, A9, c9, rfl, by omega, by go_num, Lib.hid (by rw [HS.out]; exact HG.out), b9⟩
      case measure => simp [intOf]; omega
    · obtain rfl : k = l.length := by omega
      have hlt' : ¬ (l.length : Int) < (l.length : Int) := by omega
      rw [List.take_length] at ho
      go_wp2
      go_ret
      exact ⟨A', c', rfl, ho.out, hB⟩

end Go.Proofs.Ytggceecolfebjaa

namespace Go.Proofs.Ytggceecolfebjaa
open Go.RowKit
set_option maxRecDepth 100000

theorem row6_set {w : World} {b : Nat} {x0 x1 x2 x3 x4 x5 y0 y1 y2 y3 y4 y5 : Value} {e : TypeId} (h : w.heap[b]? = some (.cells #[x0, x1, x2, x3, x4, x5] e (0, 0))) :
    ((((((w.setCell ⟨b, 0, none⟩ y0).setCell ⟨b, 1, none⟩ y1).setCell ⟨b, 2, none⟩ y2).setCell ⟨b, 3, none⟩ y3).setCell ⟨b, 4, none⟩ y4).setCell ⟨b, 5, none⟩ y5).heap[b]? = some (.cells #[y0, y1, y2, y3, y4, y5] e (0, 0)) :=
  heap_setCell_same _ b 5 _ e y5 (heap_setCell_same _ b 4 _ e y4 (heap_setCell_same _ b 3 _ e y3 (heap_setCell_same _ b 2 _ e y2 (heap_setCell_same _ b 1 _ e y1 (heap_setCell_same w b 0 _ e y0 h)))))
theorem below_put6 {B b : Nat} {w w1 : World} {y0 y1 y2 y3 y4 y5 : Value} (h : Below B w w1) (hb : B ≤ b) : Below B w ((((((w1.setCell ⟨b, 0, none⟩ y0).setCell ⟨b, 1, none⟩ y1).setCell ⟨b, 2, none⟩ y2).setCell ⟨b, 3, none⟩ y3).setCell ⟨b, 4, none⟩ y4).setCell ⟨b, 5, none⟩ y5) :=
  (((((h.setCell (p := ⟨b, 0, none⟩) hb _).setCell (p := ⟨b, 1, none⟩) hb _).setCell (p := ⟨b, 2, none⟩) hb _).setCell (p := ⟨b, 3, none⟩) hb _).setCell (p := ⟨b, 4, none⟩) hb _).setCell (p := ⟨b, 5, none⟩) hb _
theorem six10 {w : World} {b : Nat} {x0 x1 x2 x3 x4 x5 : Value} {e : TypeId} (h : w.heap[b]? = some (.cells #[x0, x1, x2, x3, x4, x5] e (0, 0))) :
    w.cell? ⟨b, 0, none⟩ = some x0 ∧ w.cell? ⟨b, 1, none⟩ = some x1 ∧ w.cell? ⟨b, 2, none⟩ = some x2 ∧ w.cell? ⟨b, 3, none⟩ = some x3 ∧ w.cell? ⟨b, 4, none⟩ = some x4 ∧ w.cell? ⟨b, 5, none⟩ = some x5 ∧ w.frozen? ⟨b, 0, none⟩ = false ∧ w.frozen? ⟨b, 1, none⟩ = false ∧ w.frozen? ⟨b, 2, none⟩ = false ∧ w.frozen? ⟨b, 3, none⟩ = false ∧ w.frozen? ⟨b, 4, none⟩ = false ∧ w.frozen? ⟨b, 5, none⟩ = false ∧ b < w.heap.size :=
  ⟨by rw [cell_row h]; rfl, by rw [cell_row h]; rfl, by rw [cell_row h]; rfl, by rw [cell_row h]; rfl, by rw [cell_row h]; rfl, by rw [cell_row h]; rfl, frozen_of_row _ _ _ _ _ h, frozen_of_row _ _ _ _ _ h, frozen_of_row _ _ _ _ _ h, frozen_of_row _ _ _ _ _ h, frozen_of_row _ _ _ _ _ h, frozen_of_row _ _ _ _ _ h, lt_of_block h⟩

end Go.Proofs.Ytggceecolfebjaa
