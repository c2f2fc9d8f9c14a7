/-
  Rows of numbers and of bools, and boxes of four cells: what all layers want that stand on api alone. No condition.
-/
import Derived.Test.YtmmggalcebepeaaRk
import Derived.OwnWalk
namespace Go.Proofs.Ytmmggalcebepeaa
open Go.RowKit
set_option maxRecDepth 100000

def natE (i : Nat) : List Value := [.int .i64 (i : Int)]
def KN : Kd Nat := ⟨natE, 1, by decide, fun _ => rfl, fun x u h => by simp [natE] at h; subst h; rfl⟩
theorem Kd.row_set {α : Type} (K : Kd α) (l : List α) (i : Nat) (h : i < l.length) (x : α) (j : Nat) (u : Value) (hx : (K.enc l[i]).set j u = K.enc x) (hj : j < K.k) : (K.row l).set (i * K.k + j) u = K.row (l.set i x) := by
  induction l generalizing i with
  | nil => cases h
  | cons r l ih =>
    rw [K.row_cons]
    cases i with
    | zero =>
      simp only [List.getElem_cons_zero] at hx
      rw [List.set_append_left _ _ (by rw [K.len]; omega), List.set_cons_zero, K.row_cons, ← hx, Nat.zero_mul, Nat.zero_add]
    | succ i =>
      simp only [List.getElem_cons_succ] at hx
      have e : (i + 1) * K.k + j - (K.enc r).length = i * K.k + j := by rw [K.len, Nat.add_mul]; omega
      rw [List.set_append_right _ _ (by rw [K.len, Nat.add_mul]; omega), e, ih i (by simpa using h) hx, List.set_cons_succ, K.row_cons]
theorem KN_ty : KN.Ty 3 30 := Kd.ty_of info_int (by omega) rfl Try.underlying30
theorem KN_cut {w : World} {base g cap n m : Nat} {e : TypeId} {l : List Nat} (h : w.ownsRow base e 1 (.slice (some ⟨g, 0, none⟩) n cap) n (KN.row l)) (hn : n = l.length) (hm : m ≤ n) : w.ownsRow base e 1 (.slice (some ⟨g, 0, none⟩) m cap) m (KN.row (l.take m)) := by
  subst hn
  have := own_cut h hm
  have e : (KN.row l).take m = KN.row (l.take m) := by
    have e1 : l = l.take m ++ l.drop m := (List.take_append_drop m l).symm
    have e2 : KN.row l = KN.row (l.take m) ++ KN.row (l.drop m) := by rw [← KN.row_append, ← e1]
    have e3 : (KN.row (l.take m)).length = m := by rw [KN.row_len, List.length_take]; simp only [KN]; omega
    rw [e2]
    rw [List.take_append_of_le_length (by omega), List.take_of_length_le (by omega)]
  rw [e] at this
  exact this
/-- A fresh row of numbers. -/
def NatsPost (w : World) (l : List Nat) (e : Ending) (w' : World) : Prop := ∃ A c, e = .returned (.slice A l.length c) ∧ w'.ownsRow w.heap.size 3 1 (.slice A l.length c) l.length (KN.row l) ∧ Below w.heap.size w w'
/-- Rows of numbers. -/
def intE (i : Int) : List Value := [.int .i64 i]
def KI : Kd Int := ⟨intE, 1, by decide, fun _ => rfl, fun x u h => by simp [intE] at h; subst h; rfl⟩
theorem KI_ty : KI.Ty 3 30 := Kd.ty_of info_int (by omega) rfl Try.underlying30
theorem KI_cell {w : World} {base q n cap : Nat} {l : List Int} (h : w.ownsRow base 3 1 (.slice (some ⟨q, 0, none⟩) n cap) n (KI.row l)) (hn : n = l.length) (j : Nat) (hj : j < l.length) : w.cell? ⟨q, j, none⟩ = some (.int .i64 l[j]) ∧ w.frozen? ⟨q, j, none⟩ = false := by
  subst hn
  refine ⟨?_, h.frozenAt j⟩
  rw [h.cellAt j (by omega)]
  have := KI.row_at l j hj 0 (by decide)
  rw [show j * KI.k + 0 = j from by simp [KI]] at this
  exact this
theorem KI_set {w : World} {base q n cap : Nat} {l : List Int} (h : w.ownsRow base 3 1 (.slice (some ⟨q, 0, none⟩) n cap) n (KI.row l)) (j : Nat) (hj : j < l.length) (x : Int) : (w.setCell ⟨q, j, none⟩ (.int .i64 x)).ownsRow base 3 1 (.slice (some ⟨q, 0, none⟩) n cap) n (KI.row (l.set j x)) := by
  have := (h.stored j (.int .i64 x)).1
  have e := KI.row_set l j hj x 0 (.int .i64 x) rfl (by decide)
  rw [show j * KI.k + 0 = j from by simp [KI]] at e
  rw [e] at this
  exact this
def boolE (b : Bool) : List Value := [.bool b]
def KB : Kd Bool := ⟨boolE, 1, by decide, fun _ => rfl, fun x u h => by simp [boolE] at h; subst h; rfl⟩
theorem info_bool : (Try.prog.info? 4).map (fun i => (i.zero, i.size, i.bytes)) = some (some (.bool false), 1, 1) := by kernel_rfl
theorem KB_ty : KB.Ty 4 37 := Kd.ty_of info_bool (by omega) rfl Try.underlying37
theorem KN_rd {w : World} {A : Option Addr} {l : List Nat} (h : KN.Rd w A l) {k : Nat} (hk : k < l.length) : ∃ g off, A = some ⟨g, off, none⟩ ∧ g < w.heap.size ∧ w.cell? ⟨g, off + k, none⟩ = some (.int .i64 (l[k] : Int)) := by
  obtain ⟨g, off, e, hg, hc⟩ := h (by rintro rfl; cases hk)
  refine ⟨g, off, e, hg, ?_⟩
  have := hc k hk 0 (by decide)
  rw [show off + k * KN.k + 0 = off + k from by simp [KN]] at this
  exact this
theorem NatsPost.rd {w' : World} {l : List Nat} {A : Option Addr} {c : Nat} {base : Nat} (h : w'.ownsRow base 3 1 (.slice A l.length c) l.length (KN.row l)) : KN.Rd w' A l ∧ ∀ a, A = some a → base ≤ a.block ∧ a.block < w'.heap.size := by
  obtain ⟨A', c', e, -, h1, h2⟩ := KN.rd_own h rfl
  simp only [Value.slice.injEq, true_and] at e
  obtain ⟨rfl, -⟩ := e
  exact ⟨h1, fun a ha => ⟨(h2 a ha).1, (h2 a ha).2.1⟩⟩
theorem Kd.rd1 {α : Type} {K : Kd α} (h1 : K.k = 1) {w : World} {A : Option Addr} {l : List α} (h : K.Rd w A l) {k : Nat} (hk : k < l.length) : ∃ g off, A = some ⟨g, off, none⟩ ∧ g < w.heap.size ∧ w.cell? ⟨g, off + k, none⟩ = (K.enc l[k])[0]? := by
  obtain ⟨g, off, e, hg, hc⟩ := h (by rintro rfl; cases hk)
  refine ⟨g, off, e, hg, ?_⟩
  have := hc k hk 0 K.pos
  rw [h1, show off + k * 1 + 0 = off + k from by omega] at this
  exact this
theorem own_nil {w : World} {base : Nat} {e : TypeId} {size n c : Nat} {A : Option Addr} {xs : List Value} (h : w.ownsRow base e size (.slice A n c) n xs) : A = none → n = 0 ∧ c = 0 := by
  rintro rfl
  rcases h.2 with ⟨e1, -⟩ | ⟨g, cap, cur, e1, -⟩
  · simp at e1
    exact e1
  · simp at e1
theorem own_at {w : World} {base : Nat} {e : TypeId} {size n c : Nat} {A : Option Addr} {xs : List Value} (h : w.ownsRow base e size (.slice A n c) n xs) {b : Nat} (hb : A.map (·.block) = some b) : base ≤ b ∧ b < w.heap.size ∧ (Value.slice A n c).ownBlock = some b := by
  rcases h.2 with ⟨e1, -⟩ | ⟨g, cap, cur, e1, e2, e3, -⟩
  · simp at e1
    rw [e1.1] at hb
    cases hb
  · simp only [Value.slice.injEq, true_and] at e1
    obtain ⟨rfl, rfl⟩ := e1
    simp at hb
    subst hb
    exact ⟨e2, lt_of_block e3, rfl⟩
theorem Kd.own_set1 {α : Type} {K : Kd α} (h1 : K.k = 1) {w : World} {E : TypeId} {base q n cap : Nat} {l : List α} (h : w.ownsRow base E 1 (.slice (some ⟨q, 0, none⟩) n cap) n (K.row l)) (j : Nat) (hj : j < l.length) (x : α) (u : Value) (hx : K.enc x = [u]) : (w.setCell ⟨q, j, none⟩ u).ownsRow base E 1 (.slice (some ⟨q, 0, none⟩) n cap) n (K.row (l.set j x)) := by
  have := (h.stored j u).1
  have e := K.row_set l j hj x 0 u (by
    have hl := K.len l[j]
    rw [h1] at hl
    obtain ⟨y, hy⟩ := List.length_eq_one_iff.1 hl
    rw [hy, hx]
    rfl) (by omega)
  rw [h1, show j * 1 + 0 = j from by omega] at e
  rw [e] at this
  exact this
theorem ob_slice {A : Option Addr} {n n' c c' : Nat} : (Value.slice A n c).ownBlock = (Value.slice A n' c').ownBlock := by
  cases A with
  | none => rfl
  | some a => rfl
theorem four {w : World} {b : Nat} {x0 x1 x2 x3 : Value} {e : TypeId} (h : w.heap[b]? = some (.cells #[x0, x1, x2, x3] e (0, 0))) :
    w.cell? ⟨b, 0, none⟩ = some x0 ∧ w.cell? ⟨b, 1, none⟩ = some x1 ∧ w.cell? ⟨b, 2, none⟩ = some x2 ∧ w.cell? ⟨b, 3, none⟩ = some x3 ∧ w.frozen? ⟨b, 0, none⟩ = false ∧ w.frozen? ⟨b, 1, none⟩ = false ∧ w.frozen? ⟨b, 2, none⟩ = false ∧ w.frozen? ⟨b, 3, none⟩ = false ∧ b < w.heap.size :=
  ⟨by rw [cell_row h]; rfl, by rw [cell_row h]; rfl, by rw [cell_row h]; rfl, by rw [cell_row h]; rfl, frozen_of_row _ _ _ _ _ h, frozen_of_row _ _ _ _ _ h, frozen_of_row _ _ _ _ _ h, frozen_of_row _ _ _ _ _ h, lt_of_block h⟩
theorem below_put4 {B b : Nat} {w w1 : World} {y0 y1 y2 y3 : Value} (h : Below B w w1) (hb : B ≤ b) : Below B w ((((w1.setCell ⟨b, 0, none⟩ y0).setCell ⟨b, 1, none⟩ y1).setCell ⟨b, 2, none⟩ y2).setCell ⟨b, 3, none⟩ y3) :=
  (((h.setCell (p := ⟨b, 0, none⟩) hb _).setCell (p := ⟨b, 1, none⟩) hb _).setCell (p := ⟨b, 2, none⟩) hb _).setCell (p := ⟨b, 3, none⟩) hb _
theorem own_made {w : World} {g N base : Nat} {E : TypeId} {z : Value} (hg : w.heap[g]? = some (.cells (madeCells #[z] N) E (0, 0))) (hN : N ≤ 1024) (hb : base ≤ g) : w.ownsRow base E 1 (.slice (some ⟨g, 0, none⟩) N N) N (List.replicate N z) := by
  refine ⟨by simp, .inr ⟨g, N, _, rfl, hb, hg, Nat.le_refl _, by simp only [maxLen]; omega, by rw [size_madeCells, Nat.mul_one], ?_⟩⟩
  rw [toList_madeCells_one, Nat.mul_one, List.take_of_length_le (by simp)]
theorem flat_const (v : Value) (l : List Nat) : l.flatMap (fun _ => [v]) = List.replicate l.length v := by
  induction l with
  | nil => rfl
  | cons a l ih => rw [List.flatMap_cons, ih]; rfl
set_option maxHeartbeats 2000000 in
theorem ints9_any (l : List Nat) (A B : Option Addr) (ca cb : Nat) (w : World) (hA : KN.Rd w A l) (hB' : KN.Rd w B l) (hl : l.length ≤ 100000000) :
    Calls Try.prog 11 #[.slice A l.length ca, .slice B l.length cb] w fun e w' => e = .returned (.bool true) ∧ Below w.heap.size w w' := by
  have HA := Lib.hid hA
  have HB := Lib.hid hB'
  clear hA hB'
  go_enter Try.func11, Try.ntmps11
  go_wp2_with fail
  go_loopw [5] (fun i wr => ∃ k : Nat, k ≤ l.length ∧ i = .int .i64 k ∧ Below w.heap.size w wr) (fun i _ => l.length - (RowKit.intOf i).toNat)
  case atStart => exact ⟨0, Nat.zero_le _, rfl, Below.refl _ _⟩
  case round =>
    obtain ⟨k, hk, rfl, hB⟩ := hrel
    by_cases hlt : k < l.length
    · have hlt' : (k : Int) < (l.length : Int) := by omega
      have hk9 : (k : Int) + 1 ≤ 1000000000 := by omega
      obtain ⟨g, off, rfl, hg, a0⟩ := KN_rd HA.out hlt
      obtain ⟨g', off', rfl, hg', b0⟩ := KN_rd HB.out hlt
      generalize l[k] = r at a0 b0
      obtain ⟨W, rfl⟩ : ∃ W, W = wr := ⟨_, rfl⟩
      have hz := hB.size
      have A0 := fun x : Later W.heap.size W => (x.cell (p := ⟨g, off + k, none⟩) (by simp only; omega)).trans ((hB.cell (p := ⟨g, off + k, none⟩) hg).trans a0)
      have B0 := fun x : Later W.heap.size W => (x.cell (p := ⟨g', off' + k, none⟩) (by simp only; omega)).trans ((hB.cell (p := ⟨g', off' + k, none⟩) hg').trans b0)
      clear a0 b0
      go_wp2_with fail
      refine region_later W.heap.size (by kernel_rfl) (by kernel_rfl) ?_
      repeat (go_big_quiet_step (fail))
      refine wpQuiet_nil ?_
      intro x
      have hx : Below w.heap.size w x.at := hB.trans (x.below.mono hz)
      clear A0 B0
      generalize x.at = w2 at *
      clear x
      go_wp2_with fail
      refine ⟨⟨k + 1, by omega, by go_num, hx⟩, by simp [RowKit.intOf]; omega⟩
    · obtain rfl : k = l.length := by omega
      have hlt' : ¬ (l.length : Int) < (l.length : Int) := by omega
      go_wp2
      go_ret
      exact ⟨rfl, hB⟩

end Go.Proofs.Ytmmggalcebepeaa
