/-
  Places that a client made, beside blocks of the client's own: call by call. Condition: as said.
-/
import Derived.Test.YtebgkoimphjagaaSf
namespace Go.Proofs.Ytebgkoimphjagaa
open Go.RowKit
set_option maxRecDepth 100000

/-- Places that were made since the world w0; the blocks of X are others. -/
def WX (X : Nat → Prop) (w0 : World) (t : Nat) (s : Sl) (wr : World) : Prop := s.Ok ∧ ∃ S, SlS wr t S s ∧ (∀ b, S b → w0.heap.size ≤ b ∧ ¬ X b) ∧ (∀ b, X b → b < wr.heap.size) ∧ Below w0.heap.size w0 wr
section
variable {X : Nat → Prop} {w0 wr : World} {t : Nat} {s : Sl}
theorem WX.w9 (h : WX X w0 t s wr) : W9 w0 t s wr := by
  obtain ⟨hk, S, h1, h2, h3, h4⟩ := h
  exact ⟨hk, S, h1, fun b hb => (h2 b hb).1, h4⟩
theorem WX.below (h : WX X w0 t s wr) : Below w0.heap.size w0 wr := h.w9.below
/-- Other blocks, of the client's, or new. -/
theorem WX.turn (h : WX X w0 t s wr) {X' : Nat → Prop} {w1 : World} (hb : Below wr.heap.size wr w1) (h1 : ∀ b, X' b → X b ∨ wr.heap.size ≤ b) (h2 : ∀ b, X' b → b < w1.heap.size) : WX X' w0 t s w1 := by
  obtain ⟨hk, S, g1, g2, g3, g4⟩ := h
  refine ⟨hk, S, g1.keep hb, fun b hS => ⟨(g2 b hS).1, fun hX => ?_⟩, h2, g4.trans (hb.mono g4.size)⟩
  rcases h1 b hX with e | e
  · exact (g2 b hS).2 e
  · have := g1.lt b hS
    omega
theorem WX.keep (h : WX X w0 t s wr) {w1 : World} (hb : Below wr.heap.size wr w1) : WX X w0 t s w1 :=
  h.turn hb (fun _ hx => .inl hx) (fun b hx => by obtain ⟨-, S, -, -, g3, -⟩ := h; exact Nat.lt_of_lt_of_le (g3 b hx) hb.size)
theorem W9.wx (h : W9 w0 t s wr) {X' : Nat → Prop} {w1 : World} (hb : Below wr.heap.size wr w1) (h1 : ∀ b, X' b → wr.heap.size ≤ b) (h2 : ∀ b, X' b → b < w1.heap.size) : WX X' w0 t s w1 := by
  obtain ⟨hk, S, g1, g2, g3⟩ := h
  refine ⟨hk, S, g1.keep hb, fun b hS => ⟨g2 b hS, fun hX => ?_⟩, h2, g3.trans (hb.mono g3.size)⟩
  have := g1.lt b hS
  have := h1 b hX
  omega
theorem WX.post (h : WX X w0 t s wr) {S : Nat → Prop} (hN : ∀ b, S b → w0.heap.size ≤ b ∧ ¬ X b) {s' : Sl} {S' : Nat → Prop} {w1 : World} (hk : s'.Ok) (g1 : SlS w1 t S' s') (g2 : Frm S wr w1) (g3 : Sub S S' wr.heap.size) : WX X w0 t s' w1 ∧ ∀ b, X b → w1.heap[b]? = wr.heap[b]? := by
  have hz := h.below.size
  have hX : ∀ b, X b → b < wr.heap.size := by obtain ⟨-, S, -, -, g3, -⟩ := h; exact g3
  have hn : ∀ b, S' b → w0.heap.size ≤ b ∧ ¬ X b := fun b hb => by
    rcases g3 b hb with e | e
    · exact hN b e
    · exact ⟨by omega, fun hx => by have := hX b hx; omega⟩
  exact ⟨⟨hk, S', g1, hn, fun b hx => Nat.lt_of_lt_of_le (hX b hx) g2.size, h.below.trans (g2.below (fun b hb => (hN b hb).1) hz)⟩, fun b hx => g2.block b (hX b hx) (fun e => (hN b e).2 hx)⟩
/-- A cell of the client's own is stored. -/
theorem WX.setCell (h : WX X w0 t s wr) {q : Nat} (hq : X q) (hq0 : w0.heap.size ≤ q) (j : Nat) (u : Value) : WX X w0 t s (wr.setCell ⟨q, j, none⟩ u) := by
  obtain ⟨hk, S, g1, g2, g3, g4⟩ := h
  have hF : Frm (fun b => b = q) wr (wr.setCell ⟨q, j, none⟩ u) := Frm.setCell (S := fun b => b = q) (Frm.refl _ _) (p := ⟨q, j, none⟩) (.inl rfl) u
  exact ⟨hk, S, g1.frm hF (fun b hS e => by subst e; exact (g2 b hS).2 hq), g2, fun b hx => Nat.lt_of_lt_of_le (g3 b hx) hF.size, g4.trans (hF.below (fun b e => by subst e; exact hq0) g4.size)⟩
theorem wx_take (h : WX X w0 t s wr) (x : Int) : Calls Try.prog 11 #[.pointer (some ⟨t, 0, none⟩), .int .i64 x] wr fun e w' => e = .returned (.tuple #[.int .i64 s.tookI, .bool s.took]) ∧ WX X w0 t (s.take x) w' ∧ ∀ b, X b → w'.heap[b]? = wr.heap[b]? := by
  obtain ⟨hk, S, h1, h2, h3, h4⟩ := id h
  exact (sltake_any wr t S s h1 hk x).mono fun _ _ ⟨he, S', g1, g2, g3⟩ => ⟨he, h.post h2 (sltake_ok hk x) g1 g2 g3⟩
theorem wx_give (h : WX X w0 t s wr) (i : Int) : Calls Try.prog 13 #[.pointer (some ⟨t, 0, none⟩), .int .i64 i] wr fun e w' => e = .returned (.bool (s.has i)) ∧ WX X w0 t (s.give i) w' ∧ ∀ b, X b → w'.heap[b]? = wr.heap[b]? := by
  obtain ⟨hk, S, h1, h2, h3, h4⟩ := id h
  exact (slgive_any wr t S s h1 hk i).mono fun _ _ ⟨he, S', g1, g2, g3⟩ => ⟨he, h.post h2 (give_ok hk i) g1 g2 g3⟩
theorem wx_swap (h : WX X w0 t s wr) (i x : Int) : Calls Try.prog 15 #[.pointer (some ⟨t, 0, none⟩), .int .i64 i, .int .i64 x] wr fun e w' => e = .returned (.bool (s.has i)) ∧ WX X w0 t (s.swap i x) w' ∧ ∀ b, X b → w'.heap[b]? = wr.heap[b]? := by
  obtain ⟨hk, S, h1, h2, h3, h4⟩ := id h
  exact (slswap_any wr t S s h1 i x).mono fun _ _ ⟨he, S', g1, g2, g3⟩ => ⟨he, h.post h2 (swap_ok hk i x) g1 g2 g3⟩
end
/-- Rows of numbers. -/
def intE (i : Int) : List Value := [.int .i64 i]
def KI : Kd Int := ⟨intE, 1, by decide, fun _ => rfl, fun x u h => by simp [intE] at h; subst h; rfl⟩
theorem KI_ty : KI.Ty 3 26 := Kd.ty_of info_int (by omega) rfl Try.underlying26
theorem KI_cell {w : World} {base q n cap : Nat} {l : List Int} (h : w.ownsRow base 3 1 (.slice (some ⟨q, 0, none⟩) n cap) n (KI.row l)) (hn : n = l.length) (j : Nat) (hj : j < l.length) : w.cell? ⟨q, j, none⟩ = some (.int .i64 l[j]) ∧ w.frozen? ⟨q, j, none⟩ = false := by
  subst hn
  refine ⟨?_, h.frozenAt j⟩
  rw [h.cellAt j (by omega)]
  have := KI.row_at l j hj 0 (by decide)
  rw [show j * KI.k + 0 = j from by simp [KI]] at this
  exact this
theorem KI_set {w : World} {base q n cap : Nat} {l : List Int} (h : w.ownsRow base 3 1 (.slice (some ⟨q, 0, none⟩) n cap) n (KI.row l)) (j : Nat) (hj : j < l.length) (x : Int) : (w.setCell ⟨q, j, none⟩ (.int .i64 x)).ownsRow base 3 1 (.slice (some ⟨q, 0, none⟩) n cap) n (KI.row (l.set j x)) := by
  have := (h.stored j (.int .i64 x)).1
  have e := KI.row_set l j hj x 0 (.int .i64 x) rfl (by decide)
  rw [show j * KI.k + 0 = j from by simp [KI]] at e
  rw [e] at this
  exact this
/-- What is where, by the client's own book. -/
def whS (s : Sl) : List Int := (List.range s.most).map fun j => if (s.atN j).is = true then (s.atN j).x else -1
theorem whS_len (s : Sl) : (whS s).length = s.most := by simp [whS]
theorem whS_at (s : Sl) (j : Nat) (h : j < (whS s).length) : (whS s)[j] = if (s.atN j).is = true then (s.atN j).x else -1 := by simp [whS]
theorem whS_set {s s' : Sl} (hm : s'.most = s.most) (i : Nat) (p : Plc) (hat : ∀ j, s'.atN j = if j = i then p else s.atN j) : whS s' = (whS s).set i (if p.is = true then p.x else -1) := by
  apply List.ext_getElem
  · simp [whS, hm]
  · intro j h1 h2
    rw [whS_at, List.getElem_set, hat]
    by_cases e : j = i
    · subst e; simp
    · have e2 : ¬ i = j := fun h => e h.symm
      rw [whS_at]
      simp [e, e2]
theorem usedK_ext (s : Sl) (k : Nat) (h : s.pl.length ≤ k) : s.usedK k = s.used := by
  obtain ⟨d, rfl⟩ : ∃ d, k = s.pl.length + d := ⟨k - s.pl.length, by omega⟩
  clear h
  induction d with
  | zero => rfl
  | succ d ih =>
    rw [show s.pl.length + (d + 1) = s.pl.length + d + 1 from by omega, usedK_succ, if_neg (by rw [atN_out s _ (by omega)]; simp [plz])]
    exact ih

end Go.Proofs.Ytebgkoimphjagaa
