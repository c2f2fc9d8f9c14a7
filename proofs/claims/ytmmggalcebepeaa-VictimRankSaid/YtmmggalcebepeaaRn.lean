/-
  Append of a row to a fresh empty one ('append([]T{}, l...)'): a fresh row, and nothing else is turned. No condition.
-/
import Derived.Test.YtmmggalcebepeaaRk
namespace Go.Proofs.Ytmmggalcebepeaa
open Go.RowKit
set_option maxRecDepth 100000

theorem own_empty {w : World} {g : Nat} {E : TypeId} {k : Nat} (hg : w.heap[g]? = some (.cells #[] E (0, 0))) (base : Nat) (hb : base ≤ g) : w.ownsRow base E k (.slice (some ⟨g, 0, none⟩) 0 0) 0 [] :=
  ⟨by simp, .inr ⟨g, 0, #[], rfl, hb, hg, Nat.le_refl _, Nat.zero_le _, by simp, by simp⟩⟩
theorem own_low {w : World} {base base' : Nat} {e : TypeId} {size n : Nat} {v : Value} {xs : List Value} (h : w.ownsRow base e size v n xs) (hb : base' ≤ base) : w.ownsRow base' e size v n xs := by
  refine ⟨h.1, h.2.imp id ?_⟩
  rintro ⟨g, cap, cur, e1, e2, e3⟩
  exact ⟨g, cap, cur, e1, Nat.le_trans hb e2, e3⟩
theorem own_far {w : World} {base : Nat} {e : TypeId} {size n : Nat} {v : Value} {xs : List Value} (h : w.ownsRow base e size v n xs) {p : Addr} (hp : p.block < base) (u : Value) : (w.setCell p u).ownsRow base e size v n xs :=
  ownsRow_setCell_other h (fun e => by have := own_ge h _ e; omega) u
theorem row4_set {w : World} {b : Nat} {x0 x1 x2 x3 y0 y1 y2 y3 : Value} {e : TypeId} (h : w.heap[b]? = some (.cells #[x0, x1, x2, x3] e (0, 0))) :
    ((((w.setCell ⟨b, 0, none⟩ y0).setCell ⟨b, 1, none⟩ y1).setCell ⟨b, 2, none⟩ y2).setCell ⟨b, 3, none⟩ y3).heap[b]? = some (.cells #[y0, y1, y2, y3] e (0, 0)) :=
  heap_setCell_same _ b 3 _ e y3 (heap_setCell_same _ b 2 _ e y2 (heap_setCell_same _ b 1 _ e y1 (heap_setCell_same w b 0 _ e y0 h)))
theorem far_apart {w6 w10 V w14 : World} {o6 o14 : Option Nat} {n : Nat} (h1 : Below w6.heap.size w6 w10) (h2 : Below w10.heap.size w10 V) (_ : Below V.heap.size V w14) (hl : ∀ b, o6 = some b → b < w6.heap.size) (hn : 0 < n → ∀ b, o14 = some b → V.heap.size ≤ b) : 0 < n → ∀ b, o6 = some b → o14 ≠ some b := fun h0 b e1 e2 => by
  have := hl b e1
  have := hn h0 b e2
  have := h1.size
  have := h2.size
  omega
theorem apart_zero {w : World} {base m c6 c14 n : Nat} {E E' : TypeId} {A6 A14 : Option Addr} {xs ys : List Value} (hA : w.ownsRow base E 1 (.slice A6 m c6) m xs) (hC : w.ownsRow base E' 1 (.slice A14 n c14) n ys) (hm : 0 < m) (h0 : c14 = 0) : ∀ b, (Value.slice A6 m c6).ownBlock = some b → (Value.slice A14 n c14).ownBlock ≠ some b := by
  subst h0
  intro b e1 e2
  rcases hA.2 with ⟨e, -⟩ | ⟨g, cap, cur, e, -, h1, h2, -, h3, -⟩
  · simp at e
    omega
  · rcases hC.2 with ⟨e', -⟩ | ⟨g', cap', cur', e', -, h1', h2', -, h3', -⟩
    · rw [e'] at e2
      simp [Value.ownBlock] at e2
    · rw [e] at e1
      rw [e'] at e2
      simp only [Value.ownBlock, Option.some.injEq] at e1 e2
      subst e1
      subst e2
      rw [h1] at h1'
      simp only [Option.some.injEq, Obj.cells.injEq, and_true] at h1'
      simp only [Value.slice.injEq] at e'
      rw [← h1'.1] at h3'
      omega
/-- A fresh empty row lies there. -/
def Emp (w : World) (g : Nat) (T : TypeId) : Prop := w.heap[g]? = some (.cells #[] T (0, 0))
theorem Emp.made {w : World} {g : Nat} {T : TypeId} (h : g = w.heap.size) : Emp (w.alloc (.cells #[] T (0, 0))) g T := hp_new h
theorem Emp.drew {w : World} {g : Nat} {T : TypeId} (h : Emp w g T) : Emp w.drew g T := h
theorem Emp.alloc {w : World} {g : Nat} {T : TypeId} {o : Obj} (h : Emp w g T) : Emp (w.alloc o) g T := hp_old (lt_of_block h) h
theorem Emp.below {w w' : World} {g : Nat} {T : TypeId} (h : Emp w g T) (hb : Below w.heap.size w w') : Emp w' g T := (hb.block _ (lt_of_block h)).trans h
theorem below_alloc {B : Nat} {a w : World} {o : Obj} (h : Below B a w) (hB : B ≤ a.heap.size) : Below B a (w.alloc o) := h.alloc (Nat.le_trans hB h.size) o
section
variable {α : Type} {K : Kd α}
theorem Kd.append0 {E SL : TypeId} (F : K.Ty E SL) (W : World) (base g : Nat) (hg : W.heap[g]? = some (.cells #[] E (0, 0))) (hbg : base ≤ g) (b : List α) (ty : TypeId) (A : Option Addr) (m c : Nat) (hm : m = b.length) (hA : A = none → m = 0 ∧ c = 0) (h2 : K.Rd W A b) (hb : m ≤ 1000000000) :
    ∃ v' w', (Builtin.append_ #[SL, SL] ty #[.slice (some ⟨g, 0, none⟩) 0 0, .slice A m c]).run Try.prog W = .ok v' w' ∧ w'.ownsRow base E K.k v' m (K.row b) ∧ Below W.heap.size W w' ∧ (0 < m → ∀ k, v'.ownBlock = some k → W.heap.size ≤ k) ∧ (m = 0 → v' = .slice (some ⟨g, 0, none⟩) 0 0) := by
  obtain ⟨i0, z0, hi0, hz0, hz1, hz2, hz3⟩ := F.info
  have hgz := lt_of_block hg
  rcases Nat.eq_zero_or_pos m with h0 | h0
  · subst h0
    have e : b = [] := List.eq_nil_of_length_eq_zero hm.symm
    subst e
    refine ⟨.slice (some ⟨g, 0, none⟩) 0 0, W, ?_, own_empty hg base hbg, Below.refl _ _, fun h => absurd h (Nat.lt_irrefl _), fun _ => rfl⟩
    cases A with
    | none => simp [Builtin.append_, run_underlying F.sl, sizeOf, typeInfo, hi0, Builtin.lenOf, Builtin.firstCells, storeCells]
    | some ad => simp [Builtin.append_, run_underlying F.sl, sizeOf, typeInfo, hi0, Builtin.lenOf, Builtin.firstCells, storeCells, loadCells, loadCellsFrom]
  · cases A with
    | none => have := (hA rfl).1; omega
    | some ad =>
      subst hm
      have hsize : base ≤ W.heap.size := by omega
      have hown := own_empty (k := K.k) hg base hbg
      obtain ⟨v', w', e1, e2, e3, _, e5⟩ := run_append_own_at (P := Try.prog) W base SL ty E i0 z0 K.k i0.bytes F.sl hi0 hz0 hz1 rfl hz3 K.pos _ 0 [] hown ad b.length c (K.row b) (K.row_len b) h2.news (K.row_cell b) (by simp only [maxLen]; omega) (by rw [Nat.zero_add]; exact Nat.le_trans (Nat.mul_le_mul hb hz2) (by decide)) hsize
      have hr := run_append_grow (P := Try.prog) W SL ty E i0 z0 F.sl hi0 hz0 ⟨g, 0, none⟩ 0 0 [] (by simp) (fun j u hj => by simp at hj) ad b.length c (K.row b) (by rw [hz1]; exact K.row_len b) h2.news (by omega) (by omega) (growslice_fits (by omega) (by rw [Nat.zero_add]; exact Nat.le_trans (Nat.mul_le_mul hb hz2) (by decide)))
      rw [e1] at hr
      simp only [Result.ok.injEq] at hr
      obtain ⟨rfl, rfl⟩ := hr
      exact ⟨_, _, e1, by simpa using e2, ((Below.refl _ _).drew).alloc (Nat.le_refl _) _, fun _ k hk => by simp only [Value.ownBlock, Option.some.injEq] at hk; omega, fun h => by omega⟩
variable {ops : Array Oper} {o : Oper} {a : Act} {w : World} {Q : Exit → Act → World → Prop}
theorem Kd.step_zero {E SL : TypeId} (F : K.Ty E SL) {L : Act → World → Prop} {X : Prop} (hgd : o.guard = none) (s x : Operand) (ho : o.op = .call { callee := .builtin .append, args := #[s, x], argTypes := #[SL, SL] }) (base g : Nat) (hs : a.eval s = .slice (some ⟨g, 0, none⟩) 0 0) (hg : Emp w g E) (hbg : base ≤ g)
    (A : Option Addr) (m c : Nat) (b : List α) (hm : m = b.length) (hA : A = none → m = 0 ∧ c = 0) (hx : a.eval x = .slice A m c) (h2 : K.Rd w A b) (hb : m ≤ 1000000000)
    (h : ∀ A' c' w', w'.ownsRow base E K.k (.slice A' m c') m (K.row b) → Below w.heap.size w w' → (0 < m → ∀ k, (Value.slice A' m c').ownBlock = some k → w.heap.size ≤ k) → (m = 0 → c' = 0) → L (a.put o.dst (.slice A' m c')) w') : if Region.wanted o (yielded ops a.tmps) = true then Oper.wp Try.prog o a w L Q else X := by
  have hw : Region.wanted o (yielded ops a.tmps) = true := by simp [Region.wanted, hgd]
  rw [if_pos hw]
  obtain ⟨v', w', e1, e2, e3, e4, e5⟩ := Kd.append0 F w base g hg hbg b o.type A m c hm hA h2 hb
  unfold Oper.wp execOp
  simp only [ho, resolve, invoke, builtin, Sem.run_bind, Sem.run_pure, Result.andThen_ok, List.map_toArray, List.map_cons, List.map_nil, hs, hx, e1]
  obtain ⟨A', c', rfl⟩ := val_of e2
  exact h A' c' w' e2 e3 e4 (fun h => by have := e5 h; simp only [Value.slice.injEq] at this; exact this.2.2)
end

end Go.Proofs.Ytmmggalcebepeaa
