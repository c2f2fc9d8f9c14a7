/-
  Rows of elements of whatever kind, each of so many cells: how they lie in memory, and what append makes of them. No condition.
-/
import Derived.Test.YtmmggalcebepeaaFr
import Derived.OneCell
namespace Go.Proofs.Ytmmggalcebepeaa
open Go.RowKit
set_option maxRecDepth 100000

/-- How an element lies in cells. -/
structure Kd (α : Type) where
  enc : α → List Value
  k : Nat
  pos : 0 < k
  len : ∀ x, (enc x).length = k
  cell : ∀ x, ∀ u ∈ enc x, u.oneCell' = true
section
variable {α : Type} (K : Kd α)
def Kd.row (l : List α) : List Value := l.flatMap K.enc
theorem Kd.row_append (a b : List α) : K.row (a ++ b) = K.row a ++ K.row b := List.flatMap_append
theorem Kd.row_one (a : α) : K.row [a] = K.enc a := by simp [Kd.row]
theorem Kd.row_cons (a : α) (l : List α) : K.row (a :: l) = K.enc a ++ K.row l := rfl
theorem Kd.row_len (l : List α) : (K.row l).length = l.length * K.k := by
  induction l with
  | nil => simp [Kd.row]
  | cons r l ih => rw [K.row_cons, List.length_append, ih, K.len, List.length_cons, Nat.add_mul]; omega
theorem Kd.row_at (l : List α) (i : Nat) (h : i < l.length) (j : Nat) (hj : j < K.k) : (K.row l)[i * K.k + j]? = (K.enc l[i])[j]? := by
  induction l generalizing i with
  | nil => cases h
  | cons r l ih =>
    rw [K.row_cons]
    cases i with
    | zero => rw [List.getElem?_append_left (by rw [K.len]; omega)]; simp
    | succ i =>
      rw [List.getElem?_append_right (by rw [K.len, Nat.add_mul]; omega)]
      have e : (i + 1) * K.k + j - (K.enc r).length = i * K.k + j := by rw [K.len, Nat.add_mul]; omega
      rw [e, ih i (by simpa using h)]
      rfl
theorem Kd.row_cell (l : List α) : ∀ u ∈ K.row l, u.oneCell' = true := by
  intro u hu
  obtain ⟨x, _, hx⟩ := List.mem_flatMap.1 hu
  exact K.cell x u hx
/-- A type of these elements, and the one of their slices. -/
structure Kd.Ty (E SL : TypeId) : Prop where
  info : ∃ (i : TypeInfo) (z : Value), Try.prog.info? E = some i ∧ i.zero = some z ∧ i.size = K.k ∧ i.bytes ≤ 140000 ∧ z.cells.size = K.k
  sl : Try.prog.underlying SL = some (.slice E)
/-- Elements that lie in memory, as a slice says. -/
def Kd.Rd (w : World) (A : Option Addr) (l : List α) : Prop :=
  l ≠ [] → ∃ g off, A = some ⟨g, off, none⟩ ∧ g < w.heap.size ∧ ∀ i, (h : i < l.length) → ∀ j, j < K.k → w.cell? ⟨g, off + i * K.k + j, none⟩ = (K.enc l[i])[j]?
variable {K}
theorem Kd.Rd.keep {B : Nat} {w w' : World} {A : Option Addr} {l : List α} (h : K.Rd w A l) (hb : Below B w w') (hB : w.heap.size ≤ B) : K.Rd w' A l := fun hn => by
  obtain ⟨g, off, e, hg, hc⟩ := h hn
  refine ⟨g, off, e, Nat.lt_of_lt_of_le hg hb.size, fun i hi j hj => ?_⟩
  exact (hb.cell (p := ⟨g, off + i * K.k + j, none⟩) (Nat.lt_of_lt_of_le hg hB)).trans (hc i hi j hj)
theorem Kd.Rd.kept {w w' : World} {A : Option Addr} {l : List α} (h : K.Rd w A l) (hb : Below w.heap.size w w') : K.Rd w' A l := h.keep hb (Nat.le_refl _)
/-- It lies below a bound, and so stays. -/
theorem Kd.Rd.under {B : Nat} {w w' : World} {A : Option Addr} {l : List α} (h : K.Rd w A l) (hA : ∀ a, A = some a → a.block < B) (hb : Below B w w') : K.Rd w' A l := fun hn => by
  obtain ⟨g, off, e, hg, hc⟩ := h hn
  have hgB := hA _ e
  exact ⟨g, off, e, Nat.lt_of_lt_of_le hg hb.size, fun i hi j hj => (hb.cell (p := ⟨g, off + i * K.k + j, none⟩) hgB).trans (hc i hi j hj)⟩
theorem Kd.Rd.frm {S : Nat → Prop} {w w' : World} {A : Option Addr} {l : List α} (h : K.Rd w A l) (hf : Frm S w w') (hn : ∀ a, A = some a → ¬ S a.block) : K.Rd w' A l := fun hl => by
  obtain ⟨g, off, e, hg, hc⟩ := h hl
  exact ⟨g, off, e, Nat.lt_of_lt_of_le hg hf.size, fun i hi j hj => (hf.cell (p := ⟨g, off + i * K.k + j, none⟩) hg (hn ⟨g, off, none⟩ e)).trans (hc i hi j hj)⟩
theorem Kd.rd_nil (w : World) (A : Option Addr) : K.Rd w A [] := fun h => absurd rfl h
theorem Kd.rd_own {w : World} {base : Nat} {E : TypeId} {v : Value} {n : Nat} {l : List α} (h : w.ownsRow base E K.k v n (K.row l)) (hn : n = l.length) : ∃ A c, v = .slice A n c ∧ n ≤ c ∧ K.Rd w A l ∧ (∀ a, A = some a → base ≤ a.block ∧ a.block < w.heap.size ∧ a = ⟨a.block, 0, none⟩) := by
  subst hn
  have hw := h
  rcases h.2 with ⟨rfl, h0⟩ | ⟨g, cap, cur, rfl, hb, hg, hnc, _⟩
  · obtain rfl := List.eq_nil_of_length_eq_zero h0
    exact ⟨none, 0, rfl, Nat.le_refl _, Kd.rd_nil _ _, fun a e => by cases e⟩
  · have hlt := (hw.lt g rfl).2
    refine ⟨some ⟨g, 0, none⟩, cap, rfl, hnc, fun _ => ⟨g, 0, rfl, hlt, fun i hi j hj => ?_⟩, fun a e => by cases e; exact ⟨hb, hlt, rfl⟩⟩
    have hlt2 : i * K.k + j < l.length * K.k := Nat.lt_of_lt_of_le (by rw [show (i + 1) * K.k = i * K.k + K.k from by rw [Nat.add_mul]; omega]; omega : i * K.k + j < (i + 1) * K.k) (Nat.mul_le_mul_right _ (by omega))
    rw [Nat.zero_add, hw.cellAt (i * K.k + j) hlt2, K.row_at l i hi j hj]
theorem Kd.Rd.news {w : World} {ad : Addr} {l : List α} (h : K.Rd w (some ad) l) : ∀ j u, (K.row l)[j]? = some u → w.cell? (ad.add j) = some u := fun j u hu => by
  have hj : j < l.length * K.k := by
    have := (List.getElem?_eq_some_iff.1 hu).1
    rwa [K.row_len] at this
  have hl : l ≠ [] := by rintro rfl; simp at hj
  obtain ⟨g, off, e, hg, hc⟩ := h hl
  cases e
  have hi : j / K.k < l.length := (Nat.div_lt_iff_lt_mul K.pos).2 hj
  have e1 : j / K.k * K.k + j % K.k = j := Nat.div_add_mod' j K.k
  have := hc (j / K.k) hi (j % K.k) (Nat.mod_lt _ K.pos)
  rw [← K.row_at l (j / K.k) hi (j % K.k) (Nat.mod_lt _ K.pos), e1] at this
  have hadd : (⟨g, off, none⟩ : Addr).add j = ⟨g, off + (j / K.k) * K.k + j % K.k, none⟩ := by
    have hadd' : (⟨g, off, none⟩ : Addr).add j = ⟨g, off + j, none⟩ := by unfold Addr.add; split <;> simp_all
    rw [hadd', Nat.add_assoc, e1]
  rw [hadd, this]
  exact hu
theorem Kd.Rd.drop {w : World} {g off : Nat} {l : List α} (h : K.Rd w (some ⟨g, off, none⟩) l) (n : Nat) : K.Rd w (some ⟨g, off + n * K.k, none⟩) (l.drop n) := fun hl => by
  obtain ⟨g', off', e, hg, hc⟩ := h (by rintro rfl; simp at hl)
  cases e
  refine ⟨g, _, rfl, hg, fun i hi j hj => ?_⟩
  rw [List.length_drop] at hi
  have := hc (n + i) (by omega) j hj
  rw [List.getElem_drop, ← this]
  congr 2
  rw [Nat.add_mul]
  omega
theorem Kd.Rd.take {w : World} {A : Option Addr} {l : List α} (h : K.Rd w A l) (n : Nat) : K.Rd w A (l.take n) := fun hl => by
  obtain ⟨g', off', e, hg, hc⟩ := h (by rintro rfl; simp at hl)
  refine ⟨g', _, e, hg, fun i hi j hj => ?_⟩
  rw [List.length_take] at hi
  rw [List.getElem_take]
  exact hc i (by omega) j hj

/-- A row laid behind a row. -/
theorem Kd.append {E SL : TypeId} (F : K.Ty E SL) (W : World) (base : Nat) (v : Value) (n : Nat) (a b : List α) (ty : TypeId) (hn : n = a.length) (hown : W.ownsRow base E K.k v n (K.row a)) (A : Option Addr) (m c : Nat) (hm : m = b.length) (hA : A = none → m = 0 ∧ c = 0) (h2 : K.Rd W A b) (hb : n + m ≤ 1000000000) (hbase : base ≤ W.heap.size) :
    ∃ v' w', (Builtin.append_ #[SL, SL] ty #[v, .slice A m c]).run Try.prog W = .ok v' w' ∧ w'.ownsRow base E K.k v' (n + m) (K.row (a ++ b)) ∧ W.grownBy w' v.ownBlock ∧ (v'.ownBlock = v.ownBlock ∨ v'.ownBlock = some W.heap.size) := by
  subst hn
  subst hm
  obtain ⟨i0, z0, hi0, hz0, hz1, hz2, hz3⟩ := F.info
  cases A with
  | none =>
    obtain ⟨hn, rfl⟩ := hA rfl
    have e : b = [] := List.eq_nil_of_length_eq_zero hn
    subst e
    refine ⟨v, W, ?_, by simpa using hown, World.grownBy.refl W _, .inl rfl⟩
    rcases hown.2 with ⟨rfl, h0⟩ | ⟨g, cap, cur, rfl, _, _, hnc, _⟩
    · simp [Builtin.append_, run_underlying F.sl, sizeOf, typeInfo, hi0, Builtin.lenOf, Builtin.firstCells]
    · simp [Builtin.append_, run_underlying F.sl, sizeOf, typeInfo, hi0, Builtin.lenOf, Builtin.firstCells, hnc, storeCells]
  | some ad =>
    obtain ⟨v', w', e1, e2, e3, _, e5⟩ := run_append_own_at (P := Try.prog) W base SL ty E i0 z0 K.k i0.bytes F.sl hi0 hz0 hz1 rfl hz3 K.pos v a.length _ hown ad b.length c (K.row b) (K.row_len b) h2.news (K.row_cell b) (by simp only [maxLen]; omega) (Nat.le_trans (Nat.mul_le_mul hb hz2) (by decide)) hbase
    exact ⟨v', w', e1, by rw [K.row_append]; exact e2, e3, e5⟩
variable {ops : Array Oper} {o : Oper} {a : Act} {w : World} {Q : Exit → Act → World → Prop}
theorem val_of {w : World} {base : Nat} {e : TypeId} {size n : Nat} {v : Value} {xs : List Value} (h : w.ownsRow base e size v n xs) : ∃ A c, v = .slice A n c := by
  rcases h.2 with ⟨rfl, rfl⟩ | ⟨g, cap, cur, rfl, _⟩
  · exact ⟨_, _, rfl⟩
  · exact ⟨_, _, rfl⟩
/-- What append leaves: the row, and which blocks have turned. -/
def Kd.Grew (K : Kd α) (E : TypeId) (base : Nat) (v : Value) (n : Nat) (l : List α) (w : World) (v' : Value) (w' : World) : Prop :=
  w'.ownsRow base E K.k v' n (K.row l) ∧ w.grownBy w' v.ownBlock ∧ (v'.ownBlock = v.ownBlock ∨ v'.ownBlock = some w.heap.size) ∧ Below base w w'
theorem Kd.wpList_many {E SL : TypeId} (F : K.Ty E SL) {rest : List Oper} (hgd : o.guard = none) (s x : Operand) (ho : o.op = .call { callee := .builtin .append, args := #[s, x], argTypes := #[SL, SL] }) (base : Nat) (v : Value) (n : Nat) (l : List α) (hn : n = l.length) (hs : a.eval s = v) (hown : w.ownsRow base E K.k v n (K.row l))
    (A : Option Addr) (m c : Nat) (b : List α) (hm : m = b.length) (hA : A = none → m = 0 ∧ c = 0) (hx : a.eval x = .slice A m c) (h2 : K.Rd w A b) (hb : n + m ≤ 1000000000) (hbase : base ≤ w.heap.size)
    (h : ∀ A' c' w', K.Grew E base v (n + m) (l ++ b) w (.slice A' (n + m) c') w' → wpList Try.prog ops Q rest (a.put o.dst (.slice A' (n + m) c')) w') : wpList Try.prog ops Q (o :: rest) a w := by
  refine wpList_plain hgd fun _ hK => ?_
  obtain ⟨v', w', e1, e2, e3, e4⟩ := Kd.append F w base v n l b o.type hn hown A m c hm hA h2 hb hbase
  unfold Oper.wp execOp
  simp only [ho, resolve, invoke, builtin, Sem.run_bind, Sem.run_pure, Result.andThen_ok, List.map_toArray, List.map_cons, List.map_nil, hs, hx, e1]
  obtain ⟨A', c', rfl⟩ := val_of e2
  exact hK _ _ (h A' c' w' ⟨e2, e3, e4, (Below.refl base w).grown e3 hbase (own_ge hown)⟩)
theorem Kd.rd_block {w : World} {g : Nat} {E : TypeId} {r : α} (hg : w.heap[g]? = some (.cells (K.enc r).toArray E (0, 0))) : K.Rd w (some ⟨g, 0, none⟩) [r] := fun _ => by
  refine ⟨g, 0, rfl, lt_of_block hg, fun i hi j hj => ?_⟩
  have e0 : i = 0 := by simpa using hi
  subst e0
  have e : (0 + 0 * K.k + j) = j := by omega
  rw [e, cell_of_row w g j _ E (0, 0) hg]
  simp
theorem Kd.wpList_one {E SL : TypeId} (F : K.Ty E SL) {rest : List Oper} (hgd : o.guard = none) (s x : Operand) (ho : o.op = .call { callee := .builtin .append, args := #[s, x], argTypes := #[SL, SL] }) (base : Nat) (v : Value) (n : Nat) (l : List α) (hn : n = l.length) (hs : a.eval s = v)
    (hown : w.ownsRow base E K.k v n (K.row l)) (g : Nat) (r : α) (hx : a.eval x = .slice (some ⟨g, 0, none⟩) 1 1) (hg : w.heap[g]? = some (.cells (K.enc r).toArray E (0, 0))) (hb : n ≤ 100000000) (hbase : base ≤ w.heap.size)
    (h : ∀ A' c' w', K.Grew E base v (n + 1) (l ++ [r]) w (.slice A' (n + 1) c') w' → wpList Try.prog ops Q rest (a.put o.dst (.slice A' (n + 1) c')) w') : wpList Try.prog ops Q (o :: rest) a w :=
  Kd.wpList_many F hgd s x ho base v n l hn hs hown _ 1 1 [r] rfl (fun e => by cases e) hx (Kd.rd_block hg) (by omega) hbase h
/-- At a step of a region that draws its order. -/
theorem Kd.step_many {E SL : TypeId} (F : K.Ty E SL) {L : Act → World → Prop} {X : Prop} (hgd : o.guard = none) (s x : Operand) (ho : o.op = .call { callee := .builtin .append, args := #[s, x], argTypes := #[SL, SL] }) (base : Nat) (v : Value) (n : Nat) (l : List α) (hn : n = l.length) (hs : a.eval s = v) (hown : w.ownsRow base E K.k v n (K.row l))
    (A : Option Addr) (m c : Nat) (b : List α) (hm : m = b.length) (hA : A = none → m = 0 ∧ c = 0) (hx : a.eval x = .slice A m c) (h2 : K.Rd w A b) (hb : n + m ≤ 1000000000) (hbase : base ≤ w.heap.size)
    (h : ∀ A' c' w', K.Grew E base v (n + m) (l ++ b) w (.slice A' (n + m) c') w' → L (a.put o.dst (.slice A' (n + m) c')) w') : if Region.wanted o (yielded ops a.tmps) = true then Oper.wp Try.prog o a w L Q else X := by
  have hw : Region.wanted o (yielded ops a.tmps) = true := by simp [Region.wanted, hgd]
  rw [if_pos hw]
  obtain ⟨v', w', e1, e2, e3, e4⟩ := Kd.append F w base v n l b o.type hn hown A m c hm hA h2 hb hbase
  unfold Oper.wp execOp
  simp only [ho, resolve, invoke, builtin, Sem.run_bind, Sem.run_pure, Result.andThen_ok, List.map_toArray, List.map_cons, List.map_nil, hs, hx, e1]
  obtain ⟨A', c', rfl⟩ := val_of e2
  exact h A' c' w' ⟨e2, e3, e4, (Below.refl base w).grown e3 hbase (own_ge hown)⟩
theorem Kd.step_one {E SL : TypeId} (F : K.Ty E SL) {L : Act → World → Prop} {X : Prop} (hgd : o.guard = none) (s x : Operand) (ho : o.op = .call { callee := .builtin .append, args := #[s, x], argTypes := #[SL, SL] }) (base : Nat) (v : Value) (n : Nat) (l : List α) (hn : n = l.length) (hs : a.eval s = v)
    (hown : w.ownsRow base E K.k v n (K.row l)) (g : Nat) (r : α) (hx : a.eval x = .slice (some ⟨g, 0, none⟩) 1 1) (hg : w.heap[g]? = some (.cells (K.enc r).toArray E (0, 0))) (hb : n ≤ 100000000) (hbase : base ≤ w.heap.size)
    (h : ∀ A' c' w', K.Grew E base v (n + 1) (l ++ [r]) w (.slice A' (n + 1) c') w' → L (a.put o.dst (.slice A' (n + 1) c')) w') : if Region.wanted o (yielded ops a.tmps) = true then Oper.wp Try.prog o a w L Q else X :=
  Kd.step_many F hgd s x ho base v n l hn hs hown _ 1 1 [r] rfl (fun e => by cases e) hx (Kd.rd_block hg) (by omega) hbase h
/-- 'l = append(l, ..)' where l is a variable in a box. -/
theorem Kd.box_step {w V w7 : World} {lb base : Nat} {E T : TypeId} {v v' : Value} {n0 n : Nat} {l0 l : List α} (h1 : w.heap[lb]? = some (.cells #[v] T (0, 0))) (hlb : lb < base) (h2 : w.ownsRow base E K.k v n0 (K.row l0)) (hV : Below w.heap.size w V) (hG : K.Grew E base v n l V v' w7) :
    (w7.setCell ⟨lb, 0, none⟩ v').heap[lb]? = some (.cells #[v'] T (0, 0)) ∧ (w7.setCell ⟨lb, 0, none⟩ v').ownsRow base E K.k v' n (K.row l) ∧ Frm (fun x => x = lb ∨ v.ownBlock = some x) w (w7.setCell ⟨lb, 0, none⟩ v') ∧ Sub (fun x => x = lb ∨ v.ownBlock = some x) (fun x => x = lb ∨ v'.ownBlock = some x) w.heap.size := by
  obtain ⟨ho, hg, hat, -⟩ := hG
  have z1 := lt_of_block h1
  have zV := hV.size
  have hge := own_ge h2
  have hge7 := own_ge ho
  have hF : Frm (fun x => x = lb ∨ v.ownBlock = some x) w w7 := (frm_of_below hV).grown hg (fun k hk => .inl (.inr hk))
  have hq : w7.heap[lb]? = some (.cells #[v] T (0, 0)) := (hg.block _ (by omega) (fun e => by have := hge _ e.symm; omega)).trans ((hV.block _ z1).trans h1)
  refine ⟨one_setCell hq, ownsRow_setCell_other ho (fun e => by have := hge7 _ e; simp only at this; omega) _, hF.setCell (p := ⟨lb, 0, none⟩) (.inl (.inl rfl)) _, ?_⟩
  rintro x (rfl | hx)
  · exact .inl (.inl rfl)
  · rcases hat with e | e
    · exact .inl (.inr (by rw [← e]; exact hx))
    · rw [e] at hx
      simp only [Option.some.injEq] at hx
      exact .inr (by omega)
theorem Kd.ty_of {E SL : TypeId} {z : Value} {b : Nat} (h : (Try.prog.info? E).map (fun i => (i.zero, i.size, i.bytes)) = some (some z, K.k, b)) (hb : b ≤ 140000) (hz : z.cells.size = K.k) (sl : Try.prog.underlying SL = some (.slice E)) : K.Ty E SL := by
  obtain ⟨i, hi, e⟩ := Option.map_eq_some_iff.1 h
  simp only [Prod.mk.injEq] at e
  exact ⟨⟨i, z, hi, e.1, e.2.1, by omega, hz⟩, sl⟩
end

/-- A struct stored into a box of its own. -/
theorem wpList_row {ops : Array Oper} {rest : List Oper} {o : Oper} {a : Act} {w : World} {Q : Exit → Act → World → Prop} (hgd : o.guard = none) (ty : TypeId) (x y : Operand) (ho : o.op = .store ty x y)
    (g : Nat) (cells : Array Value) (hx : a.eval x = .pointer (some ⟨g, 0, none⟩)) (hy : a.eval y = .agg cells)
    (t : TypeId) (old : Array Value) (hg : w.heap[g]? = some (.cells old t (0, 0))) (k : Nat) (hi : (Try.prog.info? ty).map (·.size) = some k) (hk : cells.size = k)
    (hold : old.size = k) (h1 : cells.toList.all (·.oneCell') = true)
    (h : ∀ w', w'.heap[g]? = some (.cells cells t (0, 0)) → Frm (fun b => b = g) w w' → wpList Try.prog ops Q rest (a.put o.dst undef) w') : wpList Try.prog ops Q (o :: rest) a w :=
  wpList_store_row hgd ty x y ho g cells hx hy t old hg (by rw [hk]; exact hi) (by rw [hk]; exact hold) (by rw [← Array.all_toList]; exact h1) (h _ (setRow_heap w g old cells t _ hg) ⟨rfl, rfl, rfl, by simp [World.setRow], fun k _ hn => setRow_other w g k cells hn⟩)

/-- Where a part of a row lies. -/
def cutK (s : Nat) (A : Option Addr) (c k : Nat) : Option Addr := if c = k then A else A.map (·.add (k * s))
section
variable {α : Type} {K : Kd α}
theorem Kd.slice_lh {E SL : TypeId} (F : K.Ty E SL) (A : Option Addr) (n c : Nat) (l h : Int) (h0 : 0 ≤ l) (h1 : l ≤ h) (h2 : h ≤ c) (w : World) :
    (Instr.slice SL (.slice A n c) (some (.int .i64 l)) (some (.int .i64 h)) none).run Try.prog w = .ok (.slice (cutK K.k A c l.toNat) (h.toNat - l.toNat) (c - l.toNat)) w := by
  obtain ⟨i0, z0, hi0, hz0, hz1, hz2, hz3⟩ := F.info
  have e : Try.prog.elem SL = E := by simp [Program.elem, F.sl]
  rw [run_slice_lh w SL A n c (by rw [e]; exact F.sl) .i64 .i64 l h h0 h1 h2, e]
  simp [sizeOf, typeInfo, hi0, hz1, cutK, sliced]
theorem Kd.slice_to {E SL : TypeId} (F : K.Ty E SL) (A : Option Addr) (n c : Nat) (h : Int) (h0 : 0 ≤ h) (h2 : h ≤ c) (w : World) :
    (Instr.slice SL (.slice A n c) none (some (.int .i64 h)) none).run Try.prog w = .ok (.slice A h.toNat c) w := by
  obtain ⟨i0, z0, hi0, hz0, hz1, hz2, hz3⟩ := F.info
  have e : Try.prog.elem SL = E := by simp [Program.elem, F.sl]
  rw [run_slice_h w SL A n c (by rw [e]; exact F.sl) .i64 h h0 h2, e]
  have ez : A.map (fun x => x.add 0) = A := by
    cases A with
    | none => rfl
    | some x => obtain ⟨g, o, r⟩ := x; cases r <;> simp [Addr.add]
  simp [sizeOf, typeInfo, hi0, hz1, sliced, ez]
theorem Kd.slice_from {E SL : TypeId} (F : K.Ty E SL) (A : Option Addr) (n c : Nat) (l : Int) (h0 : 0 ≤ l) (h1 : l ≤ n) (w : World) :
    (Instr.slice SL (.slice A n c) (some (.int .i64 l)) none none).run Try.prog w = .ok (.slice (cutK K.k A c l.toNat) (n - l.toNat) (c - l.toNat)) w := by
  obtain ⟨i0, z0, hi0, hz0, hz1, hz2, hz3⟩ := F.info
  have e : Try.prog.elem SL = E := by simp [Program.elem, F.sl]
  rw [run_slice_l w SL A n c (by rw [e]; exact F.sl) .i64 l h0 h1, e]
  simp [sizeOf, typeInfo, hi0, hz1, cutK, sliced]
theorem Kd.Rd.cut {w : World} {A : Option Addr} {l : List α} (h : K.Rd w A l) (c k : Nat) (hc : l.length ≤ c) : K.Rd w (cutK K.k A c k) (l.drop k) := fun hl => by
  have hk : k < l.length := by
    rcases Nat.lt_or_ge k l.length with e | e
    · exact e
    · exact absurd (List.drop_eq_nil_of_le e) hl
  obtain ⟨g, off, rfl, -⟩ := h (by rintro rfl; cases hk)
  have e : cutK K.k (some ⟨g, off, none⟩) c k = some ⟨g, off + k * K.k, none⟩ := by
    unfold cutK
    rw [if_neg (by omega), Option.map_some]
    congr 1
    unfold Addr.add
    split <;> simp_all
  rw [e]
  exact h.drop k hl
end

end Go.Proofs.Ytmmggalcebepeaa
