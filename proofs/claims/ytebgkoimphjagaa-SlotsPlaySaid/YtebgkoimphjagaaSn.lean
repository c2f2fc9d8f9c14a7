/-
  What Take, Give, Swap of the document's answer for layer 9 return. Condition: it lies where the argument says.
-/
import Derived.Test.YtebgkoimphjagaaSm
namespace Go.Proofs.Ytebgkoimphjagaa
open Go.RowKit
set_option maxRecDepth 100000

/-- The blocks that it lies in. -/
def Rw.blk (r : Rw) (b : Nat) : Prop := r.A.map (·.block) = some b ∨ r.B.map (·.block) = some b ∨ r.C.map (·.block) = some b
theorem own_nil {w : World} {base : Nat} {e : TypeId} {size n c : Nat} {A : Option Addr} {xs : List Value} (h : w.ownsRow base e size (.slice A n c) n xs) : A = none → n = 0 ∧ c = 0 := by
  rintro rfl
  rcases h.2 with ⟨e1, -⟩ | ⟨g, cap, cur, e1, -⟩
  · simp at e1
    exact e1
  · simp at e1
theorem own_at {w : World} {base : Nat} {e : TypeId} {size n c : Nat} {A : Option Addr} {xs : List Value} (h : w.ownsRow base e size (.slice A n c) n xs) {b : Nat} (hb : A.map (·.block) = some b) : base ≤ b ∧ b < w.heap.size ∧ (Value.slice A n c).ownBlock = some b := by
  rcases h.2 with ⟨e1, -⟩ | ⟨g, cap, cur, e1, e2, e3, -⟩
  · simp at e1
    rw [e1.1] at hb
    cases hb
  · simp only [Value.slice.injEq, true_and] at e1
    obtain ⟨rfl, rfl⟩ := e1
    simp at hb
    subst hb
    exact ⟨e2, lt_of_block e3, rfl⟩
theorem Own.to {w w' : World} {r : Rw} {s : Sl} (h : Own w w' r s) : RfS w' r s ∧ ∀ b, r.blk b → w.heap.size ≤ b ∧ b < w'.heap.size := by
  obtain ⟨h1, h2, h3, -⟩ := h
  unfold Rw.va at h1
  unfold Rw.vb at h2
  unfold Rw.vc at h3
  obtain ⟨A, a, e1, -, r1, -⟩ := KI.rd_own h1 (vsS_len s).symm
  obtain ⟨B, b, e2, -, r2, -⟩ := KB.rd_own h2 (isS_len s).symm
  obtain ⟨C, c, e3, -, r3, -⟩ := KN.rd_own h3 rfl
  simp only [Value.slice.injEq, true_and] at e1 e2 e3
  obtain ⟨rfl, rfl⟩ := e1
  obtain ⟨rfl, rfl⟩ := e2
  obtain ⟨rfl, rfl⟩ := e3
  refine ⟨⟨r1, r2, r3, own_nil h1, own_nil h2, own_nil h3⟩, ?_⟩
  rintro k (hk | hk | hk)
  · have := own_at h1 hk; exact ⟨this.1, this.2.1⟩
  · have := own_at h2 hk; exact ⟨this.1, this.2.1⟩
  · have := own_at h3 hk; exact ⟨this.1, this.2.1⟩
/-- What a call of it leaves: its rows are those of before, or fresh. -/
def RfPost (w : World) (r : Rw) (s' : Sl) (ret : Value → Value) (e : Ending) (w' : World) : Prop :=
  ∃ r' : Rw, e = .returned (ret (r'.v s')) ∧ RfS w' r' s' ∧ (∀ b, r'.blk b → (r.blk b ∨ w.heap.size ≤ b) ∧ b < w'.heap.size) ∧ Below w.heap.size w w'
theorem Kd.own_set1 {α : Type} {K : Kd α} (h1 : K.k = 1) {w : World} {E : TypeId} {base q n cap : Nat} {l : List α} (h : w.ownsRow base E 1 (.slice (some ⟨q, 0, none⟩) n cap) n (K.row l)) (j : Nat) (hj : j < l.length) (x : α) (u : Value) (hx : K.enc x = [u]) : (w.setCell ⟨q, j, none⟩ u).ownsRow base E 1 (.slice (some ⟨q, 0, none⟩) n cap) n (K.row (l.set j x)) := by
  have := (h.stored j u).1
  have e := K.row_set l j hj x 0 u (by
    have hl := K.len l[j]
    rw [h1] at hl
    obtain ⟨y, hy⟩ := List.length_eq_one_iff.1 hl
    rw [hy, hx]
    rfl) (by omega)
  rw [h1, show j * 1 + 0 = j from by omega] at e
  rw [e] at this
  exact this
theorem vsS_set {s s' : Sl} (hm : s'.most = s.most) (i : Nat) (p : Plc) (hat : ∀ j, s'.atN j = if j = i then p else s.atN j) : vsS s' = (vsS s).set i p.x := by
  apply List.ext_getElem
  · simp [vsS, hm]
  · intro j h1 h2
    rw [vsS_at, List.getElem_set, hat]
    by_cases e : j = i
    · subst e; simp
    · have e2 : ¬ i = j := fun h => e h.symm
      rw [vsS_at]
      simp [e, e2]
theorem isS_set {s s' : Sl} (hm : s'.most = s.most) (i : Nat) (p : Plc) (hat : ∀ j, s'.atN j = if j = i then p else s.atN j) : isS s' = (isS s).set i p.is := by
  apply List.ext_getElem
  · simp [isS, hm]
  · intro j h1 h2
    rw [isS_at, List.getElem_set, hat]
    by_cases e : j = i
    · subst e; simp
    · have e2 : ¬ i = j := fun h => e h.symm
      rw [isS_at]
      simp [e, e2]
/-- Where a place's thing, and whether it is, lie. -/
theorem Own.place {w w' : World} {r : Rw} {s : Sl} (h : Own w w' r s) {i : Nat} (hi : i < s.most) : ∃ gA gB, r.A = some ⟨gA, 0, none⟩ ∧ r.B = some ⟨gB, 0, none⟩ ∧ w.heap.size ≤ gA ∧ gA < w'.heap.size ∧ w.heap.size ≤ gB ∧ gB < w'.heap.size ∧ ¬ gA = gB ∧ w'.cell? ⟨gA, i, none⟩ = some (.int .i64 (s.atN i).x) ∧ w'.cell? ⟨gB, i, none⟩ = some (.bool (s.atN i).is) ∧ w'.frozen? ⟨gA, i, none⟩ = false ∧ w'.frozen? ⟨gB, i, none⟩ = false := by
  have hR := h.to.1
  obtain ⟨h1, h2, -⟩ := h
  obtain ⟨gA, cA, e1, g1, g2⟩ := h1.form (by omega)
  obtain ⟨gB, cB, e2, g3, g4⟩ := h2.form (by omega)
  unfold Rw.va at e1 h1
  unfold Rw.vb at e2 h2
  simp only [Value.slice.injEq, true_and] at e1 e2
  obtain ⟨eA, rfl⟩ := e1
  obtain ⟨eB, rfl⟩ := e2
  obtain ⟨gA', oA, eA', -, c1⟩ := hR.val hi
  obtain ⟨gB', oB, eB', -, c2⟩ := hR.is hi
  rw [eA] at eA' h1
  rw [eB] at eB' h2
  simp only [Option.some.injEq, Addr.mk.injEq, and_true] at eA' eB'
  obtain ⟨rfl, rfl⟩ := eA'
  obtain ⟨rfl, rfl⟩ := eB'
  rw [Nat.zero_add] at c1 c2
  refine ⟨gA, gB, eA, eB, g1, g2, g3, g4, ?_, c1, c2, h1.frozenAt i, h2.frozenAt i⟩
  rintro rfl
  obtain ⟨cu1, k1⟩ := own_heap h1 rfl
  obtain ⟨cu2, k2⟩ := own_heap h2 rfl
  rw [k1] at k2
  simp at k2

theorem four {w : World} {b : Nat} {x0 x1 x2 x3 : Value} {e : TypeId} (h : w.heap[b]? = some (.cells #[x0, x1, x2, x3] e (0, 0))) :
    w.cell? ⟨b, 0, none⟩ = some x0 ∧ w.cell? ⟨b, 1, none⟩ = some x1 ∧ w.cell? ⟨b, 2, none⟩ = some x2 ∧ w.cell? ⟨b, 3, none⟩ = some x3 ∧ w.frozen? ⟨b, 0, none⟩ = false ∧ w.frozen? ⟨b, 1, none⟩ = false ∧ w.frozen? ⟨b, 2, none⟩ = false ∧ w.frozen? ⟨b, 3, none⟩ = false ∧ b < w.heap.size :=
  ⟨by rw [cell_row h]; rfl, by rw [cell_row h]; rfl, by rw [cell_row h]; rfl, by rw [cell_row h]; rfl, frozen_of_row _ _ _ _ _ h, frozen_of_row _ _ _ _ _ h, frozen_of_row _ _ _ _ _ h, frozen_of_row _ _ _ _ _ h, lt_of_block h⟩
theorem below_put4 {B b : Nat} {w w1 : World} {y0 y1 y2 y3 : Value} (h : Below B w w1) (hb : B ≤ b) : Below B w ((((w1.setCell ⟨b, 0, none⟩ y0).setCell ⟨b, 1, none⟩ y1).setCell ⟨b, 2, none⟩ y2).setCell ⟨b, 3, none⟩ y3) :=
  (((h.setCell (p := ⟨b, 0, none⟩) hb _).setCell (p := ⟨b, 1, none⟩) hb _).setCell (p := ⟨b, 2, none⟩) hb _).setCell (p := ⟨b, 3, none⟩) hb _
/-- Three rows of its own, by what they hold. -/
structure OwnL (base : Nat) (w : World) (r : Rw) (m : Nat) (vs : List Int) (is : List Bool) (fr : List Nat) : Prop where
  A : w.ownsRow base 3 1 (.slice r.A m r.ca) m (KI.row vs)
  B : w.ownsRow base 4 1 (.slice r.B m r.cb) m (KB.row is)
  C : w.ownsRow base 3 1 (.slice r.C fr.length r.cc) fr.length (KN.row fr)
  D : 0 < m → ∀ b, (Value.slice r.A m r.ca).ownBlock = some b → (Value.slice r.C fr.length r.cc).ownBlock ≠ some b
  lv : vs.length = m
  li : is.length = m
theorem Own.toL {w w' : World} {r : Rw} {s : Sl} (h : Own w w' r s) : OwnL w.heap.size w' r s.most (vsS s) (isS s) s.fr := ⟨h.1, h.2.1, h.2.2.1, h.2.2.2, vsS_len s, isS_len s⟩
theorem ob_slice {A : Option Addr} {n n' c c' : Nat} : (Value.slice A n c).ownBlock = (Value.slice A n' c').ownBlock := by
  cases A with
  | none => rfl
  | some a => rfl
section
variable {base m : Nat} {w : World} {r : Rw} {vs : List Int} {is : List Bool} {fr : List Nat}
theorem OwnL.keep (h : OwnL base w r m vs is fr) {w' : World} (hb : Below w.heap.size w w') : OwnL base w' r m vs is fr :=
  ⟨own_block h.A fun b _ hl => hb.block b hl, own_block h.B fun b _ hl => hb.block b hl, own_block h.C fun b _ hl => hb.block b hl, h.D, h.lv, h.li⟩
theorem OwnL.far (h : OwnL base w r m vs is fr) {p : Addr} (hp : p.block < base) (u : Value) : OwnL base (w.setCell p u) r m vs is fr :=
  ⟨own_far h.A hp u, own_far h.B hp u, own_far h.C hp u, h.D, h.lv, h.li⟩
theorem OwnL.far4 (h : OwnL base w r m vs is fr) {b : Nat} (hp : b < base) (y0 y1 y2 y3 : Value) : OwnL base ((((w.setCell ⟨b, 0, none⟩ y0).setCell ⟨b, 1, none⟩ y1).setCell ⟨b, 2, none⟩ y2).setCell ⟨b, 3, none⟩ y3) r m vs is fr :=
  (((h.far (p := ⟨b, 0, none⟩) hp y0).far (p := ⟨b, 1, none⟩) hp y1).far (p := ⟨b, 2, none⟩) hp y2).far (p := ⟨b, 3, none⟩) hp y3
theorem OwnL.setA (h : OwnL base w r m vs is fr) {g : Nat} (hA : r.A = some ⟨g, 0, none⟩) {i : Nat} (hi : i < m) (x : Int) : OwnL base (w.setCell ⟨g, i, none⟩ (.int .i64 x)) r m (vs.set i x) is fr := by
  obtain ⟨a, b, c, d, e, f⟩ := h
  obtain ⟨A, ca, B, cb, C, cc⟩ := r
  simp only at hA a b c d
  subst hA
  refine ⟨Kd.own_set1 rfl a i (by omega) x _ rfl, ownsRow_setCell_other b (fun e1 => ?_) _, ownsRow_setCell_other c (fun e1 => d (by omega) g rfl e1) _, d, by simpa using e, f⟩
  obtain ⟨c1, k1⟩ := own_heap a rfl
  obtain ⟨c2, k2⟩ := own_heap b e1
  simp only at k2
  rw [k1] at k2
  simp at k2
theorem OwnL.setB (h : OwnL base w r m vs is fr) {g : Nat} (hB : r.B = some ⟨g, 0, none⟩) {i : Nat} (hi : i < m) (x : Bool) : OwnL base (w.setCell ⟨g, i, none⟩ (.bool x)) r m vs (is.set i x) fr := by
  obtain ⟨a, b, c, d, e, f⟩ := h
  obtain ⟨A, ca, B, cb, C, cc⟩ := r
  simp only at hB a b c d
  subst hB
  obtain ⟨c1, k1⟩ := own_heap b rfl
  refine ⟨ownsRow_setCell_other a (fun e1 => ?_) _, Kd.own_set1 rfl b i (by omega) x _ rfl, ownsRow_setCell_other c (fun e1 => ?_) _, d, e, by simpa using f⟩
  · obtain ⟨c2, k2⟩ := own_heap a e1
    simp only at k2
    rw [k1] at k2
    simp at k2
  · obtain ⟨c2, k2⟩ := own_heap c e1
    simp only at k2
    rw [k1] at k2
    simp at k2
/-- What is left but the last one. -/
theorem OwnL.cut {i : Nat} (h : OwnL base w r m vs is (fr ++ [i])) : OwnL base w r m vs is fr := by
  obtain ⟨a, b, c, d, e, f⟩ := h
  have hl : (fr ++ [i]).length = fr.length + 1 := by simp
  rw [hl] at c
  refine ⟨a, b, ?_, fun h0 k h1 h2 => d h0 k h1 (by rw [← h2]; exact ob_slice), e, f⟩
  obtain ⟨g, cap, e1, -, -⟩ := c.form (by omega)
  simp only [Value.slice.injEq, true_and] at e1
  rw [e1.1] at c ⊢
  have := KN_cut c (by simp) (Nat.le_succ fr.length)
  simpa using this
/-- One is laid behind them. -/
theorem OwnL.more {w' : World} {i n : Nat} (h : OwnL base w r m vs is fr) (hm : 0 < m) {A' : Option Addr} {c' : Nat} (hG : KN.Grew 3 base (.slice r.C fr.length r.cc) n (fr ++ [i]) w (.slice A' n c') w') (hn : n = fr.length + 1) : OwnL base w' ⟨r.A, r.ca, r.B, r.cb, A', c'⟩ m vs is (fr ++ [i]) := by
  subst hn
  obtain ⟨a, b, c, d, e, f⟩ := h
  obtain ⟨g1, g2, g3, -⟩ := hG
  have hl : (fr ++ [i]).length = fr.length + 1 := by simp
  refine ⟨own_other a g2 (fun k hk e1 => d hm k hk e1), own_other b g2 (fun k hk e1 => ?_), by rw [hl]; exact g1, fun h0 k h1 h2 => ?_, e, f⟩
  · obtain ⟨c1, k1⟩ := own_heap b hk
    obtain ⟨c2, k2⟩ := own_heap c e1
    rw [k1] at k2
    simp at k2
  · rw [hl] at h2
    rcases g3 with e3 | e3
    · rw [e3] at h2
      exact d hm k h1 h2
    · rw [e3] at h2
      simp only [Option.some.injEq] at h2
      have := (a.lt k h1).2
      omega
theorem OwnL.to (h : OwnL base w r m vs is fr) {s' : Sl} (h1 : s'.most = m) (h2 : vsS s' = vs) (h3 : isS s' = is) (h4 : s'.fr = fr) : RfS w r s' ∧ ∀ b, r.blk b → base ≤ b ∧ b < w.heap.size := by
  subst h1 h2 h3 h4
  obtain ⟨a, b, c, -, e, f⟩ := h
  obtain ⟨A, x1, e1, -, r1, -⟩ := KI.rd_own a e.symm
  obtain ⟨B, x2, e2, -, r2, -⟩ := KB.rd_own b f.symm
  obtain ⟨C, x3, e3, -, r3, -⟩ := KN.rd_own c rfl
  simp only [Value.slice.injEq, true_and] at e1 e2 e3
  obtain ⟨rfl, rfl⟩ := e1
  obtain ⟨rfl, rfl⟩ := e2
  obtain ⟨rfl, rfl⟩ := e3
  refine ⟨⟨r1, r2, r3, own_nil a, own_nil b, own_nil c⟩, ?_⟩
  rintro k (hk | hk | hk)
  · have := own_at a hk; exact ⟨this.1, this.2.1⟩
  · have := own_at b hk; exact ⟨this.1, this.2.1⟩
  · have := own_at c hk; exact ⟨this.1, this.2.1⟩
end
theorem OwnL.post {w w2 : World} {base : Nat} {r r' : Rw} {m : Nat} {vs : List Int} {is : List Bool} {fr : List Nat} {s' : Sl} (h : OwnL base w2 r' m vs is fr) (hbase : w.heap.size ≤ base) (h1 : s'.most = m) (h2 : vsS s' = vs) (h3 : isS s' = is) (h4 : s'.fr = fr) : RfS w2 r' s' ∧ ∀ b, r'.blk b → (r.blk b ∨ w.heap.size ≤ b) ∧ b < w2.heap.size := by
  obtain ⟨g1, g2⟩ := h.to h1 h2 h3 h4
  exact ⟨g1, fun b hb => ⟨.inr (Nat.le_trans hbase (g2 b hb).1), (g2 b hb).2⟩⟩
theorem RfS.same {w w2 : World} {r : Rw} {s : Sl} (h : RfS w r s) (hb : ∀ b, r.blk b → b < w.heap.size) (hw : Below w.heap.size w w2) : RfS w2 r s ∧ ∀ b, r.blk b → (r.blk b ∨ w.heap.size ≤ b) ∧ b < w2.heap.size :=
  ⟨h.keep hw, fun b hx => ⟨.inl hx, Nat.lt_of_lt_of_le (hb b hx) hw.size⟩⟩

set_option maxHeartbeats 2000000 in
theorem rswap_any (w : World) (r : Rw) (s : Sl) (h : RfS w r s) (hk : s.Ok) (hb : ∀ b, r.blk b → b < w.heap.size) (i x : Int) :
    Calls Try.prog 16 #[r.v s, .int .i64 i, .int .i64 x] w (RfPost w r (s.swap i x) (fun v => .tuple #[v, .bool (s.has i)])) := by
  have hc := fun W (hb : Below w.heap.size w W) => rhas_any W r s (h.keep hb) hk i
  have ho := fun W (hb : Below w.heap.size w W) => rown_any W r s (h.keep hb) hk
  have k1 := hk.most
  have k2 := hk.pl
  have HR := Lib.hid h
  have HB := Lib.hid hb
  cases hh : s.has i
  · have HE : Hid (s.swap i x = s) := Lib.hid (swap_no hh x)
    rw [hh] at hc
    have HC := Lib.hid hc
    clear h hk hc hh ho hb
    unfold Rw.v Rw.va Rw.vb Rw.vc at *
    go_enter Try.func16, Try.ntmps16
    go_wp2_with fail
    refine (HC.out _ (by go_grown)).mono ?_
    rintro e w1 ⟨rfl, b1⟩
    have hw := below_of (w := w) (by go_grown) b1
    have x1 := (b1.block w.heap.size (by simp; omega)).trans (hp_old (by simp) (hp_new rfl))
    have x2 := (b1.block (w.heap.size + 1) (by simp)).trans (hp_new (by simp))
    obtain ⟨p0, p1, p2, p3, -⟩ := four x1
    obtain ⟨q0, q1, q2, q3, f0, f1, f2, f3, qz⟩ := four x2
    clear b1 x1 x2
    go_wp2
    refine bodyPost_ret (v := .tuple #[.agg #[.slice r.A s.most r.ca, .slice r.B s.most r.cb, .slice r.C s.fr.length r.cc, .int .i64 s.pl.length], .bool false]) (by simp [*, results, Try.results16, go_sem] <;> rfl) rfl ?_
    have hf := below_put4 (b := w.heap.size + 1) (y0 := .slice r.A s.most r.ca) (y1 := .slice r.B s.most r.cb) (y2 := .slice r.C s.fr.length r.cc) (y3 := .int .i64 s.pl.length) hw (Nat.le_succ _)
    rw [HE.out]
    exact ⟨r, rfl, (HR.out.same HB.out hf).1, (HR.out.same HB.out hf).2, hf⟩
  · obtain ⟨i0, i1, i2⟩ := has_bd hh
    obtain ⟨k, rfl⟩ := Int.eq_ofNat_of_zero_le i0
    rw [Int.toNat_natCast] at i1 i2
    have hat := swap_atN hh x
    rw [Int.toNat_natCast] at hat
    have hlm : k < s.most := by omega
    have hvs := vsS_set (swap_most s k x) k ⟨x, true⟩ hat
    have his := isS_set (swap_most s k x) k ⟨x, true⟩ hat
    have his2 : isS (s.swap k x) = isS s := by
      rw [his]
      apply List.ext_getElem
      · simp
      · intro j h1 h2
        rw [List.getElem_set]
        split
        · rename_i e; subst e; rw [isS_at]; exact i2.symm
        · rfl
    have HF := Lib.hid (show (s.swap k x).fr = s.fr ∧ (s.swap k x).pl.length = s.pl.length by unfold Sl.swap; rw [if_pos hh]; simp [Sl.set])
    have HV := Lib.hid (And.intro hvs his2)
    rw [hh] at hc
    have HC := Lib.hid hc
    have HO := Lib.hid ho
    clear h hk hc hh ho hb i2 hat hvs his his2
    unfold Rw.v Rw.va Rw.vb Rw.vc at *
    go_enter Try.func16, Try.ntmps16
    go_wp2_with fail
    refine (HC.out _ (by go_grown)).mono ?_
    rintro e w1 ⟨rfl, b1⟩
    have hw := below_of (w := w) (by go_grown) b1
    have x1 := (b1.block w.heap.size (by simp; omega)).trans (hp_old (by simp) (hp_new rfl))
    have x2 := (b1.block (w.heap.size + 1) (by simp)).trans (hp_new (by simp))
    obtain ⟨p0, p1, p2, p3, -⟩ := four x1
    clear b1 x1
    go_wp2_with fail
    refine (HO.out _ hw).mono ?_
    rintro e w2 ⟨r2, rfl, ho2, b2⟩
    have hw2 := below_of (w := w) hw b2
    have x3 := (b2.block (w.heap.size + 1) (lt_of_block x2)).trans x2
    obtain ⟨q0, q1, q2, q3, f0, f1, f2, f3, qz⟩ := four x3
    obtain ⟨gA, gB, eA, eB, a1, a2, b3, b4, hne, cA, cB, fA, fB⟩ := ho2.place hlm
    obtain ⟨A, ca, B, cb, C, cc⟩ := r2
    simp only at eA eB
    subst eA eB
    have HO2 := Lib.hid ho2
    have HZ : Hid (w.heap.size + 1 < w1.heap.size) := Lib.hid (lt_of_block x2)
    have hq1 : ¬ gA = w.heap.size + 1 := by have := lt_of_block x2; omega
    have hq2 : ¬ w.heap.size + 1 = gA := by omega
    clear x2 x3 p0 p1 p2 p3 ho2 b2
    unfold Rw.va Rw.vb Rw.vc
    simp only
    go_wp2
    refine bodyPost_ret (v := .tuple #[.agg #[.slice (some ⟨gA, 0, none⟩) s.most ca, .slice (some ⟨gB, 0, none⟩) s.most cb, .slice C s.fr.length cc, .int .i64 s.pl.length], .bool true]) (by simp [*, results, Try.results16, go_sem] <;> rfl) rfl ?_
    have hb1 : w.heap.size + 1 < w1.heap.size := HZ.out
    have hL := ((HO2.out.toL.setA rfl hlm x).far4 hb1 (.slice (some ⟨gA, 0, none⟩) s.most ca) (.slice (some ⟨gB, 0, none⟩) s.most cb) (.slice C s.fr.length cc) (.int .i64 s.pl.length)).keep ((Below.refl _ _).alloc (Nat.le_refl _) (.cells #[.slice (some ⟨gA, 0, none⟩) s.most ca, .slice (some ⟨gB, 0, none⟩) s.most cb, .slice C s.fr.length cc, .int .i64 s.pl.length] 29))
    have hp := hL.post (r := r) (s' := s.swap k x) hw.size (swap_most s k x) HV.out.1 HV.out.2 HF.out.1
    refine ⟨_, by unfold Rw.v Rw.va Rw.vb Rw.vc; rw [swap_most, HF.out.1, HF.out.2], hp.1, hp.2, ?_⟩
    exact (below_put4 (hw2.setCell (p := ⟨gA, k, none⟩) (by have := hw.size; simp only; omega) _) (Nat.le_succ _)).alloc (by have := hw2.size; simp; omega) _

end Go.Proofs.Ytebgkoimphjagaa
