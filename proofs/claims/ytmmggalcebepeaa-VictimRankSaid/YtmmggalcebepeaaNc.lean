/-
  Entries in memory, and rows of them by their places: how they lie, and what a store makes of them. No condition.
-/
import Derived.Test.YtmmggalcebepeaaNb
import Derived.Test.YtmmggalcebepeaaReg
import Derived.Deep.RegionHeld3
import Derived.BigRegion
import Derived.Deep.DeepCutAuto
namespace Go.Proofs.Ytmmggalcebepeaa
open Go.RowKit
set_option maxRecDepth 100000

theorem info_ve : (Try.prog.info? 35).map (fun i => (i.zero, i.size, i.bytes)) = some (some (.agg #[.int .i64 0, .int .i64 0]), 2, 16) := by kernel_rfl
theorem info_re : (Try.prog.info? 38).map (fun i => (i.zero, i.size, i.bytes)) = some (some (.agg #[.int .i64 0, .int .i64 0]), 2, 16) := by kernel_rfl
theorem KE_ty : KE.Ty 35 26 := Kd.ty_of info_ve (by omega) rfl Try.underlying26
theorem KR_ty : KE.Ty 38 22 := Kd.ty_of info_re (by omega) rfl Try.underlying22
/-- Entries told by their places. -/
def KP (f : Nat → Ent) : Kd Nat := ⟨fun k => entE (f k), 2, by decide, fun _ => rfl, fun x u h => KE.cell (f x) u h⟩
def rowP (n : Nat) (D : Nat → Nat) : List Nat := (List.range n).map D
theorem rowP_len (n : Nat) (D : Nat → Nat) : (rowP n D).length = n := by simp [rowP]
theorem rowP_at (n : Nat) (D : Nat → Nat) (i : Nat) (h : i < (rowP n D).length) : (rowP n D)[i] = D i := by simp [rowP]
def upP (D : Nat → Nat) (i x : Nat) : Nat → Nat := fun j => if j = i then x else D j
theorem rowP_set (n : Nat) (D : Nat → Nat) (i : Nat) (x : Nat) : (rowP n D).set i x = rowP n (upP D i x) := by
  apply List.ext_getElem
  · simp [rowP]
  · intro j h1 h2
    rw [List.getElem_set, rowP_at, rowP_at]
    unfold upP
    by_cases e : j = i
    · subst e; simp
    · have e2 : ¬ i = j := fun h => e h.symm
      simp [e, e2]
theorem upP_upP (D : Nat → Nat) (i : Nat) (x y : Nat) : upP (upP D i x) i y = upP D i y := by
  funext j
  unfold upP
  split <;> rfl
/-- Two change places. -/
def sw (D : Nat → Nat) (i j : Nat) : Nat → Nat := fun k => if k = j then D i else if k = i then D j else D k
theorem sw_up (D : Nat → Nat) (i j : Nat) : upP (upP D i (D j)) j (D i) = sw D i j := by
  funext k
  unfold upP sw
  rfl
/-- A row of entries, by their places, that is one's own. -/
def RP (w : World) (B : Nat) (A : Option Addr) (n c : Nat) (f : Nat → Ent) (D : Nat → Nat) : Prop := w.ownsRow B 35 2 (.slice A n c) n ((KP f).row (rowP n D))
theorem RP.keep {w w' : World} {B n c : Nat} {A : Option Addr} {f : Nat → Ent} {D : Nat → Nat} (h : RP w B A n c f D) (hb : Below w.heap.size w w') : RP w' B A n c f D := own_block h fun b _ hl => hb.block b hl
theorem RP.addr {w : World} {B n c : Nat} {A : Option Addr} {f : Nat → Ent} {D : Nat → Nat} (h : RP w B A n c f D) (hn : 0 < n) : ∃ g, A = some ⟨g, 0, none⟩ ∧ B ≤ g ∧ g < w.heap.size := by
  rcases h.2 with ⟨_, e⟩ | ⟨g, cap, cur, e, hb, hg, _⟩
  · omega
  · simp only [Value.slice.injEq] at e
    exact ⟨g, e.1, hb, lt_of_block hg⟩
theorem RP.cells {w : World} {B g n c : Nat} {f : Nat → Ent} {D : Nat → Nat} (h : RP w B (some ⟨g, 0, none⟩) n c f D) (i : Nat) (hi : i < n) :
    w.cell? ⟨g, i * 2, none⟩ = some (.int .i64 (f (D i)).i) ∧ w.cell? ⟨g, i * 2 + 1, none⟩ = some (.int .i64 (f (D i)).sc) ∧ w.frozen? ⟨g, i * 2, none⟩ = false ∧ w.frozen? ⟨g, i * 2 + 1, none⟩ = false := by
  have hc : ∀ j, j < 2 → w.cell? ⟨g, i * 2 + j, none⟩ = (entE (f (D i)))[j]? := fun j hj => by
    rw [World.ownsRow.cellAt h (i * 2 + j) (by omega)]
    have := (KP f).row_at (rowP n D) i (by rw [rowP_len]; exact hi) j hj
    rw [rowP_at] at this
    exact this
  exact ⟨hc 0 (by omega), hc 1 (by omega), World.ownsRow.frozenAt h _, World.ownsRow.frozenAt h _⟩
theorem RP.stored {w : World} {B g n c : Nat} {f : Nat → Ent} {D : Nat → Nat} (h : RP w B (some ⟨g, 0, none⟩) n c f D) (i : Nat) (hi : i < n) (x : Nat) :
    RP ((w.setCell ⟨g, i * 2, none⟩ (.int .i64 (f x).i)).setCell ⟨g, i * 2 + 1, none⟩ (.int .i64 (f x).sc)) B (some ⟨g, 0, none⟩) n c f (upP D i x) := by
  have h2 := (World.ownsRow.stored (World.ownsRow.stored h (i * 2) (.int .i64 (f x).i)).1 (i * 2 + 1) (.int .i64 (f x).sc)).1
  have e : (((KP f).row (rowP n D)).set (i * 2) (.int .i64 (f x).i)).set (i * 2 + 1) (.int .i64 (f x).sc) = (KP f).row (rowP n (upP D i x)) := by
    rw [← rowP_set]
    have hl : i < (rowP n D).length := by rw [rowP_len]; exact hi
    generalize rowP n D = l at hl
    have key : ∀ (l : List Nat) (i : Nat), i < l.length → (((KP f).row l).set (i * 2) (.int .i64 (f x).i)).set (i * 2 + 1) (.int .i64 (f x).sc) = (KP f).row (l.set i x) := by
      intro l
      induction l with
      | nil => intro i hi; cases hi
      | cons r l ih =>
        intro i hi
        cases i with
        | zero => rfl
        | succ i =>
          have e2 : (i + 1) * 2 = i * 2 + 2 := by omega
          have := ih i (by simpa using hi)
          rw [List.set_cons_succ, Kd.row_cons, Kd.row_cons, e2]
          show _ :: _ :: (((KP f).row l).set (i * 2) _).set (i * 2 + 1) _ = _
          rw [this]
          rfl
    exact key l i hl
  rw [e] at h2
  exact h2
theorem RP.swapped {w : World} {B g n c : Nat} {f : Nat → Ent} {D : Nat → Nat} (h : RP w B (some ⟨g, 0, none⟩) n c f D) (i j : Nat) (hi : i < n) (hj : j < n) :
    RP ((((w.setCell ⟨g, i * 2, none⟩ (.int .i64 (f (D j)).i)).setCell ⟨g, i * 2 + 1, none⟩ (.int .i64 (f (D j)).sc)).setCell ⟨g, j * 2, none⟩ (.int .i64 (f (D i)).i)).setCell ⟨g, j * 2 + 1, none⟩ (.int .i64 (f (D i)).sc)) B (some ⟨g, 0, none⟩) n c f (sw D i j) := by
  have := (h.stored i hi (D j)).stored j hj (D i)
  rw [sw_up] at this
  exact this
theorem below_set4 {B g i j : Nat} {w w1 : World} {y0 y1 y2 y3 : Value} (h : Below B w w1) (hb : B ≤ g) : Below B w ((((w1.setCell ⟨g, i * 2, none⟩ y0).setCell ⟨g, i * 2 + 1, none⟩ y1).setCell ⟨g, j * 2, none⟩ y2).setCell ⟨g, j * 2 + 1, none⟩ y3) :=
  (((h.setCell (p := ⟨g, i * 2, none⟩) hb _).setCell (p := ⟨g, i * 2 + 1, none⟩) hb _).setCell (p := ⟨g, j * 2, none⟩) hb _).setCell (p := ⟨g, j * 2 + 1, none⟩) hb _
theorem idx_ent (g n c k : Nat) (h : k < n) (V : World) : (Instr.indexAt 26 (.slice (some ⟨g, 0, none⟩) n c) (.int .i64 (k : Int))).run Try.prog V = .ok (.pointer (some ⟨g, k * 2, none⟩)) V := by
  have h0 : (0 : Int) ≤ (k : Int) := by omega
  have h1 : (k : Int) < (n : Int) := by omega
  go_simp

end Go.Proofs.Ytmmggalcebepeaa
