/-
  Rows of entries that are one's own, whose numbers or scores are stored one by one. No condition.
-/
import Derived.Test.YtmmggalcebepeaaNu
namespace Go.Proofs.Ytmmggalcebepeaa
open Go.RowKit
set_option maxRecDepth 100000

/-- A row of entries that is one's own. -/
def EO (w : World) (B : Nat) (A : Option Addr) (n c : Nat) (L : List Ent) : Prop := L.length = n ∧ w.ownsRow B 35 2 (.slice A n c) n (KE.row L)
theorem EO.addr {w : World} {B n c : Nat} {A : Option Addr} {L : List Ent} (h : EO w B A n c L) (hn : 0 < n) : ∃ g, A = some ⟨g, 0, none⟩ ∧ B ≤ g ∧ g < w.heap.size := by
  rcases h.2.2 with ⟨_, e⟩ | ⟨g, cap, cur, e, hb, hg, _⟩
  · omega
  · simp only [Value.slice.injEq] at e
    exact ⟨g, e.1, hb, lt_of_block hg⟩
theorem EO.keep {w w' : World} {B n c : Nat} {A : Option Addr} {L : List Ent} (h : EO w B A n c L) (hb : Below w.heap.size w w') : EO w' B A n c L := ⟨h.1, own_block h.2 fun b _ hl => hb.block b hl⟩
theorem EO.rd {w : World} {B n c : Nat} {A : Option Addr} {L : List Ent} (h : EO w B A n c L) : KE.Rd w A L ∧ n ≤ c ∧ (A = none → L = [] ∧ c = 0) := by
  obtain ⟨A', c', e, hle, hrd, -⟩ := KE.rd_own h.2 h.1.symm
  simp only [Value.slice.injEq, true_and] at e
  obtain ⟨rfl, rfl⟩ := e
  exact ⟨hrd, hle, fun e => ⟨List.eq_nil_of_length_eq_zero (by rw [h.1]; exact (own_nil h.2 e).1), (own_nil h.2 e).2⟩⟩
theorem EO.cells {w : World} {B g n c : Nat} {L : List Ent} (h : EO w B (some ⟨g, 0, none⟩) n c L) (i : Nat) (hi : i < n) :
    w.cell? ⟨g, i * 2, none⟩ = some (.int .i64 (nuL L i)) ∧ w.cell? ⟨g, i * 2 + 1, none⟩ = some (.int .i64 (scL L i)) ∧ w.frozen? ⟨g, i * 2, none⟩ = false ∧ w.frozen? ⟨g, i * 2 + 1, none⟩ = false := by
  have hl : i < L.length := by rw [h.1]; exact hi
  have hc : ∀ j, j < 2 → w.cell? ⟨g, i * 2 + j, none⟩ = (entE L[i])[j]? := fun j hj => by
    rw [World.ownsRow.cellAt h.2 (i * 2 + j) (by omega)]
    exact KE.row_at L i hl j hj
  rw [nuL_at L i hl, scL_at L i hl]
  exact ⟨hc 0 (by omega), hc 1 (by omega), World.ownsRow.frozenAt h.2 _, World.ownsRow.frozenAt h.2 _⟩
theorem EO.setI {w : World} {B g n c : Nat} {L : List Ent} (h : EO w B (some ⟨g, 0, none⟩) n c L) (i : Nat) (hi : i < n) (x : Int) : EO (w.setCell ⟨g, i * 2, none⟩ (.int .i64 x)) B (some ⟨g, 0, none⟩) n c (L.set i ⟨x, scL L i⟩) := by
  have hl : i < L.length := by rw [h.1]; exact hi
  refine ⟨by rw [List.length_set]; exact h.1, ?_⟩
  have := (World.ownsRow.stored h.2 (i * 2) (.int .i64 x)).1
  have e := KE.row_set L i hl ⟨x, scL L i⟩ 0 (.int .i64 x) (by rw [scL_at L i hl]; rfl) (by decide)
  rw [show i * KE.k + 0 = i * 2 from rfl] at e
  rw [e] at this
  exact this
theorem EO.setS {w : World} {B g n c : Nat} {L : List Ent} (h : EO w B (some ⟨g, 0, none⟩) n c L) (i : Nat) (hi : i < n) (x : Int) : EO (w.setCell ⟨g, i * 2 + 1, none⟩ (.int .i64 x)) B (some ⟨g, 0, none⟩) n c (L.set i ⟨nuL L i, x⟩) := by
  have hl : i < L.length := by rw [h.1]; exact hi
  refine ⟨by rw [List.length_set]; exact h.1, ?_⟩
  have := (World.ownsRow.stored h.2 (i * 2 + 1) (.int .i64 x)).1
  have e := KE.row_set L i hl ⟨nuL L i, x⟩ 1 (.int .i64 x) (by rw [nuL_at L i hl]; rfl) (by decide)
  rw [show i * KE.k + 1 = i * 2 + 1 from rfl] at e
  rw [e] at this
  exact this
theorem EntPost.eo {w w' : World} {l : List Ent} {e : Ending} (h : EntPost w l e w') : ∃ A c, e = .returned (.slice A l.length c) ∧ EO w' w.heap.size A l.length c l ∧ Below w.heap.size w w' := by
  obtain ⟨A, c, rfl, ho, hb⟩ := h
  exact ⟨A, c, rfl, ⟨rfl, ho⟩, hb⟩
/-- The first k turned by F. -/
def trn (F : Nat → Ent → Ent) (l : List Ent) (k : Nat) : List Ent := (List.range l.length).map fun j => if j < k then F j (nth l j) else nth l j
theorem trn_len (F : Nat → Ent → Ent) (l : List Ent) (k : Nat) : (trn F l k).length = l.length := by simp [trn]
theorem trn_at (F : Nat → Ent → Ent) (l : List Ent) (k j : Nat) (h : j < l.length) : nth (trn F l k) j = if j < k then F j (nth l j) else nth l j := by
  rw [nth_at _ j (by rw [trn_len]; exact h)]
  simp [trn]
theorem trn_zero (F : Nat → Ent → Ent) (l : List Ent) : trn F l 0 = l := by
  apply List.ext_getElem
  · exact trn_len F l 0
  · intro i h1 h2
    have := trn_at F l 0 i h2
    rw [nth_at _ i h1, nth_at _ i h2, if_neg (by omega)] at this
    exact this
theorem trn_set (F : Nat → Ent → Ent) (l : List Ent) (k : Nat) (_h : k < l.length) : (trn F l k).set k (F k (nth l k)) = trn F l (k + 1) := by
  unfold trn
  apply List.ext_getElem
  · simp
  · intro i h1 h2
    rw [List.getElem_set, List.getElem_map, List.getElem_map, List.getElem_range]
    by_cases e : k = i
    · subst e
      rw [if_pos rfl, if_pos (by omega)]
    · rw [if_neg e]
      by_cases h : i < k
      · rw [if_pos h, if_pos (by omega)]
      · rw [if_neg h, if_neg (by omega)]
theorem trn_low (F : Nat → Ent → Ent) (l : List Ent) (k : Nat) (h : k < l.length) : scL (trn F l k) k = scL l k ∧ nuL (trn F l k) k = nuL l k := by
  have := trn_at F l k k h
  rw [if_neg (by omega)] at this
  rw [← nth_sc, ← nth_nu, this]
  exact ⟨rfl, rfl⟩
theorem trn_end (F : Nat → Ent → Ent) (l : List Ent) : trn F l l.length = (List.range l.length).map fun j => F j (nth l j) := by
  unfold trn
  apply List.map_congr_left
  intro k hk
  rw [List.mem_range] at hk
  rw [if_pos hk]
def numF (j : Nat) (x : Ent) : Ent := ⟨(j : Int), x.sc⟩
theorem num_end (l : List Ent) : trn numF l l.length = idxL l := trn_end numF l
theorem num_step (l : List Ent) (k : Nat) (h : k < l.length) : (trn numF l k).set k ⟨(k : Int), scL (trn numF l k) k⟩ = trn numF l (k + 1) := by
  rw [(trn_low numF l k h).1, ← trn_set numF l k h]
  rfl

end Go.Proofs.Ytmmggalcebepeaa
