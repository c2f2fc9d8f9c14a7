/-
  Entries, and which one has to go: plain facts. No condition.
-/
import Derived.Test.YtmmggalcebepeaaNm
import Derived.Test.YtmmggalcebepeaaRn
namespace Go.Proofs.Ytmmggalcebepeaa
open Go.RowKit
set_option maxRecDepth 100000

structure Ent where
  i : Int
  sc : Int
deriving DecidableEq
def entE (x : Ent) : List Value := [.int .i64 x.i, .int .i64 x.sc]
def KE : Kd Ent := ⟨entE, 2, by decide, fun _ => rfl, fun x u h => by simp [entE] at h; rcases h with rfl | rfl <;> rfl⟩
def en0 : Ent := ⟨0, 0⟩
def scL (l : List Ent) (k : Nat) : Int := (l.getD k en0).sc
def nuL (l : List Ent) (k : Nat) : Int := (l.getD k en0).i
theorem scL_at (l : List Ent) (k : Nat) (h : k < l.length) : scL l k = l[k].sc := by unfold scL; rw [List.getD_eq_getElem?_getD, List.getElem?_eq_getElem h]; rfl
theorem nuL_at (l : List Ent) (k : Nat) (h : k < l.length) : nuL l k = l[k].i := by unfold nuL; rw [List.getD_eq_getElem?_getD, List.getElem?_eq_getElem h]; rfl
/-- From place k - 1 down: the one with the least score, at least as late as others with that score. -/
def lgt (l : List Ent) : Nat → Nat → Nat
  | 0, a => a
  | k + 1, a => lgt l k (if scL l k < scL l a then k else a)
theorem lgt_succ (l : List Ent) (k a : Nat) : lgt l (k + 1) a = lgt l k (if scL l k < scL l a then k else a) := rfl
def whr (pol : Int) (l : List Ent) : Nat := if pol = 1 then lgt l l.length (l.length - 1) else l.length - 1
theorem lgt_spec (l : List Ent) : ∀ (k a : Nat), a < l.length → k ≤ l.length → (∀ j, k ≤ j → j < l.length → scL l a ≤ scL l j) → (∀ j, a < j → j < l.length → scL l a < scL l j) → (k ≤ a ∨ True) →
    lgt l k a < l.length ∧ (∀ j, j < l.length → scL l (lgt l k a) ≤ scL l j) ∧ (∀ j, lgt l k a < j → j < l.length → scL l (lgt l k a) < scL l j)
  | 0, a, ha, _, h1, h2, _ => ⟨ha, fun j hj => h1 j (Nat.zero_le _) hj, h2⟩
  | k + 1, a, ha, hk, h1, h2, _ => by
    rw [lgt_succ]
    by_cases c : scL l k < scL l a
    · rw [if_pos c]
      refine lgt_spec l k k (by omega) (by omega) (fun j h3 h4 => ?_) (fun j h3 h4 => ?_) (.inr trivial)
      · rcases Nat.eq_or_lt_of_le h3 with rfl | h5
        · exact Int.le_refl _
        · have := h1 j h5 h4
          omega
      · have := h1 j h3 h4
        omega
    · rw [if_neg c]
      refine lgt_spec l k a ha (by omega) (fun j h3 h4 => ?_) h2 (.inr trivial)
      rcases Nat.eq_or_lt_of_le h3 with rfl | h5
      · omega
      · exact h1 j h5 h4
theorem whr_lt (pol : Int) (l : List Ent) (h : 0 < l.length) : whr pol l < l.length := by
  unfold whr
  split
  · exact (lgt_spec l l.length (l.length - 1) (by omega) (Nat.le_refl _) (fun j h1 h2 => by omega) (fun j h1 h2 => by omega) (.inr trivial)).1
  · omega
theorem whr_light (l : List Ent) (h : 0 < l.length) : (∀ j, j < l.length → scL l (whr 1 l) ≤ scL l j) ∧ (∀ j, whr 1 l < j → j < l.length → scL l (whr 1 l) < scL l j) := by
  unfold whr
  rw [if_pos rfl]
  exact (lgt_spec l l.length (l.length - 1) (by omega) (Nat.le_refl _) (fun j h1 h2 => by omega) (fun j h1 h2 => by omega) (.inr trivial)).2
theorem whr_lru (pol : Int) (hp : pol ≠ 1) (l : List Ent) : whr pol l = l.length - 1 := by unfold whr; rw [if_neg hp]
/-- The order in which they would have to go: the entries. -/
def rnkE (pol : Int) : Nat → List Ent → List Ent
  | 0, _ => []
  | n + 1, l => l.getD (whr pol l) en0 :: rnkE pol n (l.eraseIdx (whr pol l))
theorem rnkE_succ (pol : Int) (n : Nat) (l : List Ent) : rnkE pol (n + 1) l = l.getD (whr pol l) en0 :: rnkE pol n (l.eraseIdx (whr pol l)) := rfl
def rank (pol : Int) (l : List Ent) : List Int := (rnkE pol l.length l).map (·.i)
theorem rnkE_len (pol : Int) : ∀ (n : Nat) (l : List Ent), (rnkE pol n l).length = n
  | 0, _ => rfl
  | n + 1, l => by rw [rnkE_succ, List.length_cons, rnkE_len pol n]
theorem rank_len (pol : Int) (l : List Ent) : (rank pol l).length = l.length := by unfold rank; rw [List.length_map, rnkE_len]
theorem erase_len (pol : Int) (l : List Ent) (h : 0 < l.length) : (l.eraseIdx (whr pol l)).length = l.length - 1 := by rw [List.length_eraseIdx_of_lt (whr_lt pol l h)]
theorem cons_erase : ∀ (l : List Ent) (i : Nat) (h : i < l.length), (l[i] :: l.eraseIdx i).Perm l
  | [], _, h => by simp at h
  | x :: l, 0, _ => List.Perm.refl _
  | x :: l, i + 1, h => by
    rw [List.eraseIdx_cons_succ, List.getElem_cons_succ]
    exact (List.Perm.swap _ _ _).trans (List.Perm.cons _ (cons_erase l i (by simpa using h)))
theorem rnkE_perm (pol : Int) : ∀ (n : Nat) (l : List Ent), l.length = n → (rnkE pol n l).Perm l
  | 0, l, h => by rw [List.eq_nil_of_length_eq_zero h]; exact List.Perm.refl _
  | n + 1, l, h => by
    rw [rnkE_succ]
    have hw := whr_lt pol l (by omega)
    have ih := rnkE_perm pol n (l.eraseIdx (whr pol l)) (by rw [erase_len pol l (by omega)]; omega)
    have e : l.getD (whr pol l) en0 = l[whr pol l] := by rw [List.getD_eq_getElem?_getD, List.getElem?_eq_getElem hw]; rfl
    rw [e]
    exact (List.Perm.cons _ ih).trans (cons_erase l _ hw)
/-- Scores rise along the order, by Light. -/
theorem rnkE_rise : ∀ (n : Nat) (l : List Ent), l.length = n → (rnkE 1 n l).Pairwise fun a b => a.sc ≤ b.sc
  | 0, l, h => List.Pairwise.nil
  | n + 1, l, h => by
    rw [rnkE_succ]
    have hw := whr_lt 1 l (by omega)
    have hl : (l.eraseIdx (whr 1 l)).length = n := by rw [erase_len 1 l (by omega)]; omega
    have ih := rnkE_rise n (l.eraseIdx (whr 1 l)) hl
    refine List.Pairwise.cons (fun b hb => ?_) ih
    have hb2 := (rnkE_perm 1 n _ hl).mem_iff.1 hb
    have hb3 : b ∈ l := List.mem_of_mem_eraseIdx hb2
    obtain ⟨j, hj, rfl⟩ := List.mem_iff_getElem.1 hb3
    have := (whr_light l (by omega)).1 j hj
    rw [scL_at l j hj] at this
    exact this
/-- By LRU the last one goes first. -/
theorem rnkE_lru (pol : Int) (hp : pol ≠ 1) : ∀ (n : Nat) (l : List Ent), l.length = n → rnkE pol n l = l.reverse
  | 0, l, h => by rw [List.eq_nil_of_length_eq_zero h]; rfl
  | n + 1, l, h => by
    rw [rnkE_succ, whr_lru pol hp]
    have hne : l ≠ [] := by rintro rfl; simp at h
    have e1 : l.eraseIdx (l.length - 1) = l.dropLast := by rw [List.eraseIdx_length_sub_one]
    have e2 : l.getD (l.length - 1) en0 = l.getLast hne := by
      rw [List.getD_eq_getElem?_getD, List.getElem?_eq_getElem (by omega), Option.getD_some, List.getLast_eq_getElem]
    rw [e1, rnkE_lru pol hp n l.dropLast (by simp [h]), e2]
    conv => rhs; rw [← List.dropLast_concat_getLast hne]
    simp

end Go.Proofs.Ytmmggalcebepeaa
