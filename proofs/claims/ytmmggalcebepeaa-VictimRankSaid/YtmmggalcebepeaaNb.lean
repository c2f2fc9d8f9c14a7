/-
  Entries numbered by their places, and entries with other scores in the same order: plain facts. No condition.
-/
import Derived.Test.YtmmggalcebepeaaNa
namespace Go.Proofs.Ytmmggalcebepeaa
open Go.RowKit
set_option maxRecDepth 100000

/-- Numbered by their places. -/
def idxL (l : List Ent) : List Ent := (List.range l.length).map fun k : Nat => ⟨(k : Int), scL l k⟩
theorem idxL_len (l : List Ent) : (idxL l).length = l.length := by simp [idxL]
theorem idxL_at (l : List Ent) (k : Nat) (h : k < (idxL l).length) : (idxL l)[k] = ⟨(k : Int), scL l k⟩ := by simp [idxL]
theorem idxL_sc (l : List Ent) (k : Nat) (h : k < l.length) : scL (idxL l) k = scL l k := by rw [scL_at _ k (by rw [idxL_len]; exact h), idxL_at]
theorem idxL_nu (l : List Ent) (k : Nat) (h : k < l.length) : nuL (idxL l) k = k := by rw [nuL_at _ k (by rw [idxL_len]; exact h), idxL_at]
/-- The order, as places. -/
def rnkN (pol : Int) (l : List Ent) : List Nat := (rnkE pol l.length (idxL l)).map fun e => e.i.toNat
theorem rnkN_len (pol : Int) (l : List Ent) : (rnkN pol l).length = l.length := by unfold rnkN; rw [List.length_map, rnkE_len]
theorem rnkN_at (pol : Int) (l : List Ent) (k : Nat) (h : k < (rnkN pol l).length) (h2 : k < (rnkE pol l.length (idxL l)).length) : (rnkN pol l)[k] = (rnkE pol l.length (idxL l))[k].i.toNat := by simp only [rnkN, List.getElem_map]
theorem rnkN_perm (pol : Int) (l : List Ent) : (rnkN pol l).Perm (List.range l.length) := by
  unfold rnkN
  have h := (rnkE_perm pol l.length (idxL l) (idxL_len l)).map fun e : Ent => e.i.toNat
  have e : (idxL l).map (fun e : Ent => e.i.toNat) = List.range l.length := by
    unfold idxL
    rw [List.map_map]
    conv => rhs; rw [← List.map_id (List.range l.length)]
    apply List.map_congr_left
    intro k _
    simp
  rw [e] at h
  exact h
theorem rnkN_rank (pol : Int) (l : List Ent) : rank pol (idxL l) = (rnkN pol l).map fun k : Nat => (k : Int) := by
  unfold rank rnkN
  rw [List.map_map, idxL_len]
  apply List.map_congr_left
  intro e he
  have hm := (rnkE_perm pol l.length (idxL l) (idxL_len l)).mem_iff.1 he
  obtain ⟨k, hk, rfl⟩ := List.mem_iff_getElem.1 hm
  rw [idxL_at]
  simp
theorem rnkN_lt (pol : Int) (l : List Ent) (i : Nat) (h : i < (rnkN pol l).length) : (rnkN pol l)[i] < l.length := by
  have := (rnkN_perm pol l).mem_iff.1 (List.getElem_mem h)
  exact List.mem_range.1 this
theorem rnkN_once (pol : Int) (l : List Ent) : (rnkN pol l).Nodup := (rnkN_perm pol l).nodup_iff.2 List.nodup_range
theorem rnkN_new (pol : Int) (l : List Ent) (i : Nat) (h : i < (rnkN pol l).length) : (rnkN pol l)[i] ∉ (rnkN pol l).take i := by
  intro hm
  obtain ⟨j, hj, e⟩ := List.mem_iff_getElem.1 hm
  rw [List.getElem_take] at e
  rw [List.length_take] at hj
  exact List.pairwise_iff_getElem.1 (rnkN_once pol l) j i (by omega) h (by omega) e
theorem rnkN_lru (pol : Int) (hp : pol ≠ 1) (l : List Ent) (i : Nat) (h : i < (rnkN pol l).length) : (rnkN pol l)[i] = l.length - 1 - i := by
  have e : rnkN pol l = (List.range l.length).reverse := by
    unfold rnkN
    rw [rnkE_lru pol hp l.length (idxL l) (idxL_len l), List.map_reverse]
    congr 1
    unfold idxL
    rw [List.map_map]
    conv => rhs; rw [← List.map_id (List.range l.length)]
    apply List.map_congr_left
    intro k _
    simp
  simp only [e]
  rw [List.getElem_reverse, List.getElem_range]
  simp
theorem rnkN_rise (l : List Ent) (i j : Nat) (h : j < (rnkN 1 l).length) (hij : i < j) : scL l (rnkN 1 l)[i] ≤ scL l (rnkN 1 l)[j] := by
  have h2 := rnkE_rise l.length (idxL l) (idxL_len l)
  have key : ∀ k, (hk : k < (rnkN 1 l).length) → ∃ hk2 : k < (rnkE 1 l.length (idxL l)).length, scL l (rnkN 1 l)[k] = (rnkE 1 l.length (idxL l))[k].sc := by
    intro k hk
    have hk2 : k < (rnkE 1 l.length (idxL l)).length := by rw [rnkE_len]; rw [rnkN_len] at hk; exact hk
    refine ⟨hk2, ?_⟩
    have hm := (rnkE_perm 1 l.length (idxL l) (idxL_len l)).mem_iff.1 (List.getElem_mem hk2)
    obtain ⟨m, hm1, e⟩ := List.mem_iff_getElem.1 hm
    have hm2 : m < l.length := by rw [idxL_len] at hm1; exact hm1
    have e2 : (rnkN 1 l)[k] = m := by
      rw [rnkN_at 1 l k hk hk2, ← e, idxL_at]
      simp
    rw [e2, ← e, idxL_at]
  obtain ⟨hi2, ei⟩ := key i (by omega)
  obtain ⟨hj2, ej⟩ := key j h
  rw [ei, ej]
  exact List.pairwise_iff_getElem.1 h2 i j hi2 hj2 hij
theorem rnkN_first (pol : Int) (l : List Ent) (h : 0 < (rnkN pol l).length) : (rnkN pol l)[0] = whr pol (idxL l) := by
  have hl : 0 < l.length := by rw [rnkN_len] at h; exact h
  obtain ⟨n, hn⟩ : ∃ n, l.length = n + 1 := ⟨l.length - 1, by omega⟩
  have hw := whr_lt pol (idxL l) (by rw [idxL_len]; exact hl)
  have e : (rnkE pol l.length (idxL l))[0]'(by rw [rnkE_len]; exact hl) = (idxL l)[whr pol (idxL l)] := by
    simp only [hn, rnkE_succ, List.getElem_cons_zero]
    rw [List.getD_eq_getElem?_getD, List.getElem?_eq_getElem hw]
    rfl
  rw [rnkN_at pol l 0 h (by rw [rnkE_len]; exact hl), e, idxL_at]
  simp

/-- Other scores in the same order. -/
theorem lgt_map (f : Ent → Ent) (hf : ∀ x y, (f x).sc < (f y).sc ↔ x.sc < y.sc) (l : List Ent) : ∀ (k a : Nat), k ≤ l.length → a < l.length → lgt (l.map f) k a = lgt l k a
  | 0, _, _, _ => rfl
  | k + 1, a, hk, ha => by
    rw [lgt_succ, lgt_succ]
    have e : (scL (l.map f) k < scL (l.map f) a) ↔ (scL l k < scL l a) := by
      rw [scL_at _ k (by simp; omega), scL_at _ a (by simp; exact ha), scL_at l k (by omega), scL_at l a ha, List.getElem_map, List.getElem_map]
      exact hf _ _
    by_cases c : scL l k < scL l a
    · rw [if_pos c, if_pos (e.2 c)]
      exact lgt_map f hf l k k (by omega) (by omega)
    · rw [if_neg c, if_neg (fun h => c (e.1 h))]
      exact lgt_map f hf l k a (by omega) ha
theorem whr_map (f : Ent → Ent) (hf : ∀ x y, (f x).sc < (f y).sc ↔ x.sc < y.sc) (pol : Int) (l : List Ent) (h : 0 < l.length) : whr pol (l.map f) = whr pol l := by
  unfold whr
  rw [List.length_map]
  split
  · exact lgt_map f hf l _ _ (Nat.le_refl _) (by omega)
  · rfl
theorem erase_map (f : Ent → Ent) : ∀ (l : List Ent) (i : Nat), (l.eraseIdx i).map f = (l.map f).eraseIdx i
  | [], _ => by simp
  | x :: l, 0 => rfl
  | x :: l, i + 1 => by rw [List.eraseIdx_cons_succ, List.map_cons, List.map_cons, List.eraseIdx_cons_succ, erase_map f l i]
theorem rnkE_map (f : Ent → Ent) (hf : ∀ x y, (f x).sc < (f y).sc ↔ x.sc < y.sc) (pol : Int) : ∀ (n : Nat) (l : List Ent), l.length = n → rnkE pol n (l.map f) = (rnkE pol n l).map f
  | 0, _, _ => rfl
  | n + 1, l, h => by
    have hw := whr_lt pol l (by omega)
    rw [rnkE_succ, rnkE_succ, whr_map f hf pol l (by omega), List.map_cons, ← rnkE_map f hf pol n _ (by rw [erase_len pol l (by omega)]; omega)]
    congr 1
    · rw [List.getD_eq_getElem?_getD, List.getD_eq_getElem?_getD, List.getElem?_map, List.getElem?_eq_getElem hw]
      rfl
    · rw [erase_map]
theorem rank_map (f : Ent → Ent) (hf : ∀ x y, (f x).sc < (f y).sc ↔ x.sc < y.sc) (hi : ∀ x, (f x).i = x.i) (pol : Int) (l : List Ent) : rank pol (l.map f) = rank pol l := by
  unfold rank
  rw [List.length_map, rnkE_map f hf pol _ l rfl, List.map_map]
  apply List.map_congr_left
  intro x _
  exact hi x
theorem rank_lru (pol : Int) (hp : pol ≠ 1) (l : List Ent) : rank pol l = (l.map (·.i)).reverse := by
  unfold rank
  rw [rnkE_lru pol hp _ l rfl, List.map_reverse]

end Go.Proofs.Ytmmggalcebepeaa
