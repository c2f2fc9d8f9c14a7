/-
  The order in which entries would have to go, told by places: plain facts. No condition.
-/
import Derived.Test.YtmmggalcebepeaaNf
namespace Go.Proofs.Ytmmggalcebepeaa
set_option maxRecDepth 100000

def cmp12 (x y : Int) : Int := if x < y then -1 else if y < x then 1 else 0
theorem cmp12_lt (x y : Int) : cmp12 x y < 0 ↔ x < y := by
  unfold cmp12
  repeat' split
  all_goals omega
theorem cmp12_le (x y : Int) : cmp12 x y ≤ 0 ↔ x ≤ y := by
  unfold cmp12
  repeat' split
  all_goals omega
/-- The one at place i has to go ahead of the one at place j. -/
def TT (pol : Int) (l : List Ent) (i j : Nat) : Prop := if pol = 1 then (scL l i < scL l j ∨ scL l i = scL l j ∧ j < i) else j < i
def cfP (pol : Int) (l : List Ent) (i j : Nat) : Int := if pol = 1 then cmp12 (scL l i) (scL l j) else 0
theorem tt_tol (pol : Int) (l : List Ent) : Tol (TT pol l) (cfP pol l) := by
  refine ⟨fun x y z => ?_, fun x y h => ?_, fun x y h => ?_⟩
  all_goals
    unfold TT
    try unfold cfP
    split
  · omega
  · omega
  · rw [cmp12_lt]; omega
  · omega
  · rw [cmp12_lt]; omega
  · omega
theorem tt_le (pol : Int) (l : List Ent) (x y : Nat) (h : y < x) : (cfP pol l x y ≤ 0 → TT pol l x y) ∧ (¬ cfP pol l x y ≤ 0 → TT pol l y x) := by
  unfold TT cfP
  split
  · rw [cmp12_le]; omega
  · omega
theorem tt_no (pol : Int) (l : List Ent) (x y : Nat) (h : TT pol l x y) (k : TT pol l y x) : False := by
  unfold TT at h k
  split at h <;> rename_i hp
  · rw [if_pos hp] at k; omega
  · rw [if_neg hp] at k; omega
theorem whr_tt (pol : Int) (l : List Ent) (h : 0 < l.length) (j : Nat) (hj : j < l.length) (hne : j ≠ whr pol l) : TT pol l (whr pol l) j := by
  unfold TT
  by_cases hp : pol = 1
  · rw [if_pos hp]
    subst hp
    obtain ⟨h1, h2⟩ := whr_light l h
    have := h1 j hj
    by_cases h3 : whr 1 l < j
    · exact .inl (h2 j h3 hj)
    · omega
  · rw [if_neg hp]
    rw [whr_lru pol hp] at hne ⊢
    omega
theorem tt_whr (pol : Int) (l : List Ent) (x : Nat) (hx : x < l.length) (h : ∀ j, j < l.length → j ≠ x → TT pol l x j) : x = whr pol l := by
  by_cases e : x = whr pol l
  · exact e
  · exact (tt_no pol l _ _ (h _ (whr_lt pol l (by omega)) (Ne.symm e)) (whr_tt pol l (by omega) x hx e)).elim
/-- The first of k. -/
def Fst (pol : Int) (l : List Ent) (k x : Nat) : Prop := x < k ∧ ∀ j, j < k → j ≠ x → TT pol l x j
theorem fst_one (pol : Int) (l : List Ent) : Fst pol l 1 0 := ⟨by omega, fun j h1 h2 => by omega⟩
theorem fst_yes (pol : Int) (l : List Ent) (k x : Nat) (h : Fst pol l k x) (hc : cfP pol l k x ≤ 0) : Fst pol l (k + 1) k := by
  have h1 := (tt_le pol l k x h.1).1 hc
  refine ⟨by omega, fun j h2 h3 => ?_⟩
  by_cases e : j = x
  · rw [e]; exact h1
  · exact (tt_tol pol l).tr _ _ _ h1 (h.2 j (by omega) e)
theorem fst_no (pol : Int) (l : List Ent) (k x : Nat) (h : Fst pol l k x) (hc : ¬ cfP pol l k x ≤ 0) : Fst pol l (k + 1) x := by
  refine ⟨by have := h.1; omega, fun j h2 h3 => ?_⟩
  by_cases e : j = k
  · rw [e]; exact (tt_le pol l k x h.1).2 hc
  · exact h.2 j (by omega) h3
/-- By Light those that are alike go from behind. -/
theorem rnkE_back : ∀ (n : Nat) (l : List Ent), l.length = n → (l.Pairwise fun a b => a.i < b.i) → (rnkE 1 n l).Pairwise fun a b => a.sc < b.sc ∨ a.sc = b.sc ∧ b.i < a.i
  | 0, l, h, _ => List.Pairwise.nil
  | n + 1, l, h, hp => by
    rw [rnkE_succ]
    have hw := whr_lt 1 l (by omega)
    have hl : (l.eraseIdx (whr 1 l)).length = n := by rw [erase_len 1 l (by omega)]; omega
    have ih := rnkE_back n (l.eraseIdx (whr 1 l)) hl (hp.sublist (List.eraseIdx_sublist _ _))
    refine List.Pairwise.cons (fun b hb => ?_) ih
    have hb2 := (rnkE_perm 1 n _ hl).mem_iff.1 hb
    obtain ⟨j, hj, hjw, rfl⟩ : ∃ j, ∃ hj : j < l.length, j ≠ whr 1 l ∧ l[j] = b := by
      rw [List.mem_eraseIdx_iff_getElem] at hb2
      obtain ⟨j, hj, h1, h2⟩ := hb2
      exact ⟨j, hj, h1, h2⟩
    have t := whr_tt 1 l (by omega) j hj hjw
    unfold TT at t
    rw [if_pos rfl, scL_at l _ hw, scL_at l j hj] at t
    have e : l.getD (whr 1 l) en0 = l[whr 1 l] := by rw [List.getD_eq_getElem?_getD, List.getElem?_eq_getElem hw]; rfl
    rw [e]
    rcases t with t | ⟨t1, t2⟩
    · exact .inl t
    · exact .inr ⟨t1, List.pairwise_iff_getElem.1 hp j _ hj hw t2⟩
theorem idxL_rise (l : List Ent) : (idxL l).Pairwise fun a b => a.i < b.i := by
  rw [List.pairwise_iff_getElem]
  intro i j h1 h2 h3
  rw [idxL_at, idxL_at]
  simp only
  omega
theorem rnkN_tt (pol : Int) (l : List Ent) : (rnkN pol l).Pairwise (TT pol l) := by
  rw [List.pairwise_iff_getElem]
  intro i j h1 h2 h3
  by_cases hp : pol = 1
  · subst hp
    have key : ∀ k, (hk : k < (rnkN 1 l).length) → ∃ hk2 : k < (rnkE 1 l.length (idxL l)).length, scL l (rnkN 1 l)[k] = (rnkE 1 l.length (idxL l))[k].sc ∧ (((rnkN 1 l)[k] : Nat) : Int) = (rnkE 1 l.length (idxL l))[k].i := by
      intro k hk
      have hk2 : k < (rnkE 1 l.length (idxL l)).length := by rw [rnkE_len]; rw [rnkN_len] at hk; exact hk
      refine ⟨hk2, ?_⟩
      have hm := (rnkE_perm 1 l.length (idxL l) (idxL_len l)).mem_iff.1 (List.getElem_mem hk2)
      obtain ⟨m, hm1, e⟩ := List.mem_iff_getElem.1 hm
      have hm2 : m < l.length := by rw [idxL_len] at hm1; exact hm1
      have e2 : (rnkN 1 l)[k] = m := by
        rw [rnkN_at 1 l k hk hk2, ← e, idxL_at]
        simp
      rw [e2, ← e, idxL_at]
      exact ⟨rfl, rfl⟩
    obtain ⟨i2, i3, i4⟩ := key i h1
    obtain ⟨j2, j3, j4⟩ := key j h2
    have := List.pairwise_iff_getElem.1 (rnkE_back l.length (idxL l) (idxL_len l) (idxL_rise l)) i j i2 j2 h3
    unfold TT
    rw [if_pos rfl, i3, j3]
    omega
  · unfold TT
    rw [if_neg hp, rnkN_lru pol hp l i h1, rnkN_lru pol hp l j h2]
    rw [rnkN_len] at h2
    omega
theorem idx_back (l : List Ent) : (idxL l).map (fun e => (⟨nuL l e.i.toNat, e.sc⟩ : Ent)) = l := by
  apply List.ext_getElem
  · simp [idxL_len]
  · intro k h1 h2
    rw [List.getElem_map, idxL_at]
    simp only [Int.toNat_natCast]
    rw [nuL_at l k h2, scL_at l k h2]
theorem rank_nuL (pol : Int) (l : List Ent) : rank pol l = (rnkN pol l).map (nuL l) := by
  have h := rnkE_map (fun e => (⟨nuL l e.i.toNat, e.sc⟩ : Ent)) (fun _ _ => Iff.rfl) pol l.length (idxL l) (idxL_len l)
  rw [idx_back] at h
  unfold rank rnkN
  rw [h, List.map_map, List.map_map]
  rfl
/-- What is sorted from behind is the order in which they would have to go. -/
theorem sorted_rank (pol : Int) (l : List Ent) (D0 D : Nat → Nat) (h0 : ∀ k, k < l.length → D0 k = l.length - 1 - k) (hp : Prm D0 D 0 l.length) (hs : Srt (TT pol l) D 0 l.length) : (List.range l.length).map D = rnkN pol l := by
  refine List.Perm.eq_of_pairwise (le := TT pol l) (fun a b _ _ h1 h2 => (tt_no pol l a b h1 h2).elim) ?_ (rnkN_tt pol l) ?_
  · rw [List.pairwise_iff_getElem]
    intro i j h1 h2 h3
    simp only [List.getElem_map, List.getElem_range]
    simp at h2
    exact hs i j (Nat.zero_le _) h3 h2
  · refine List.Perm.trans ?_ (rnkN_perm pol l).symm
    rw [List.perm_ext_iff_of_nodup ?_ List.nodup_range]
    · obtain ⟨s, t, h1, h2, h3, h4⟩ := hp
      have hin : ∀ k, k < l.length → s k < l.length := fun k hk => by
        by_cases e : s k < l.length
        · exact e
        · have e2 := h3 (s k) (by omega)
          have e3 := congrArg t e2
          rw [h1, h1] at e3
          omega
      have hin2 : ∀ k, k < l.length → t k < l.length := fun k hk => by
        by_cases e : t k < l.length
        · exact e
        · have e2 := h3 (t k) (by omega)
          rw [h2] at e2
          omega
      intro x
      rw [List.mem_map, List.mem_range]
      constructor
      · rintro ⟨k, hk, rfl⟩
        rw [List.mem_range] at hk
        rw [h4, h0 _ (hin k hk)]
        have := hin k hk
        omega
      · intro hx
        refine ⟨t (l.length - 1 - x), ?_, ?_⟩
        · rw [List.mem_range]
          exact hin2 _ (by omega)
        · rw [h4, h2, h0 _ (by omega)]
          omega
    · unfold List.Nodup
      rw [List.pairwise_iff_getElem]
      intro i j h1 h2 h3 h4
      simp only [List.getElem_map, List.getElem_range] at h4
      simp at h2
      have := hs i j (Nat.zero_le _) h3 h2
      rw [h4] at this
      exact tt_no pol l _ _ this this

end Go.Proofs.Ytmmggalcebepeaa
