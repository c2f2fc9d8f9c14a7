/-
  What Set, Mask, Fill and Next of the document's answer for layer 1 return. No condition.
-/
import Derived.Test.YtfebhfghjdedhaaDoorRefD
import Derived.Test.YtfebhfghjdedhaaDoorLawN
namespace Go.Proofs.YtfebhfghjdedhaaDoor
open Go.RowKit

/-- An address out of its own digits. -/
theorem of_eq (x : Ad) (dl : Nat → Int) (hx : norm x = x) (hd : ∀ k, k < wd x.v6 → dl k = if D x (127 - k) then 1 else 0) : ofv dl x.v6 = x := by
  have hw := wd_lb x.v6
  have hb : ∀ j, j < wd x.v6 → 0 ≤ dl j ∧ dl j ≤ 1 := by
    intro j hj
    rw [hd j hj]
    split <;> omega
  rw [← of_norm dl x.v6 hb, ← hx]
  show norm (ofv dl x.v6) = _
  rw [← hx]
  have e : norm (ofv dl x.v6) = norm x := by
    refine norm_ext rfl fun j => ?_
    by_cases hj : j < 128
    · rw [D_P, P_of dl _ hb j hj]
      show (_ && decide (lb x.v6 ≤ j)) = _
      by_cases hl : lb x.v6 ≤ j
      · have h1 : 127 - j < wd x.v6 := by omega
        rw [hd _ h1, show 127 - (127 - j) = j from by omega]
        cases D x j <;> simp [hl, h1]
      · rw [D_low x j (by omega)]
        simp [hl]
    · rw [D_ge _ j (by omega), D_ge _ j (by omega)]
  simpa [hx] using e

theorem next_digits (a : Ad) (h : (nextv a).2 = true) : ∃ k, k < wd a.v6 ∧ D a (127 - k) = false ∧ D (nextv a).1 (127 - k) = true ∧ (∀ j, j < 127 - k → D a j = decide (lb a.v6 ≤ j) ∧ D (nextv a).1 j = false) ∧ ∀ j, 127 - k < j → D a j = D (nextv a).1 j := by
  obtain ⟨h1, h2, _, h4⟩ := next_spec a
  have hV := h4 h
  have hw := wd_lb a.v6
  have hd := lb_dvd a
  obtain ⟨k, hk, hle, hall, hne⟩ := common_spec a (nextv a).1 h1.symm
  have hklt : k < wd a.v6 := by
    rcases Nat.lt_or_ge k (wd a.v6) with hlt | hge
    · exact hlt
    · exfalso
      have e : V a = V (nextv a).1 := by
        apply Nat.eq_of_testBit_eq
        intro j
        by_cases hj : lb a.v6 ≤ j
        · exact hall j (by omega)
        · exact (D_low a j (by omega)).trans (D_low (nextv a).1 j (by rw [h1]; omega)).symm
      have : 0 < 2 ^ lb a.v6 := Nat.two_pow_pos _
      omega
  obtain ⟨b1, b2, b3⟩ := step_bits (V a) (lb a.v6) (127 - k) (by omega) hd (fun j hj => by
    have := hall j (by omega)
    unfold D at this
    rw [hV] at this
    exact this) (by
    have := hne hklt
    unfold D at this
    rw [hV] at this
    exact this)
  have c2 : D (nextv a).1 (127 - k) = true := by unfold D; rw [hV]; exact b2
  refine ⟨k, hklt, b1, c2, fun j hj => ⟨(b3 j hj).1, ?_⟩, fun j hj => hall j (by omega)⟩
  unfold D
  rw [hV]
  exact (b3 j hj).2

/-- All digits ones: there is no next one. -/
theorem next_stops (a : Ad) (h : ∀ j : Nat, j < wd a.v6 → rawv a j = 1) : nextv a = (norm a, false) := by
  have e : (nextv a).2 = false := by
    cases hn : (nextv a).2
    · rfl
    · obtain ⟨k, hk, h0, _⟩ := next_digits a hn
      have := h k hk
      rw [rawv_D a k hk, h0] at this
      simp at this
  obtain ⟨_, _, h3, _⟩ := next_spec a
  rw [← (h3 e).2, ← e]
/-- The last nought becomes one, the ones behind it noughts. -/
theorem next_goes (a : Ad) (x : Nat) (hx : x < wd a.v6) (h0 : rawv a x ≠ 1) (h : ∀ j : Nat, x < j → j < wd a.v6 → rawv a j = 1) :
    (nextv a).2 = true ∧ ofv (fun j => if j = x then 1 else if x < j then 0 else rawv a j) a.v6 = (nextv a).1 := by
  have hw := wd_lb a.v6
  have hx0 : D a (127 - x) = false := by
    rw [rawv_D a x hx] at h0
    cases hd : D a (127 - x)
    · rfl
    · rw [hd] at h0; simp at h0
  have hn : (nextv a).2 = true := by
    cases hn : (nextv a).2
    · exfalso
      obtain ⟨_, _, h3, _⟩ := next_spec a
      have e := (h3 hn).1
      have : D a (127 - x) = true := by
        unfold D
        rw [e]
        unfold top
        rw [ones_bit _ _ _ (by omega)]
        simp; omega
      rw [hx0] at this
      cases this
    · rfl
  refine ⟨hn, ?_⟩
  obtain ⟨h1, h2, _, _⟩ := next_spec a
  obtain ⟨k, hk, c1, c2, c3, c4⟩ := next_digits a hn
  obtain rfl : x = k := by
    rcases Nat.lt_trichotomy x k with hlt | he | hgt
    · have := h k hlt hk
      rw [rawv_D a k hk, c1] at this
      simp at this
    · exact he
    · have := (c3 (127 - x) (by omega)).1
      rw [hx0] at this
      have hl : lb a.v6 ≤ 127 - x := by omega
      simp [hl] at this
  have := of_eq (nextv a).1 (fun j => if j = x then 1 else if x < j then 0 else rawv a j) h2 (fun j hj => ?_)
  · rw [h1] at this
    exact this
  · rw [h1] at hj
    show (if j = x then (1 : Int) else if x < j then 0 else rawv a j) = _
    by_cases e : j = x
    · subst e
      rw [if_pos rfl, c2]; rfl
    · rw [if_neg e]
      by_cases e2 : x < j
      · rw [if_pos e2, (c3 (127 - j) (by omega)).2]; rfl
      · rw [if_neg e2, rawv_D a j hj, c4 (127 - j) (by omega)]

theorem of_raw (a : Ad) : ofv (fun j => rawv a j) a.v6 = norm a :=
  of_eq (norm a) _ (norm_norm a) fun k hk => by rw [rawv_D a k hk, D_norm]
theorem of_set (a : Ad) (k : Nat) (v : Int) (hk : k < wd a.v6) : ofv (fun j => if j = k then bits .and .i64 v 1 else rawv a j) a.v6 = setv a k v := by
  have hw := wd_lb a.v6
  have hv : (setv a k v).v6 = a.v6 := by
    unfold setv
    split
    · split <;> rfl
    · rfl
  have := of_eq (setv a k v) (fun j => if j = k then bits .and .i64 v 1 else rawv a j) (set_norm a k v) (fun j hj => ?_)
  · rw [hv] at this
    exact this
  · rw [hv] at hj
    rw [D_set a k v hk]
    show (if j = k then bits .and .i64 v 1 else rawv a j) = _
    by_cases e : j = k
    · subst e
      rw [if_pos rfl, if_pos rfl, and1_odd]
    · rw [if_neg e, if_neg (show ¬ 127 - j = 127 - k by omega), rawv_D a j hj]
theorem set_out (a : Ad) (i v : Int) (h : ¬ (0 ≤ i ∧ i < wid a.v6)) : setv a i v = norm a := by
  unfold setv
  have : inW a.v6 i = false := by
    unfold inW
    rw [← Bool.decide_and, decide_eq_false_iff_not]
    exact h
  rw [this]
  exact norm_norm _
theorem of_mask (a : Ad) (n : Int) : ofv (fun j => if (max n 0).toNat ≤ j then 0 else rawv a j) a.v6 = maskv a n := by
  have hw := wd_lb a.v6
  refine of_eq (maskv a n) _ (mask_norm a n) fun j hj => ?_
  have hj' : j < wd a.v6 := hj
  rw [D_mask]
  unfold clamp
  rw [wid_wd]
  by_cases e : (max n 0).toNat ≤ j
  · have : ¬ 128 ≤ (((127 - j : Nat) : Int) + min (max n 0) (wd a.v6 : Int)) := by omega
    rw [if_pos e]
    simp [this]
  · have : 128 ≤ (((127 - j : Nat) : Int) + min (max n 0) (wd a.v6 : Int)) := by omega
    rw [if_neg e, rawv_D a j hj']
    simp [this]
theorem of_fill (a : Ad) (n : Int) : ofv (fun j => if (max n 0).toNat ≤ j then 1 else rawv a j) a.v6 = fillv a n := by
  have hw := wd_lb a.v6
  refine of_eq (fillv a n) _ (fill_norm a n) fun j hj => ?_
  have hj' : j < wd a.v6 := hj
  rw [D_fill]
  unfold clamp
  rw [wid_wd]
  have hl : lb a.v6 ≤ 127 - j := by omega
  by_cases e : (max n 0).toNat ≤ j
  · have : (((127 - j : Nat) : Int) + min (max n 0) (wd a.v6 : Int)) < 128 := by omega
    rw [if_pos e]
    simp [this, hl]
  · have : ¬ (((127 - j : Nat) : Int) + min (max n 0) (wd a.v6 : Int)) < 128 := by omega
    rw [if_neg e, rawv_D a j hj']
    simp [this]

end Go.Proofs.YtfebhfghjdedhaaDoor
