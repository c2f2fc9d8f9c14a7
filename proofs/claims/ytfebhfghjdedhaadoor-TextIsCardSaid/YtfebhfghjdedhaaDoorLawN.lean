/-
  AddrNext returns true, whatever two addresses. No condition.
-/
import Derived.Test.YtfebhfghjdedhaaDoorMathN
import Derived.Test.YtfebhfghjdedhaaDoorLawD
namespace Go.Proofs.YtfebhfghjdedhaaDoor
open Go.RowKit

theorem cmp_neg (a b : Ad) : cmpv a b < 0 ↔ (a.v6 = b.v6 ∧ V a < V b) ∨ (a.v6 = false ∧ b.v6 = true) := by
  by_cases hv : a.v6 = b.v6
  · rw [cmp_V a b hv]
    by_cases h : V a < V b
    · simp [h, hv]
    · rw [if_neg h]
      constructor
      · intro h2
        exfalso
        revert h2
        split <;> omega
      · rintro (⟨_, h2⟩ | ⟨h2, h3⟩)
        · exact absurd h2 h
        · rw [hv, h3] at h2
          cases h2
  · rw [cmp_kind a b hv]
    cases h1 : a.v6 <;> cases h2 : b.v6 <;> simp_all

theorem next_none (a : Ad) (h : (nextv a).2 = false) : fillv a 0 = maskv a 128 := by
  obtain ⟨_, _, h3, _⟩ := next_spec a
  obtain ⟨e, _⟩ := h3 h
  rw [mask_end, ← fill_norm]
  refine norm_eq rfl ?_
  rw [fill_top, e]

theorem next_facts (a : Ad) (h : (nextv a).2 = true) : 0 ≤ commonv a (nextv a).1 ∧ commonv a (nextv a).1 < 128 ∧ bitv a (commonv a (nextv a).1) = 0 ∧ bitv (nextv a).1 (commonv a (nextv a).1) = 1 ∧
    fillv a (commonv a (nextv a).1 + 1) = maskv a 128 ∧ maskv (nextv a).1 (commonv a (nextv a).1 + 1) = (nextv a).1 := by
  obtain ⟨h1, h2, _, h4⟩ := next_spec a
  have hV := h4 h
  have hw := wd_lb a.v6
  have hd := lb_dvd a
  obtain ⟨k, hk, hle, hall, hne⟩ := common_spec a (nextv a).1 h1.symm
  have hklt : k < wd a.v6 := by
    rcases Nat.lt_or_ge k (wd a.v6) with hlt | hge
    · exact hlt
    · exfalso
      have e : V a = V (nextv a).1 := by
        apply Nat.eq_of_testBit_eq
        intro j
        by_cases hj : lb a.v6 ≤ j
        · exact hall j (by omega)
        · exact (D_low a j (by omega)).trans (D_low (nextv a).1 j (by rw [h1]; omega)).symm
      have : 0 < 2 ^ lb a.v6 := Nat.two_pow_pos _
      omega
  obtain ⟨b1, b2, b3⟩ := step_bits (V a) (lb a.v6) (127 - k) (by omega) hd (fun j hj => by
    have := hall j (by omega)
    unfold D at this
    rw [hV] at this
    exact this) (by
    have := hne hklt
    unfold D at this
    rw [hV] at this
    exact this)
  have c1 : D a (127 - k) = false := b1
  have c2 : D (nextv a).1 (127 - k) = true := by unfold D; rw [hV]; exact b2
  have c3 : ∀ j, j < 127 - k → D a j = decide (lb a.v6 ≤ j) ∧ D (nextv a).1 j = false := fun j hj => by
    refine ⟨(b3 j hj).1, ?_⟩
    unfold D
    rw [hV]
    exact (b3 j hj).2
  have hc : clamp a.v6 ((k : Int) + 1) = ((k + 1 : Nat) : Int) := by rw [← clamp_in a.v6 (k + 1) (by omega)]; rfl
  rw [hk]
  refine ⟨by omega, by omega, ?_, ?_, ?_, ?_⟩
  · rw [bitv_D a k hklt, c1]; rfl
  · rw [bitv_D _ k (by rw [h1]; exact hklt), c2]; rfl
  · rw [mask_end, ← fill_norm]
    refine norm_ext rfl fun j => ?_
    rw [D_fill, hc]
    by_cases hj : j < 127 - k
    · rw [(c3 j hj).1]
      cases decide (lb a.v6 ≤ j) <;> simp
    · have : ¬ (j : Int) + ((k + 1 : Nat) : Int) < 128 := by omega
      rw [decide_eq_false this]; simp
  · have e : norm (maskv (nextv a).1 ((k : Int) + 1)) = norm (nextv a).1 := by
      refine norm_ext rfl fun j => ?_
      rw [D_mask, h1, hc]
      by_cases hj : j < 127 - k
      · rw [(c3 j hj).2]; rfl
      · have : 128 ≤ (j : Int) + ((k + 1 : Nat) : Int) := by omega
        rw [decide_eq_true this, Bool.and_true]
    rw [mask_norm, h2] at e
    exact e

theorem next_gap (a b : Ad) (h : (nextv a).2 = true) (h1 : cmpv a b < 0) : ¬ cmpv b (nextv a).1 < 0 := by
  obtain ⟨hv, _, _, h4⟩ := next_spec a
  have hV := h4 h
  rw [cmp_neg] at h1 ⊢
  rw [hv]
  rintro (⟨e1, e2⟩ | ⟨e1, e2⟩)
  · rcases h1 with ⟨e3, e4⟩ | ⟨e3, e4⟩
    · have d1 := lb_dvd a
      have d2 := lb_dvd b
      rw [← e3] at d2
      rw [hV] at e2
      have hp : 0 < 2 ^ lb a.v6 := Nat.two_pow_pos _
      obtain ⟨x, hx⟩ := Nat.dvd_of_mod_eq_zero d1
      obtain ⟨y, hy⟩ := Nat.dvd_of_mod_eq_zero d2
      rw [hx, hy] at e4 e2
      have f1 : x < y := Nat.lt_of_mul_lt_mul_left e4
      rw [← Nat.mul_succ] at e2
      have f2 : y < x + 1 := Nat.lt_of_mul_lt_mul_left e2
      omega
    · rw [e4, e3] at e1
      cases e1
  · rcases h1 with ⟨e3, e4⟩ | ⟨e3, e4⟩
    · rw [e1] at e3
      rw [e3] at e2
      cases e2
    · rw [e3] at e2
      cases e2

end Go.Proofs.YtfebhfghjdedhaaDoor
