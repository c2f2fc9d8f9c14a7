/-
  AddrOrder returns true, whatever three addresses and number. No condition.
-/
import Derived.Test.YtfebhfghjdedhaaDoorLawN
namespace Go.Proofs.YtfebhfghjdedhaaDoor
open Go.RowKit

theorem le_of_bits {x y : Nat} (h : ∀ j, x.testBit j = true → y.testBit j = true) : x ≤ y := by
  have e : x = x &&& y := by
    apply Nat.eq_of_testBit_eq
    intro j
    rw [Nat.testBit_and]
    cases hx : x.testBit j
    · rfl
    · rw [h j hx]; rfl
  rw [e]
  exact Nat.and_le_right
theorem mask_le (a : Ad) (n : Int) : V (maskv a n) ≤ V a := by
  refine le_of_bits fun j h => ?_
  have h' : D (maskv a n) j = true := h
  rw [D_mask, Bool.and_eq_true] at h'
  exact h'.1
theorem fill_ge (a : Ad) (n : Int) : V a ≤ V (fillv a n) := by
  refine le_of_bits fun j h => ?_
  show D (fillv a n) j = true
  have h' : D a j = true := h
  rw [D_fill, h']; rfl
theorem cmp_bd (a b : Ad) : -1 ≤ cmpv a b ∧ cmpv a b ≤ 1 := by
  by_cases hv : a.v6 = b.v6
  · rw [cmp_V a b hv]
    split
    · omega
    · split <;> omega
  · rw [cmp_kind a b hv]
    split <;> omega
theorem cmp_anti (a b : Ad) : cmpv b a = - cmpv a b := by
  by_cases hv : a.v6 = b.v6
  · rw [cmp_V a b hv, cmp_V b a hv.symm]
    rcases Nat.lt_trichotomy (V a) (V b) with h | h | h
    · rw [if_pos h, if_neg (Nat.lt_asymm h), if_pos h]; rfl
    · rw [h]; simp
    · rw [if_pos h, if_neg (Nat.lt_asymm h), if_pos h]
  · rw [cmp_kind a b hv, cmp_kind b a (Ne.symm hv)]
    cases h1 : a.v6 <;> cases h2 : b.v6 <;> simp_all
theorem cmp_pos (a b : Ad) : cmpv a b ≤ 0 ↔ ¬ cmpv b a < 0 := by
  rw [cmp_anti a b]
  omega
theorem cmp_le (a b : Ad) : cmpv a b ≤ 0 ↔ (a.v6 = b.v6 ∧ V a ≤ V b) ∨ (a.v6 = false ∧ b.v6 = true) := by
  rw [cmp_pos, cmp_neg]
  cases h1 : a.v6 <;> cases h2 : b.v6 <;> simp
theorem cmp_trans (a b c : Ad) (h1 : cmpv a b ≤ 0) (h2 : cmpv b c ≤ 0) : cmpv a c ≤ 0 := by
  rw [cmp_le] at *
  rcases h1 with ⟨e1, e2⟩ | ⟨e1, e2⟩ <;> rcases h2 with ⟨e3, e4⟩ | ⟨e3, e4⟩
  · exact .inl ⟨e1.trans e3, Nat.le_trans e2 e4⟩
  · exact .inr ⟨e1.trans e3, e4⟩
  · exact .inr ⟨e1, e3 ▸ e2⟩
  · exact .inr ⟨e1, e4⟩
theorem cmp_zero (a b : Ad) (hv : a.v6 = b.v6) : cmpv a b = 0 ↔ commonv a b = wid a.v6 := by
  obtain ⟨k, hk, hle, hall, hne⟩ := common_spec a b hv
  rw [hk, wid_wd, cmp_V a b hv]
  constructor
  · intro h
    have e : V a = V b := by
      rcases Nat.lt_trichotomy (V a) (V b) with h1 | h1 | h1
      · rw [if_pos h1] at h; omega
      · exact h1
      · rw [if_neg (Nat.lt_asymm h1), if_pos h1] at h; omega
    rcases Nat.lt_or_ge k (wd a.v6) with h1 | h1
    · exact absurd (by unfold D; rw [e]) (hne h1)
    · omega
  · intro h
    have hw := wd_lb a.v6
    have e : V a = V b := by
      apply Nat.eq_of_testBit_eq
      intro j
      by_cases hj : lb a.v6 ≤ j
      · exact hall j (by omega)
      · exact (D_low a j (by omega)).trans (D_low b j (by rw [← hv]; omega)).symm
    rw [e]; simp
theorem cmp_unzero (a b : Ad) (hv : a.v6 ≠ b.v6) : cmpv a b ≠ 0 := by
  rw [cmp_kind a b hv]
  split <;> omega
theorem cmp_next (a : Ad) (h : (nextv a).2 = true) : cmpv a (nextv a).1 = -1 := by
  obtain ⟨h1, _, _, h4⟩ := next_spec a
  have hp : 0 < 2 ^ lb a.v6 := Nat.two_pow_pos _
  rw [cmp_V a _ h1.symm, h4 h, if_pos (by omega)]
theorem cmp_mask (a : Ad) (n : Int) : cmpv (maskv a n) a ≤ 0 := (cmp_le _ _).2 (.inl ⟨rfl, mask_le a n⟩)
theorem cmp_fill (a : Ad) (n : Int) : 0 ≤ cmpv (fillv a n) a := by
  have h : cmpv a (fillv a n) ≤ 0 := (cmp_le _ _).2 (.inl ⟨rfl, fill_ge a n⟩)
  rw [cmp_anti a]
  omega
theorem cmp_last (a : Ad) (h : (nextv a).2 = false) : cmpv (fillv a 0) a = 0 := by
  obtain ⟨_, _, h3, _⟩ := next_spec a
  obtain ⟨e, _⟩ := h3 h
  rw [cmp_V (fillv a 0) a rfl, fill_top, e]; simp

/-- What the first test leaves. -/
def OrderMid (w : World) (a : Ad) (s : Value) (wx : World) : Prop := s = .bool false ∧ Box wx w.heap.size a ∧ Below w.heap.size w wx

end Go.Proofs.YtfebhfghjdedhaaDoor
