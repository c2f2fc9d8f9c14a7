/-
  Plain facts on addresses: their order, what two have in common, the next one. No condition.
-/
import Derived.Test.YtfebhfghjdedhaaDoorMath
namespace Go.Proofs.YtfebhfghjdedhaaDoor
open Go.RowKit

theorem mask_v6 (a : Ad) (n : Int) : (maskv a n).v6 = a.v6 := rfl
theorem fill_v6 (a : Ad) (n : Int) : (fillv a n).v6 = a.v6 := rfl
theorem u_lt_iff (x y : BitVec 64) : u x < u y ↔ x.toNat < y.toNat := by unfold u; omega
/-- Which one is ahead, of two of one kind: by their numbers. -/
theorem cmp_V (a b : Ad) (hv : a.v6 = b.v6) : cmpv a b = if V a < V b then -1 else if V b < V a then 1 else 0 := by
  have h1 := (norm a).lo.isLt
  have h2 := (norm b).lo.isLt
  unfold cmpv cmpW
  simp only [u_lt_iff, hv, if_true]
  unfold V
  rcases Nat.lt_trichotomy (norm a).hi.toNat (norm b).hi.toNat with h | h | h
  · have e1 : 2 ^ 64 * (norm a).hi.toNat + (norm a).lo.toNat < 2 ^ 64 * (norm b).hi.toNat + (norm b).lo.toNat := by omega
    simp [h, e1]
  · rcases Nat.lt_trichotomy (norm a).lo.toNat (norm b).lo.toNat with k | k | k
    · have e1 : 2 ^ 64 * (norm a).hi.toNat + (norm a).lo.toNat < 2 ^ 64 * (norm b).hi.toNat + (norm b).lo.toNat := by omega
      rw [if_pos e1, if_pos k, h]; simp
    · rw [h, k]; simp
    · have e1 : 2 ^ 64 * (norm b).hi.toNat + (norm b).lo.toNat < 2 ^ 64 * (norm a).hi.toNat + (norm a).lo.toNat := by omega
      rw [if_neg (Nat.lt_asymm e1), if_pos e1, if_neg (Nat.lt_asymm k), if_pos k, h]; simp
  · have e1 : 2 ^ 64 * (norm b).hi.toNat + (norm b).lo.toNat < 2 ^ 64 * (norm a).hi.toNat + (norm a).lo.toNat := by omega
    have e2 := Nat.lt_asymm h
    have e3 := Nat.lt_asymm e1
    simp [h, e1, e2, e3]
theorem cmp_kind (a b : Ad) (hv : a.v6 ≠ b.v6) : cmpv a b = if b.v6 = true then -1 else 1 := by unfold cmpv; rw [if_neg hv]

theorem lead_spec (x : BitVec 64) (h : x ≠ 0#64) : ∃ m : Nat, m < 64 ∧ lead x = 63 - (m : Int) ∧ x.getLsbD m = true ∧ ∀ j, m < j → x.getLsbD j = false := by
  have hn : x.toNat ≠ 0 := fun e => h (BitVec.eq_of_toNat_eq e)
  have e : (u x).toNat = x.toNat := by unfold u; simp
  refine ⟨x.toNat.log2, (Nat.log2_lt hn).2 x.isLt, ?_, ?_, fun j hj => ?_⟩
  · unfold lead blen
    rw [e, if_neg hn]
    omega
  · show x.toNat.testBit _ = true
    exact Nat.testBit_log2 hn
  · show x.toNat.testBit j = false
    apply Nat.testBit_lt_two_pow
    exact Nat.lt_of_lt_of_le Nat.lt_log2_self (Nat.pow_le_pow_right (by omega) hj)
theorem xor_ne {x y : BitVec 64} (h : x ≠ y) : x ^^^ y ≠ 0#64 := fun e => h (BitVec.xor_eq_zero_iff.1 e)

/-- What two of one kind have in common: k digits, and (unless these are all) not the next one. -/
theorem common_spec (a b : Ad) (hv : a.v6 = b.v6) : ∃ k : Nat, commonv a b = (k : Int) ∧ k ≤ wd a.v6 ∧ (∀ j, 128 ≤ j + k → D a j = D b j) ∧ (k < wd a.v6 → D a (127 - k) ≠ D b (127 - k)) := by
  have hw := wd_lb a.v6
  unfold commonv
  rw [if_pos hv]
  by_cases h1 : (norm a).hi = (norm b).hi
  · rw [if_pos h1]
    by_cases h2 : (norm a).lo = (norm b).lo
    · rw [if_pos h2]
      have e : V a = V b := by unfold V; rw [h1, h2]
      exact ⟨wd a.v6, wid_wd _, Nat.le_refl _, fun j _ => by unfold D; rw [e], fun h => absurd h (Nat.lt_irrefl _)⟩
    · rw [if_neg h2]
      obtain ⟨m, hm, hl, hb, ha⟩ := lead_spec _ (xor_ne h2)
      have hd : D a m ≠ D b m := by
        rw [D_split, D_split, if_pos hm, if_pos hm]
        rw [BitVec.getLsbD_xor] at hb
        intro e
        rw [e] at hb
        simp at hb
      have hlm : lb a.v6 ≤ m := by
        rcases Nat.lt_or_ge m (lb a.v6) with h | h
        · exact absurd ((D_low a m h).trans (D_low b m (by rw [← hv]; exact h)).symm) hd
        · exact h
      refine ⟨127 - m, by omega, by omega, fun j hj => ?_, fun _ => by rw [show 127 - (127 - m) = m from by omega]; exact hd⟩
      rw [D_split, D_split]
      by_cases j64 : j < 64
      · rw [if_pos j64, if_pos j64]
        have := ha j (by omega)
        rw [BitVec.getLsbD_xor] at this
        simpa using this
      · rw [if_neg j64, if_neg j64, h1]
  · rw [if_neg h1]
    obtain ⟨m, hm, hl, hb, ha⟩ := lead_spec _ (xor_ne h1)
    have hd : D a (m + 64) ≠ D b (m + 64) := by
      rw [D_split, D_split, if_neg (by omega), if_neg (by omega), Nat.add_sub_cancel]
      rw [BitVec.getLsbD_xor] at hb
      intro e
      rw [e] at hb
      simp at hb
    have hlm : lb a.v6 ≤ m + 64 := by
      rcases Nat.lt_or_ge (m + 64) (lb a.v6) with h | h
      · exact absurd ((D_low a _ h).trans (D_low b _ (by rw [← hv]; exact h)).symm) hd
      · exact h
    refine ⟨63 - m, by omega, by omega, fun j hj => ?_, fun _ => by rw [show 127 - (63 - m) = m + 64 from by omega]; exact hd⟩
    rw [D_split, D_split, if_neg (by omega), if_neg (by omega)]
    have := ha (j - 64) (by omega)
    rw [BitVec.getLsbD_xor] at this
    simpa using this
theorem common_kind (a b : Ad) (hv : a.v6 ≠ b.v6) : commonv a b = 0 := by unfold commonv; rw [if_neg hv]

/-- The greatest number of a kind. -/
def top (v : Bool) : Nat := 2 ^ 128 - 2 ^ lb v
theorem top_bit (v : Bool) (j : Nat) : (top v).testBit j = (decide (lb v ≤ j) && decide (j < 128)) := by
  unfold top
  have e : 2 ^ 128 - 2 ^ lb v = 2 ^ lb v * (2 ^ (128 - lb v) - 1) := by cases v <;> decide
  rw [e, Nat.testBit_two_pow_mul, Nat.testBit_two_pow_sub_one]
  have := (wd_lb v)
  rw [Bool.eq_iff_iff]; simp; omega
theorem fill_top (a : Ad) : V (fillv a 0) = top a.v6 := by
  apply Nat.eq_of_testBit_eq
  intro j
  show D (fillv a 0) j = _
  have hc : clamp a.v6 0 = 0 := by have := wid_bd a.v6; unfold clamp; omega
  rw [D_fill, top_bit, hc]
  by_cases h1 : lb a.v6 ≤ j
  · by_cases h2 : j < 128
    · simp [h1, h2]; omega
    · rw [D_ge a j (by omega)]; simp [h1, h2]; omega
  · rw [D_low a j (by omega)]; simp [h1]
theorem lb_dvd (a : Ad) : V a % 2 ^ lb a.v6 = 0 := by
  apply Nat.eq_of_testBit_eq
  intro j
  rw [Nat.testBit_mod_two_pow, Nat.zero_testBit]
  by_cases h : j < lb a.v6
  · have := D_low a j h
    unfold D at this
    rw [this]; simp
  · simp [h]
theorem V_top (a : Ad) : V a ≤ top a.v6 := by
  have h1 := V_lt a
  have h2 := lb_dvd a
  unfold top
  revert h1 h2
  generalize V a = n
  cases a.v6
  · simp only [lb, Bool.false_eq_true, if_false]
    omega
  · simp only [lb, if_true]
    omega

end Go.Proofs.YtfebhfghjdedhaaDoor
