/-
  Plain facts on the next address. No condition.
-/
import Derived.Test.YtfebhfghjdedhaaDoorMathB
namespace Go.Proofs.YtfebhfghjdedhaaDoor
open Go.RowKit

theorem sHi_toNat (h : BitVec 64) : (sHi h false).toNat = h.toNat / 2 ^ 32 * 2 ^ 32 := by
  apply Nat.eq_of_testBit_eq
  intro j
  have e := sHi_bit h false j
  have e1 : (sHi h false).toNat.testBit j = (sHi h false).getLsbD j := rfl
  have e2 : h.toNat.testBit j = h.getLsbD j := rfl
  rw [e1, e, ← Nat.shiftRight_eq_div_pow, ← Nat.shiftLeft_eq, Nat.testBit_shiftLeft, Nat.testBit_shiftRight]
  by_cases hj : 32 ≤ j
  · rw [show 32 + (j - 32) = j from by omega, e2]
    have h1 : lb false ≤ j + 64 := by show 96 ≤ j + 64; omega
    simp [hj, h1]
  · have h1 : ¬ lb false ≤ j + 64 := by show ¬ 96 ≤ j + 64; omega
    simp [hj, h1]
theorem V_four (h l : BitVec 64) : V ⟨h, l, false⟩ = 2 ^ 64 * (h.toNat / 2 ^ 32 * 2 ^ 32) := by
  unfold V
  have e1 : (norm ⟨h, l, false⟩).hi.toNat = h.toNat / 2 ^ 32 * 2 ^ 32 := sHi_toNat h
  have e2 : (norm ⟨h, l, false⟩).lo.toNat = 0 := rfl
  rw [e1, e2, Nat.add_zero]
theorem V_six (h l : BitVec 64) : V ⟨h, l, true⟩ = 2 ^ 64 * h.toNat + l.toNat := by
  unfold V
  have e1 : (norm ⟨h, l, true⟩).hi = h := rfl
  have e2 : (norm ⟨h, l, true⟩).lo = l := rfl
  rw [e1, e2]

theorem max_iff (a : Ad) : adEq (norm a) (fillv (norm a) 0) = true ↔ V a = top a.v6 := by
  rw [adEq_iff]
  constructor
  · intro e
    have h : V (norm a) = V (fillv (norm a) 0) := by rw [← e]
    rw [V_norm, fill_top] at h
    exact h
  · intro e
    rw [← fill_norm]
    refine norm_eq rfl ?_
    rw [fill_top]
    exact e

/-- The next one, as a number. -/
theorem next_spec (a : Ad) : (nextv a).1.v6 = a.v6 ∧ norm (nextv a).1 = (nextv a).1 ∧ ((nextv a).2 = false → V a = top a.v6 ∧ (nextv a).1 = norm a) ∧
    ((nextv a).2 = true → V (nextv a).1 = V a + 2 ^ lb a.v6) := by
  unfold nextv
  by_cases hm : adEq (norm a) (fillv (norm a) 0) = true
  · rw [if_pos hm]
    exact ⟨rfl, norm_norm a, fun _ => ⟨(max_iff a).1 hm, rfl⟩, (fun h => by cases h)⟩
  · rw [if_neg hm]
    have hne : V a ≠ top a.v6 := fun e => hm ((max_iff a).2 e)
    have hle := V_top a
    have hd := lb_dvd a
    obtain ⟨h, l, v⟩ := a
    cases v
    · rw [if_pos rfl]
      refine ⟨rfl, norm_norm _, (fun h => by cases h), fun _ => ?_⟩
      have e1 : (norm ⟨h, l, false⟩).hi.toNat = h.toNat / 2 ^ 32 * 2 ^ 32 := sHi_toNat h
      rw [V_norm, V_four]
      rw [V_four] at hne hle hd ⊢
      simp only [top, lb, Bool.false_eq_true, if_false] at hne hle hd ⊢
      rw [BitVec.toNat_add, e1]
      have e2 : (4294967296#64).toNat = 4294967296 := by decide
      rw [e2]
      have hh := h.isLt
      generalize h.toNat = n at *
      omega
    · rw [if_neg (by simp)]
      have hlo : (norm ⟨h, l, true⟩).lo = l := rfl
      have hhi : (norm ⟨h, l, true⟩).hi = h := rfl
      rw [hlo, hhi]
      have hh := h.isLt
      have hl := l.isLt
      have e2 : (1#64).toNat = 1 := by decide
      rw [V_six] at hne hle
      simp only [top, lb, if_true] at hne hle
      by_cases hz : u (l + 1#64) = 0
      · rw [if_pos hz]
        refine ⟨rfl, norm_norm _, (fun h => by cases h), fun _ => ?_⟩
        unfold u at hz
        rw [BitVec.toNat_add, e2] at hz
        rw [V_norm, V_six, V_six, BitVec.toNat_add, BitVec.toNat_add, e2]
        simp only [lb, if_true]
        generalize h.toNat = n at *
        generalize l.toNat = m at *
        omega
      · rw [if_neg hz]
        refine ⟨rfl, norm_norm _, (fun h => by cases h), fun _ => ?_⟩
        unfold u at hz
        rw [BitVec.toNat_add, e2] at hz
        rw [V_norm, V_six, V_six, BitVec.toNat_add, e2]
        simp only [lb, if_true]
        generalize h.toNat = n at *
        generalize l.toNat = m at *
        omega

theorem ones_bit (t s j : Nat) (h : s ≤ t) : (2 ^ t - 2 ^ s).testBit j = (decide (s ≤ j) && decide (j < t)) := by
  have e : 2 ^ t - 2 ^ s = 2 ^ s * (2 ^ (t - s) - 1) := by
    rw [Nat.mul_sub, ← Nat.pow_add, Nat.mul_one, show s + (t - s) = t from by omega]
  rw [e, Nat.testBit_two_pow_mul, Nat.testBit_two_pow_sub_one]
  rw [Bool.eq_iff_iff]; simp; omega

/-- One number and the one that is 2^s more: alike above bit t, unlike at t: there is 0 and only 1 behind, 1 and only 0 behind. -/
theorem step_bits (n s t : Nat) (hs : s ≤ t) (hd : n % 2 ^ s = 0) (hup : ∀ j, t < j → n.testBit j = (n + 2 ^ s).testBit j) (hne : n.testBit t ≠ (n + 2 ^ s).testBit t) :
    n.testBit t = false ∧ (n + 2 ^ s).testBit t = true ∧ ∀ j, j < t → n.testBit j = decide (s ≤ j) ∧ (n + 2 ^ s).testBit j = false := by
  have hq : n / 2 ^ (t + 1) = (n + 2 ^ s) / 2 ^ (t + 1) := by
    apply Nat.eq_of_testBit_eq
    intro j
    rw [Nat.testBit_div_two_pow, Nat.testBit_div_two_pow]
    exact hup _ (by omega)
  have ht : 2 ^ (t + 1) = 2 * 2 ^ t := by rw [Nat.pow_succ]; omega
  obtain ⟨c, hc⟩ : ∃ c, 2 ^ t = 2 ^ s * c := ⟨2 ^ (t - s), by rw [← Nat.pow_add, show s + (t - s) = t from by omega]⟩
  have hp : 0 < 2 ^ s := Nat.two_pow_pos s
  have hm := Nat.div_add_mod n (2 ^ (t + 1))
  have hm' := Nat.div_add_mod (n + 2 ^ s) (2 ^ (t + 1))
  rw [← hq] at hm'
  have hr' : (n + 2 ^ s) % 2 ^ (t + 1) = n % 2 ^ (t + 1) + 2 ^ s := by omega
  have hb : ∀ m : Nat, m.testBit t = decide (2 ^ t ≤ m % 2 ^ (t + 1)) := by
    intro m
    have h1 : m.testBit t = (m % 2 ^ (t + 1)).testBit t := by rw [Nat.testBit_mod_two_pow]; simp
    rw [h1]
    have h2 : m % 2 ^ (t + 1) < 2 * 2 ^ t := by rw [← ht]; exact Nat.mod_lt _ (Nat.two_pow_pos _)
    generalize m % 2 ^ (t + 1) = r at *
    rw [Nat.testBit_eq_decide_div_mod_eq]
    by_cases h3 : 2 ^ t ≤ r
    · have : r / 2 ^ t = 1 := by
        apply Nat.div_eq_of_lt_le <;> omega
      rw [this, decide_eq_true h3]; rfl
    · have : r / 2 ^ t = 0 := Nat.div_eq_of_lt (by omega)
      rw [this, decide_eq_false h3]; rfl
  have hlow : ∀ (m j : Nat), j < t → m.testBit j = (m % 2 ^ (t + 1)).testBit j := by
    intro m j hj
    rw [Nat.testBit_mod_two_pow]
    have : j < t + 1 := by omega
    simp [this]
  obtain ⟨e, he⟩ : ∃ e, n % 2 ^ (t + 1) = 2 ^ s * e := by
    have h1 : 2 ^ s ∣ n % 2 ^ (t + 1) := by
      have h2 : 2 ^ s ∣ n := Nat.dvd_of_mod_eq_zero hd
      exact (Nat.dvd_mod_iff (Nat.pow_dvd_pow 2 (by omega))).2 h2
    exact h1
  rw [hb, hb, hr'] at hne
  have key : n % 2 ^ (t + 1) + 2 ^ s = 2 ^ t := by
    generalize n % 2 ^ (t + 1) = r at *
    by_cases h1 : 2 ^ t ≤ r
    · exfalso
      apply hne
      rw [decide_eq_true h1, decide_eq_true (by omega)]
    · by_cases h2 : 2 ^ t ≤ r + 2 ^ s
      · rw [hc, he] at h1 h2
        have h3 : e < c := by
          rcases Nat.lt_or_ge e c with h | h
          · exact h
          · exact absurd (Nat.mul_le_mul_left (2 ^ s) h) h1
        have h4 : 2 ^ s * (e + 1) ≤ 2 ^ s * c := Nat.mul_le_mul_left _ h3
        rw [Nat.mul_succ] at h4
        rw [hc, he]
        omega
      · exfalso
        apply hne
        rw [decide_eq_false h1, decide_eq_false h2]
  have k1 : n % 2 ^ (t + 1) = 2 ^ t - 2 ^ s := by omega
  have k2 : (n + 2 ^ s) % 2 ^ (t + 1) = 2 ^ t := by omega
  refine ⟨?_, ?_, fun j hj => ⟨?_, ?_⟩⟩
  · rw [hb, k1]
    have : 0 < 2 ^ t := Nat.two_pow_pos t
    exact decide_eq_false (by omega)
  · rw [hb, k2]
    exact decide_eq_true (Nat.le_refl _)
  · rw [hlow n j hj, k1, ones_bit t s j hs, decide_eq_true hj, Bool.and_true]
  · rw [hlow _ j hj, k2, Nat.testBit_two_pow]
    exact decide_eq_false (by omega)

end Go.Proofs.YtfebhfghjdedhaaDoor
