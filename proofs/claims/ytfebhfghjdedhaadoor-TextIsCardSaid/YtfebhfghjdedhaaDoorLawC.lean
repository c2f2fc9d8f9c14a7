/-
  AddrCommon returns true, whatever two addresses and number. No condition.
-/
import Derived.Test.YtfebhfghjdedhaaDoorMathB
import Derived.Test.YtfebhfghjdedhaaDoorWj
namespace Go.Proofs.YtfebhfghjdedhaaDoor
open Go.RowKit

theorem and_bd (n : Int) : 0 ≤ bits .and .i64 n 65535 ∧ bits .and .i64 n 65535 ≤ 65535 := by
  have h : (BitVec.ofInt 64 n &&& BitVec.ofInt 64 65535).toNat ≤ 65535 := by
    rw [BitVec.toNat_and]
    exact Nat.le_trans Nat.and_le_right (by decide)
  show 0 ≤ IntKind.i64.wrap (((BitVec.ofInt 64 n &&& BitVec.ofInt 64 65535).toNat : Nat) : Int) ∧ IntKind.i64.wrap (((BitVec.ofInt 64 n &&& BitVec.ofInt 64 65535).toNat : Nat) : Int) ≤ 65535
  rw [IntKind.wrap_i64]
  omega

theorem mask_eq (a b : Ad) (n m : Int) (hv : a.v6 = b.v6) (h : ∀ j, D (maskv a n) j = D (maskv b m) j) : maskv a n = maskv b m := by
  rw [← mask_norm a n, ← mask_norm b m]
  exact norm_ext hv h
theorem clamp_in (v : Bool) (k : Nat) (h : k ≤ wd v) : clamp v (k : Int) = k := by
  unfold clamp
  rw [wid_wd]
  omega

theorem common_facts (a b : Ad) (hv : a.v6 = b.v6) : 0 ≤ commonv a b ∧ commonv a b ≤ wid a.v6 ∧ maskv a (commonv a b) = maskv b (commonv a b) ∧
    (commonv a b < wid a.v6 → maskv a (commonv a b + 1) ≠ maskv b (commonv a b + 1) ∧ bitv a (commonv a b) ≠ bitv b (commonv a b)) := by
  obtain ⟨k, hk, hle, hall, hne⟩ := common_spec a b hv
  have hw := wd_lb a.v6
  rw [hk, wid_wd]
  refine ⟨by omega, by omega, ?_, fun hlt => ⟨fun e => ?_, ?_⟩⟩
  · refine mask_eq a b _ _ hv fun j => ?_
    rw [D_mask, D_mask, ← hv, clamp_in _ _ hle]
    by_cases h : 128 ≤ (j : Int) + k
    · rw [hall j (by omega)]
    · simp [h]
  · have hd : D (maskv a ((k : Int) + 1)) (127 - k) = D (maskv b ((k : Int) + 1)) (127 - k) := by rw [e]
    have e1 : ((k : Int) + 1) = ((k + 1 : Nat) : Int) := by omega
    rw [D_mask, D_mask, ← hv, e1, clamp_in _ (k + 1) (by omega)] at hd
    have h1 : 128 ≤ ((127 - k : Nat) : Int) + ((k + 1 : Nat) : Int) := by omega
    simp only [h1, decide_true, Bool.and_true] at hd
    exact hne (by omega) hd
  · rw [bitv_D a k (by omega), bitv_D b k (by rw [← hv]; omega)]
    have := hne (by omega)
    cases h1 : D a (127 - k) <;> cases h2 : D b (127 - k) <;> simp_all

theorem fill_mask_facts (a : Ad) (m : Int) (h0 : 0 ≤ m) (h1 : m ≤ wid a.v6) : maskv (fillv a m) m = maskv a m ∧ m ≤ commonv (maskv a m) (fillv a m) ∧ maskv (maskv a m) m = maskv a m := by
  have hw := wd_lb a.v6
  rw [wid_wd] at h1
  obtain ⟨k, rfl⟩ := Int.eq_ofNat_of_zero_le h0
  have hc := clamp_in a.v6 k (by omega)
  refine ⟨?_, ?_, ?_⟩
  · refine mask_eq _ _ _ _ rfl fun j => ?_
    rw [D_mask, D_mask, D_fill, fill_v6, hc]
    by_cases h : 128 ≤ (j : Int) + k
    · have : ¬ ((j : Int) + k < 128) := by omega
      simp [h, this]
    · simp [h]
  · obtain ⟨c, hcm, hle, hall, hne⟩ := common_spec (maskv a k) (fillv a k) rfl
    rw [hcm]
    rcases Nat.lt_or_ge c k with hlt | hge
    · exfalso
      rw [mask_v6] at hle hne
      apply hne (by omega)
      rw [D_mask, D_fill, hc]
      have e1 : 128 ≤ ((127 - c : Nat) : Int) + (k : Int) := by omega
      have e2 : ¬ ((127 - c : Nat) : Int) + (k : Int) < 128 := by omega
      simp [e1, e2]
    · omega
  · refine mask_eq _ _ _ _ rfl fun j => ?_
    rw [D_mask, D_mask, mask_v6, hc]
    by_cases h : 128 ≤ (j : Int) + k <;> simp [h]

theorem adEq_false {x y : Ad} (h : x ≠ y) : adEq x y = false := by
  cases e : adEq x y
  · rfl
  · exact absurd ((adEq_iff x y).1 e) h

end Go.Proofs.YtfebhfghjdedhaaDoor
