/-
  AddrDigits returns true, whatever address. No condition.
-/
import Derived.Test.YtfebhfghjdedhaaDoorMathB
import Derived.Test.YtfebhfghjdedhaaDoorWj
import Derived.Test.YtfebhfghjdedhaaDoorLawC
namespace Go.Proofs.YtfebhfghjdedhaaDoor
open Go.RowKit

def zer (v : Bool) : Ad := ⟨0#64, 0#64, v⟩
def bk (a : Ad) : Nat → Ad
  | 0 => zer a.v6
  | k + 1 => setv (bk a k) (k : Int) (bitv a (k : Int))
def ck (a : Ad) : Nat → Ad
  | 0 => fillv (zer a.v6) 0
  | k + 1 => setv (ck a k) (k : Int) (bitv a (k : Int))
theorem bk_v6 (a : Ad) (k : Nat) : (bk a k).v6 = a.v6 := by
  induction k with
  | zero => rfl
  | succ k ih => rw [bk, set_v6, ih]
theorem ck_v6 (a : Ad) (k : Nat) : (ck a k).v6 = a.v6 := by
  induction k with
  | zero => rfl
  | succ k ih => rw [ck, set_v6, ih]
theorem odd_bit (a : Ad) (k : Nat) (h : k < wd a.v6) : odd (bitv a (k : Int)) = D a (127 - k) := by
  rw [bitv_D a k h]
  cases D a (127 - k)
  · decide
  · decide
theorem zer_D (v : Bool) (j : Nat) : D (zer v) j = false := by
  rw [D_P]
  unfold P zer
  simp
theorem bk_D (a : Ad) (k : Nat) (j : Nat) : D (bk a k) j = (D a j && decide (128 ≤ j + k)) := by
  have hw := wd_lb a.v6
  induction k with
  | zero =>
    rw [bk, zer_D]
    by_cases h : j < 128
    · have : ¬ 128 ≤ j + 0 := by omega
      rw [decide_eq_false this, Bool.and_false]
    · rw [D_ge a j (by omega)]; rfl
  | succ k ih =>
    rw [bk]
    by_cases hk : k < wd a.v6
    · rw [D_set _ _ _ (by rw [bk_v6]; exact hk), odd_bit a k hk, ih]
      by_cases e : j = 127 - k
      · subst e
        have : 128 ≤ 127 - k + (k + 1) := by omega
        rw [if_pos rfl, decide_eq_true this, Bool.and_true]
      · rw [if_neg e]
        by_cases h1 : 128 ≤ j + k
        · have : 128 ≤ j + (k + 1) := by omega
          simp [h1, this]
        · have : ¬ 128 ≤ j + (k + 1) := by omega
          simp [h1, this]
    · rw [set_none _ _ _ (by rw [bk_v6]; omega), D_norm, ih]
      by_cases hl : lb a.v6 ≤ j
      · have h1 : 128 ≤ j + k := by omega
        have h2 : 128 ≤ j + (k + 1) := by omega
        simp [h1, h2]
      · rw [D_low a j (by omega)]; rfl
theorem ck_D (a : Ad) (k : Nat) (j : Nat) : D (ck a k) j = if 128 ≤ j + k then D a j else decide (lb a.v6 ≤ j) := by
  have hw := wd_lb a.v6
  induction k with
  | zero =>
    rw [ck, D_fill, zer_D]
    have hc : clamp (zer a.v6).v6 0 = 0 := by
      have := wid_bd a.v6
      show clamp a.v6 0 = 0
      unfold clamp
      omega
    rw [hc]
    by_cases h : 128 ≤ j + 0
    · rw [if_pos h, D_ge a j (by omega)]
      have : ¬ (j : Int) + 0 < 128 := by omega
      rw [decide_eq_false this]; rfl
    · rw [if_neg h]
      have : (j : Int) + 0 < 128 := by omega
      rw [decide_eq_true this]; rfl
  | succ k ih =>
    rw [ck]
    by_cases hk : k < wd a.v6
    · rw [D_set _ _ _ (by rw [ck_v6]; exact hk), odd_bit a k hk, ih]
      by_cases e : j = 127 - k
      · subst e
        rw [if_pos rfl, if_pos (by omega)]
      · rw [if_neg e]
        by_cases h1 : 128 ≤ j + k
        · rw [if_pos h1, if_pos (by omega)]
        · rw [if_neg h1, if_neg (by omega)]
    · rw [set_none _ _ _ (by rw [ck_v6]; omega), D_norm, ih]
      by_cases h1 : 128 ≤ j + k
      · rw [if_pos h1, if_pos (by omega)]
      · have : ¬ lb a.v6 ≤ j := by omega
        rw [if_neg h1, D_low a j (by omega), decide_eq_false this]
        split <;> rfl
theorem bk_norm (a : Ad) (k : Nat) (h : 0 < k) : norm (bk a k) = bk a k := by
  cases k with
  | zero => omega
  | succ k => exact set_norm _ _ _
theorem ck_norm (a : Ad) (k : Nat) (h : 0 < k) : norm (ck a k) = ck a k := by
  cases k with
  | zero => omega
  | succ k => exact set_norm _ _ _
theorem bk_end (a : Ad) : bk a 128 = norm a := by
  rw [← bk_norm a 128 (by decide)]
  refine norm_ext (bk_v6 a 128) fun j => ?_
  rw [bk_D]
  have : 128 ≤ j + 128 := by omega
  simp [this]
theorem ck_end (a : Ad) : ck a 128 = norm a := by
  rw [← ck_norm a 128 (by decide)]
  refine norm_ext (ck_v6 a 128) fun j => ?_
  rw [ck_D, if_pos (by omega)]
theorem mask_end (a : Ad) : maskv a 128 = norm a := by
  have hw := wd_lb a.v6
  rw [← mask_norm]
  refine norm_ext rfl fun j => ?_
  rw [D_mask]
  have hc : clamp a.v6 128 = (wd a.v6 : Int) := by unfold clamp; rw [wid_wd]; omega
  rw [hc]
  by_cases hl : lb a.v6 ≤ j
  · have : 128 ≤ (j : Int) + (wd a.v6 : Int) := by omega
    simp [this]
  · rw [D_low a j (by omega)]; rfl
theorem norm_eq_sane (a : Ad) : adEq (norm a) a = saneB a := by
  rw [Bool.eq_iff_iff, adEq_iff, sane_iff]

/-- An address lies in a block. -/
def Box (wr : World) (b : Nat) (x : Ad) : Prop :=
  wr.cell? ⟨b, 0, none⟩ = some (.int .u64 (u x.hi)) ∧ wr.cell? ⟨b, 1, none⟩ = some (.int .u64 (u x.lo)) ∧ wr.cell? ⟨b, 2, none⟩ = some (.bool x.v6) ∧
    wr.frozen? ⟨b, 0, none⟩ = false ∧ wr.frozen? ⟨b, 1, none⟩ = false ∧ wr.frozen? ⟨b, 2, none⟩ = false ∧ b < wr.heap.size

end Go.Proofs.YtfebhfghjdedhaaDoor
