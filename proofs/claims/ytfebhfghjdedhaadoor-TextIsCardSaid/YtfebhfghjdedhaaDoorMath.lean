/-
  Plain facts on addresses: each is the number of its digits; what the functions of package addr do to single digits. No condition.
-/
import Derived.Test.YtfebhfghjdedhaaDoorWc
import Derived.Test.YtfebhfghjdedhaaDoorWe
import Derived.Test.YtfebhfghjdedhaaDoorWg
namespace Go.Proofs.YtfebhfghjdedhaaDoor
open Go.RowKit

/-- The number of an address's 128 digits (those that it does not have are 0). -/
def V (a : Ad) : Nat := 2 ^ 64 * (norm a).hi.toNat + (norm a).lo.toNat
/-- Digit 127 - j. -/
def D (a : Ad) (j : Nat) : Bool := (V a).testBit j
def lb (v : Bool) : Nat := if v then 0 else 96

theorem V_lt (a : Ad) : V a < 2 ^ 128 := by
  have h1 := (norm a).hi.isLt
  have h2 := (norm a).lo.isLt
  unfold V
  have e : (2 : Nat) ^ 128 = 2 ^ 64 * 2 ^ 64 := by decide
  rw [e]
  have : 2 ^ 64 * (norm a).hi.toNat + 2 ^ 64 ≤ 2 ^ 64 * 2 ^ 64 := by
    have := Nat.mul_le_mul_left (2 ^ 64) (Nat.succ_le_of_lt h1)
    rw [Nat.mul_succ] at this
    exact this
  omega
theorem D_split (a : Ad) (j : Nat) : D a j = if j < 64 then (norm a).lo.getLsbD j else (norm a).hi.getLsbD (j - 64) := by
  unfold D V
  rw [Nat.testBit_two_pow_mul_add _ (norm a).lo.isLt]
  rfl
theorem D_ge (a : Ad) (j : Nat) (h : 128 ≤ j) : D a j = false := by
  rw [D_split, if_neg (by omega)]
  exact BitVec.getLsbD_of_ge _ _ (by omega)

theorem low_bit (j : Nat) : lowHalf.getLsbD j = decide (j < 32) := by
  have e : lowHalf.toNat = 2 ^ 32 - 1 := by decide
  show lowHalf.toNat.testBit j = _
  rw [e, Nat.testBit_two_pow_sub_one]
theorem sHi_bit (h : BitVec 64) (v : Bool) (j : Nat) : (sHi h v).getLsbD j = (h.getLsbD j && decide (lb v ≤ j + 64)) := by
  cases v
  · simp only [sHi, Bool.false_eq_true, if_false, BitVec.getLsbD_and, BitVec.getLsbD_not, low_bit, lb]
    by_cases h64 : j < 64
    · by_cases h32 : j < 32
      · have h96 : ¬ 96 ≤ j + 64 := by omega
        simp [h32, h96]
      · have h96 : 96 ≤ j + 64 := by omega
        simp [h64, h32, h96]
    · rw [BitVec.getLsbD_of_ge _ _ (by omega)]; simp
  · simp [sHi, lb]
theorem sLo_bit (l : BitVec 64) (v : Bool) (j : Nat) (hj : j < 64) : (sLo l v).getLsbD j = (l.getLsbD j && decide (lb v ≤ j)) := by
  cases v
  · have h96 : ¬ 96 ≤ j := by omega
    simp [sLo, lb, h96]
  · simp [sLo, lb]

/-- The digits of a pair of words, all of them. -/
def P (a : Ad) (j : Nat) : Bool := if j < 64 then a.lo.getLsbD j else a.hi.getLsbD (j - 64)
theorem D_P (a : Ad) (j : Nat) : D a j = (P a j && decide (lb a.v6 ≤ j)) := by
  rw [D_split]
  unfold P norm
  by_cases h : j < 64
  · rw [if_pos h, if_pos h, sLo_bit _ _ _ h]
  · rw [if_neg h, if_neg h, sHi_bit]
    congr 2
    simp; omega
theorem P_norm (a : Ad) (j : Nat) : P (norm a) j = D a j := by rw [D_split]; rfl
theorem V_norm (a : Ad) : V (norm a) = V a := by unfold V; rw [norm_norm]
theorem D_norm (a : Ad) (j : Nat) : D (norm a) j = D a j := by unfold D; rw [V_norm]
theorem D_low (a : Ad) (j : Nat) (h : j < lb a.v6) : D a j = false := by rw [D_P]; simp; omega
theorem norm_eq {a b : Ad} (hv : a.v6 = b.v6) (h : V a = V b) : norm a = norm b := by
  have h1 := (norm a).lo.isLt
  have h2 := (norm b).lo.isLt
  unfold V at h
  have e1 : (norm a).hi.toNat = (norm b).hi.toNat := by omega
  have e2 : (norm a).lo.toNat = (norm b).lo.toNat := by omega
  have f1 := BitVec.eq_of_toNat_eq e1
  have f2 := BitVec.eq_of_toNat_eq e2
  have ea : norm a = ⟨(norm a).hi, (norm a).lo, (norm a).v6⟩ := rfl
  have eb : norm b = ⟨(norm b).hi, (norm b).lo, (norm b).v6⟩ := rfl
  rw [ea, eb, f1, f2]
  show Ad.mk _ _ a.v6 = Ad.mk _ _ b.v6
  rw [hv]
theorem norm_ext {a b : Ad} (hv : a.v6 = b.v6) (h : ∀ j, D a j = D b j) : norm a = norm b := norm_eq hv (Nat.eq_of_testBit_eq h)

/-- How many digits there are. -/
def wd (v : Bool) : Nat := if v then 128 else 32
theorem wd_lb (v : Bool) : wd v + lb v = 128 ∧ lb v ≤ 96 ∧ 32 ≤ wd v := by cases v <;> decide
theorem wid_wd (v : Bool) : wid v = (wd v : Int) := by cases v <;> rfl

theorem tl_bit (n k : Int) (j : Nat) : (tl n k).getLsbD j = decide ((j : Int) + tlc n k < 64) := by
  have h0 : 0 ≤ tlc n k ∧ tlc n k ≤ 64 := by unfold tlc; omega
  unfold tl
  rw [BitVec.getLsbD_ushiftRight, BitVec.getLsbD_allOnes]
  simp; omega
theorem P_tail (n : Int) (v : Bool) (j : Nat) (hj : j < 128) (h0 : 0 ≤ n) (h1 : n ≤ 128) : P ⟨tl n 0, tl n 1, v⟩ j = decide ((j : Int) + n < 128) := by
  unfold P
  by_cases h : j < 64
  · rw [if_pos h, tl_bit]
    unfold tlc
    rw [Bool.eq_iff_iff]; simp; omega
  · rw [if_neg h, tl_bit]
    unfold tlc
    rw [Bool.eq_iff_iff]; simp; omega
theorem P_andNot (x y z t : BitVec 64) (v v' v'' : Bool) (j : Nat) (hj : j < 128) : P ⟨x &&& ~~~ z, y &&& ~~~ t, v⟩ j = (P ⟨x, y, v'⟩ j && !(P ⟨z, t, v''⟩ j)) := by
  unfold P
  by_cases h : j < 64
  · simp [h]
  · simp [h, show j - 64 < 64 from by omega]
theorem P_or (x y z t : BitVec 64) (v v' v'' : Bool) (j : Nat) : P ⟨x ||| z, y ||| t, v⟩ j = (P ⟨x, y, v'⟩ j || (P ⟨z, t, v''⟩ j)) := by
  unfold P
  by_cases h : j < 64
  · simp [h]
  · simp [h]

theorem clamp_wd (v : Bool) (n : Int) : 0 ≤ clamp v n ∧ clamp v n ≤ (wd v : Int) := by
  have := wid_bd v
  rw [← wid_wd]
  unfold clamp
  omega
/-- Digits ahead of the n-th stay, the others are 0. -/
theorem D_mask (a : Ad) (n : Int) (j : Nat) : D (maskv a n) j = (D a j && decide (128 ≤ (j : Int) + clamp a.v6 n)) := by
  by_cases hj : j < 128
  · have hc := clamp_wd a.v6 n
    have hw := wd_lb a.v6
    unfold maskv
    rw [D_norm, D_P, P_andNot _ _ _ _ _ a.v6 a.v6 j hj, P_tail _ _ j hj (by omega) (by omega)]
    rw [show P ⟨(norm a).hi, (norm a).lo, a.v6⟩ j = D a j from P_norm a j]
    by_cases hl : lb a.v6 ≤ j
    · rw [Bool.eq_iff_iff]; simp; omega
    · rw [D_low a j (by omega)]; simp
  · rw [D_ge _ j (by omega), D_ge a j (by omega)]; rfl
/-- Digits ahead of the n-th stay, the others (that there are) are 1. -/
theorem D_fill (a : Ad) (n : Int) (j : Nat) : D (fillv a n) j = (D a j || (decide ((j : Int) + clamp a.v6 n < 128) && decide (lb a.v6 ≤ j))) := by
  by_cases hj : j < 128
  · have hc := clamp_wd a.v6 n
    have hw := wd_lb a.v6
    unfold fillv
    rw [D_norm, D_P, P_or _ _ _ _ _ a.v6 a.v6 j, P_tail _ _ j hj (by omega) (by omega)]
    rw [show P ⟨(norm a).hi, (norm a).lo, a.v6⟩ j = D a j from P_norm a j]
    by_cases hl : lb a.v6 ≤ j
    · rw [Bool.eq_iff_iff]; simp [hl]
    · rw [D_low a j (by omega)]; simp [hl]
  · rw [D_ge _ j (by omega), D_ge a j (by omega)]
    have hc := clamp_wd a.v6 n
    simp; omega
theorem mask_norm (a : Ad) (n : Int) : norm (maskv a n) = maskv a n := norm_norm _
theorem fill_norm (a : Ad) (n : Int) : norm (fillv a n) = fillv a n := norm_norm _

theorem plc_of (i : Nat) : (plc (i : Int)).toNat = 63 - i % 64 := by unfold plc; omega
theorem and_one (x : BitVec 64) (m : Nat) : u (x >>> m &&& 1#64) = if x.getLsbD m then 1 else 0 := by
  have e : (x >>> m &&& 1#64).toNat = (x.toNat >>> m) % 2 := by
    rw [BitVec.toNat_and, BitVec.toNat_ushiftRight]
    exact Nat.and_one_is_mod _
  have f : x.getLsbD m = decide ((x.toNat >>> m) % 2 = 1) := by
    show x.toNat.testBit m = _
    rw [Nat.testBit_eq_decide_div_mod_eq, Nat.shiftRight_eq_div_pow]
  unfold u
  rw [e, f]
  have := Nat.mod_two_eq_zero_or_one (x.toNat >>> m)
  rcases this with h | h <;> simp [h]
/-- A digit that is there. -/
theorem bitv_D (a : Ad) (i : Nat) (h : i < wd a.v6) : bitv a (i : Int) = if D a (127 - i) then 1 else 0 := by
  have hw := wd_lb a.v6
  have hin : inW a.v6 (i : Int) = true := by unfold inW; rw [wid_wd]; simp; omega
  have e : (wordOf (norm a) (i : Int)).getLsbD (63 - i % 64) = D a (127 - i) := by
    rw [D_split]
    unfold wordOf
    by_cases h64 : i < 64
    · rw [if_pos (by omega), if_neg (by omega), show 63 - i % 64 = 127 - i - 64 from by omega]
    · rw [if_neg (by omega), if_pos (by omega), show 63 - i % 64 = 127 - i from by omega]
  unfold bitv
  rw [if_pos hin, and_one, plc_of, e]
theorem bitv_none (a : Ad) (i : Int) (h : ¬ (0 ≤ i ∧ i < (wd a.v6 : Int))) : bitv a i = 0 := by
  have hin : inW a.v6 i = false := by
    unfold inW; rw [wid_wd]
    rw [Bool.and_eq_false_iff]
    simp; omega
  unfold bitv
  rw [hin]; rfl

theorem digitAt_bit (i m : Nat) (hm : m < 64) : (digitAt (i : Int)).getLsbD m = decide (m = 63 - i % 64) := by
  unfold digitAt
  rw [plc_of, BitVec.getLsbD_shiftLeft, BitVec.getLsbD_one]
  rw [Bool.eq_iff_iff]; simp; omega
theorem put_bit (x : BitVec 64) (i : Nat) (v : Int) (m : Nat) (hm : m < 64) : (putDigit x (i : Int) v).getLsbD m = if m = 63 - i % 64 then odd v else x.getLsbD m := by
  have e := digitAt_bit i m hm
  unfold putDigit
  cases odd v
  · simp only [Bool.false_eq_true, if_false, BitVec.getLsbD_and, BitVec.getLsbD_not, e]
    by_cases h : m = 63 - i % 64 <;> simp [h]
    · exact fun _ => hm
  · simp only [if_true, BitVec.getLsbD_or, BitVec.getLsbD_and, BitVec.getLsbD_not, e]
    by_cases h : m = 63 - i % 64 <;> simp [h]
    · exact fun _ => hm
/-- One digit is set, the others stay. -/
theorem D_set (a : Ad) (i : Nat) (v : Int) (h : i < wd a.v6) (j : Nat) : D (setv a (i : Int) v) j = if j = 127 - i then odd v else D a j := by
  have hw := wd_lb a.v6
  have hin : inW a.v6 (i : Int) = true := by unfold inW; rw [wid_wd]; simp; omega
  by_cases hj : j < 128
  · unfold setv
    rw [if_pos hin]
    by_cases h64 : i < 64
    · rw [if_pos (by omega), D_norm, D_P]
      by_cases hl : lb a.v6 ≤ j
      · by_cases j64 : j < 64
        · rw [if_neg (by omega), show P ⟨putDigit (norm a).hi i v, (norm a).lo, a.v6⟩ j = (norm a).lo.getLsbD j from if_pos j64, D_split, if_pos j64]
          simp [hl]
        · rw [show P ⟨putDigit (norm a).hi i v, (norm a).lo, a.v6⟩ j = (putDigit (norm a).hi i v).getLsbD (j - 64) from if_neg j64, put_bit _ _ _ _ (by omega), D_split, if_neg j64]
          by_cases e : j = 127 - i
          · rw [if_pos e, if_pos (by omega)]; simp [hl]
          · rw [if_neg e, if_neg (by omega)]; simp [hl]
      · rw [if_neg (by omega), D_low a j (by omega)]
        simp [hl]
    · rw [if_neg (by omega), D_norm, D_P]
      by_cases hl : lb a.v6 ≤ j
      · by_cases j64 : j < 64
        · rw [show P ⟨(norm a).hi, putDigit (norm a).lo i v, a.v6⟩ j = (putDigit (norm a).lo i v).getLsbD j from if_pos j64, put_bit _ _ _ _ j64, D_split, if_pos j64]
          by_cases e : j = 127 - i
          · rw [if_pos e, if_pos (by omega)]; simp [hl]
          · rw [if_neg e, if_neg (by omega)]; simp [hl]
        · rw [if_neg (by omega), show P ⟨(norm a).hi, putDigit (norm a).lo i v, a.v6⟩ j = (norm a).hi.getLsbD (j - 64) from if_neg j64, D_split, if_neg j64]
          simp [hl]
      · rw [if_neg (by omega), D_low a j (by omega)]
        simp [hl]
  · rw [D_ge _ j (by omega), if_neg (by omega), D_ge a j (by omega)]
theorem set_none (a : Ad) (i v : Int) (h : ¬ (0 ≤ i ∧ i < (wd a.v6 : Int))) : setv a i v = norm a := by
  have hin : inW a.v6 i = false := by
    unfold inW; rw [wid_wd]
    rw [Bool.and_eq_false_iff]
    simp; omega
  unfold setv
  rw [hin, norm_norm]; rfl
theorem set_v6 (a : Ad) (i v : Int) : (setv a i v).v6 = a.v6 := by
  unfold setv
  split
  · split <;> rfl
  · rfl
theorem set_norm (a : Ad) (i v : Int) : norm (setv a i v) = setv a i v := by
  unfold setv
  split
  · split <;> exact norm_norm _
  · exact norm_norm _
theorem sane_iff (a : Ad) : saneB a = true ↔ norm a = a := by
  obtain ⟨h, l, v⟩ := a
  unfold saneB
  simp only [Bool.and_eq_true, beq_iff_eq, u_inj]
  constructor
  · intro ⟨h1, h2⟩
    show Ad.mk _ _ _ = Ad.mk _ _ _
    rw [show sHi h v = h from h1, show sLo l v = l from h2]
  · intro e
    rw [e]
    exact ⟨rfl, rfl⟩

end Go.Proofs.YtfebhfghjdedhaaDoor
