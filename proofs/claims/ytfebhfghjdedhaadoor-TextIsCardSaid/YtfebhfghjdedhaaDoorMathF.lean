/-
  Plain facts: an address as bytes, and bytes as an address. No condition.
-/
import Derived.Test.YtfebhfghjdedhaaDoorMathB
import Derived.Test.YtfebhfghjdedhaaDoorWh
import Derived.Test.YtfebhfghjdedhaaDoorWi
namespace Go.Proofs.YtfebhfghjdedhaaDoor
open Go.RowKit

theorem b8_bit (n : Int) (h0 : 0 ≤ n) (h1 : n < 256) (m : Nat) : (b8 n).getLsbD m = n.toNat.testBit m := by
  show (b8 n).toNat.testBit m = _
  have e : (b8 n).toNat = n.toNat := by
    have := u_b8 n h0 h1
    unfold u at this
    omega
  rw [e]
theorem byte_high (n : Int) (h1 : n < 256) (m : Nat) (hm : 8 ≤ m) : n.toNat.testBit m = false := by
  apply Nat.testBit_lt_two_pow
  exact Nat.lt_of_lt_of_le (show n.toNat < 2 ^ 8 by omega) (Nat.pow_le_pow_right (by omega) hm)
theorem plc8 (k : Nat) : (plc ((k : Int) * 8 + 8 - 1)).toNat = 56 - 8 * (k % 8) := by unfold plc; omega

theorem fHi_bit (bs : Nat → Int) (n : Nat) (hb : ∀ j, j < n → 0 ≤ bs j ∧ bs j < 256) (m : Nat) (hm : m < 64) :
    (fHi bs n).getLsbD m = (decide (7 - m / 8 < n) && (bs (7 - m / 8)).toNat.testBit (m % 8)) := by
  induction n with
  | zero => simp [fHi]
  | succ n ih =>
    have ih' := ih fun j hj => hb j (by omega)
    unfold fHi
    by_cases h8 : n < 8
    · rw [if_pos h8, BitVec.getLsbD_or, ih', BitVec.getLsbD_shiftLeft, plc8]
      obtain ⟨b0, b1⟩ := hb n (by omega)
      by_cases e : 7 - m / 8 = n
      · rw [e, b8_bit _ b0 b1 _, show m - (56 - 8 * (n % 8)) = m % 8 from by omega]
        have h1 : ¬ n < n := by omega
        have h2 : n < n + 1 := by omega
        have h3 : ¬ m < 56 - 8 * (n % 8) := by omega
        simp [hm, h3]
      · have h4 : (decide (m < 64) && !decide (m < 56 - 8 * (n % 8)) && (b8 (bs n)).getLsbD (m - (56 - 8 * (n % 8)))) = false := by
          by_cases h5 : m < 56 - 8 * (n % 8)
          · simp [h5]
          · rw [b8_bit _ b0 b1 _, byte_high _ b1 _ (by omega)]; simp
        rw [h4, Bool.or_false]
        have h6 : (7 - m / 8 < n) ↔ (7 - m / 8 < n + 1) := by omega
        simp only [h6]
    · rw [if_neg h8, ih']
      have h6 : 7 - m / 8 < n := by omega
      have h7 : 7 - m / 8 < n + 1 := by omega
      simp only [h6, h7]
theorem fLo_bit (bs : Nat → Int) (n : Nat) (hb : ∀ j, j < n → 0 ≤ bs j ∧ bs j < 256) (hn : n ≤ 16) (m : Nat) (hm : m < 64) :
    (fLo bs n).getLsbD m = (decide (15 - m / 8 < n) && (bs (15 - m / 8)).toNat.testBit (m % 8)) := by
  induction n with
  | zero => simp [fLo]
  | succ n ih =>
    have ih' := ih (fun j hj => hb j (by omega)) (by omega)
    unfold fLo
    by_cases h8 : n < 8
    · rw [if_pos h8, ih']
      have h6 : ¬ 15 - m / 8 < n := by omega
      have h7 : ¬ 15 - m / 8 < n + 1 := by omega
      simp only [h6, h7]
    · rw [if_neg h8, BitVec.getLsbD_or, ih', BitVec.getLsbD_shiftLeft, plc8]
      obtain ⟨b0, b1⟩ := hb n (by omega)
      by_cases e : 15 - m / 8 = n
      · rw [e, b8_bit _ b0 b1 _, show m - (56 - 8 * (n % 8)) = m % 8 from by omega]
        have h3 : ¬ m < 56 - 8 * (n % 8) := by omega
        simp [hm, h3]
      · have h4 : (decide (m < 64) && !decide (m < 56 - 8 * (n % 8)) && (b8 (bs n)).getLsbD (m - (56 - 8 * (n % 8)))) = false := by
          by_cases h5 : m < 56 - 8 * (n % 8)
          · simp [h5]
          · rw [b8_bit _ b0 b1 _, byte_high _ b1 _ (by omega)]; simp
        rw [h4, Bool.or_false]
        have h6 : (15 - m / 8 < n) ↔ (15 - m / 8 < n + 1) := by omega
        simp only [h6]
/-- Digit j of bytes as an address. -/
theorem D_from (bs : Nat → Int) (v : Bool) (hb : ∀ j, j < nb v → 0 ≤ bs j ∧ bs j < 256) (j : Nat) (hj : j < 128) :
    D (fromv bs v) j = (decide (lb v ≤ j) && (bs (15 - j / 8)).toNat.testBit (j % 8)) := by
  have e : fromv bs v = norm ⟨fHi bs (nb v), fLo bs (nb v), v⟩ := rfl
  have hn := nb_le v
  rw [e, D_norm, D_P]
  by_cases h : j < 64
  · rw [show P ⟨fHi bs (nb v), fLo bs (nb v), v⟩ j = (fLo bs (nb v)).getLsbD j from if_pos h, fLo_bit bs _ hb hn.1 j h]
    show (_ && decide (lb v ≤ j)) = _
    by_cases hl : lb v ≤ j
    · have h1 : 15 - j / 8 < nb v := by
        cases v
        · have : 96 ≤ j := hl
          omega
        · show 15 - j / 8 < 16
          omega
      simp [hl, h1]
    · simp [hl]
  · rw [show P ⟨fHi bs (nb v), fLo bs (nb v), v⟩ j = (fHi bs (nb v)).getLsbD (j - 64) from if_neg h, fHi_bit bs _ hb _ (by omega)]
    show (_ && decide (lb v ≤ j)) = _
    rw [show 7 - (j - 64) / 8 = 15 - j / 8 from by omega, show (j - 64) % 8 = j % 8 from by omega]
    by_cases hl : lb v ≤ j
    · have h1 : 15 - j / 8 < nb v := by
        cases v
        · have h96 : 96 ≤ j := hl
          show 15 - j / 8 < 4
          omega
        · show 15 - j / 8 < 16
          omega
      simp [hl, h1]
    · simp [hl]
theorem byteAt_bd (a : Ad) (k : Nat) : 0 ≤ byteAt a k ∧ byteAt a k < 256 := by unfold byteAt; omega
theorem byteAt_bit (a : Ad) (k : Nat) (hk : k < 16) (m : Nat) (hm : m < 8) : (byteAt a k).toNat.testBit m = D a (120 - 8 * k + m) := by
  have e : (byteAt a k).toNat = (wordOf (norm a) ((k : Int) * 8 + 8 - 1)).toNat >>> (56 - 8 * (k % 8)) % 2 ^ 8 := by
    unfold byteAt u
    rw [plc8, BitVec.toNat_ushiftRight]
    omega
  rw [e, Nat.testBit_mod_two_pow, Nat.testBit_shiftRight, D_split]
  unfold wordOf
  by_cases h8 : k < 8
  · rw [if_pos (by omega), if_neg (by omega), show 120 - 8 * k + m - 64 = 56 - 8 * (k % 8) + m from by omega]
    simp only [hm, decide_true, Bool.true_and]
    rfl
  · rw [if_neg (by omega), if_pos (by omega), show 120 - 8 * k + m = 56 - 8 * (k % 8) + m from by omega]
    simp only [hm, decide_true, Bool.true_and]
    rfl
/-- Bytes are read as they were told. -/
theorem from_bytes (a : Ad) : fromv (byteAt a) a.v6 = norm a := by
  have e : norm (fromv (byteAt a) a.v6) = norm a := by
    refine norm_ext rfl fun j => ?_
    by_cases hj : j < 128
    · rw [D_from _ _ (fun k _ => byteAt_bd a k) j hj, byteAt_bit a _ (by omega) _ (by omega), show 120 - 8 * (15 - j / 8) + j % 8 = j from by omega]
      by_cases hl : lb a.v6 ≤ j
      · simp [hl]
      · rw [D_low a j (by omega)]; simp
    · rw [D_ge _ j (by omega), D_ge _ j (by omega)]
  have f : norm (fromv (byteAt a) a.v6) = fromv (byteAt a) a.v6 := norm_norm _
  rw [← f, e]
theorem bytes_from (bs : Nat → Int) (v : Bool) (hb : ∀ j, j < nb v → 0 ≤ bs j ∧ bs j < 256) (k : Nat) (hk : k < nb v) : byteAt (fromv bs v) k = bs k := by
  obtain ⟨b0, b1⟩ := hb k hk
  obtain ⟨c0, c1⟩ := byteAt_bd (fromv bs v) k
  have hn := nb_le v
  have e : (byteAt (fromv bs v) k).toNat = (bs k).toNat := by
    apply Nat.eq_of_testBit_eq
    intro m
    by_cases hm : m < 8
    · rw [byteAt_bit _ k (by omega) m hm, D_from bs v hb _ (by omega), show 15 - (120 - 8 * k + m) / 8 = k from by omega, show (120 - 8 * k + m) % 8 = m from by omega]
      have hl : lb v ≤ 120 - 8 * k + m := by
        cases v
        · show 96 ≤ _
          have : k < 4 := hk
          omega
        · exact Nat.zero_le _
      simp [hl]
    · rw [byte_high _ c1 m (by omega), byte_high _ b1 m (by omega)]
  omega

theorem and1_odd (v : Int) : bits .and .i64 v 1 = if odd v = true then 1 else 0 := by
  have h : (BitVec.ofInt 64 v &&& BitVec.ofInt 64 1).toNat ≤ 1 := by
    rw [BitVec.toNat_and]
    exact Nat.le_trans Nat.and_le_right (by decide)
  have e : bits .and .i64 v 1 = (((BitVec.ofInt 64 v &&& BitVec.ofInt 64 1).toNat : Nat) : Int) := by
    show IntKind.i64.wrap (((BitVec.ofInt 64 v &&& BitVec.ofInt 64 1).toNat : Nat) : Int) = _
    rw [IntKind.wrap_i64]
    omega
  unfold odd
  rw [e]
  generalize (BitVec.ofInt 64 v &&& BitVec.ofInt 64 1).toNat = n at *
  have : n = 0 ∨ n = 1 := by omega
  rcases this with rfl | rfl <;> rfl
/-- A digit that is set is told; set back, the address is as it was. -/
theorem set_told (a : Ad) (k : Nat) (v : Int) (h : k < wd a.v6) : bitv (setv a (k : Int) v) (k : Int) = bits .and .i64 v 1 ∧ setv (setv a (k : Int) v) (k : Int) (bitv a (k : Int)) = norm a := by
  have h' : k < wd (setv a (k : Int) v).v6 := by rw [set_v6]; exact h
  constructor
  · rw [bitv_D _ k h', D_set a k v h, if_pos rfl, and1_odd]
  · rw [← set_norm]
    refine norm_ext (by rw [set_v6, set_v6]) fun j => ?_
    rw [D_set _ k _ h', D_set a k v h]
    by_cases e : j = 127 - k
    · subst e
      rw [if_pos rfl, bitv_D a k h]
      cases D a (127 - k)
      · decide
      · decide
    · rw [if_neg e, if_neg e]

end Go.Proofs.YtfebhfghjdedhaaDoor
