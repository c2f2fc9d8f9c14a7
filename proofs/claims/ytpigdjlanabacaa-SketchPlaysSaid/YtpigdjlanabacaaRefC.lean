/-
  What From of the document's answer for layer 1 returns. No condition.
-/
import Derived.Test.YtpigdjlanabacaaRefB
import Derived.Test.YtpigdjlanabacaaFr
import Derived.Deep.AppendLies
namespace Go.Proofs.Ytpigdjlanabacaa
open Go.RowKit
set_option maxRecDepth 100000

theorem addr_add (g o j : Nat) : (⟨g, o, none⟩ : Addr).add j = ⟨g, o + j, none⟩ := by
  unfold Addr.add
  by_cases h : j = 0
  · subst h; simp
  · simp [h]
/-- Digit j of bytes. -/
def dgt (bs : Nat → Int) (j : Nat) : Int := bs (j / 8) / 2 ^ (7 - j % 8) % 2
def digs (bs : Nat → Int) (m : Nat) : List Value := (List.range m).map fun j => .int .i64 (dgt bs j)
theorem digs_succ (bs : Nat → Int) (m : Nat) : digs bs (m + 1) = digs bs m ++ [.int .i64 (dgt bs m)] := by
  unfold digs
  rw [List.range_succ, List.map_append]
  rfl
theorem digs_at (bs : Nat → Int) (m j : Nat) (h : j < m) : (digs bs m)[j]? = some (.int .i64 (dgt bs j)) := by
  unfold digs
  simp [h]
theorem u8_and1 (n : Int) (h0 : 0 ≤ n) (h1 : n < 256) : bits .and .u8 n 1 = n % 2 := by
  rw [u8_and n 1 h0 h1 (by omega) (by omega)]
  have : (1 : Int).toNat = 1 := rfl
  rw [this, nat_mask1]
  omega
theorem dgt_bd (bs : Nat → Int) (j : Nat) : 0 ≤ dgt bs j ∧ dgt bs j ≤ 1 := by unfold dgt; omega

theorem oHi_bit (dl : Nat → Int) (n : Nat) (hd : ∀ j, j < n → 0 ≤ dl j ∧ dl j ≤ 1) (m : Nat) (hm : m < 64) : (oHi dl n).getLsbD m = (decide (63 - m < n) && decide (dl (63 - m) = 1)) := by
  induction n with
  | zero => simp [oHi]
  | succ n ih =>
    have ih' := ih fun j hj => hd j (by omega)
    unfold oHi
    by_cases h : n < 64
    · obtain ⟨b0, b1⟩ := hd n (by omega)
      rw [if_pos h, BitVec.getLsbD_or, ih', BitVec.getLsbD_shiftLeft, b8_bit _ b0 (by omega)]
      by_cases e : 63 - m = n
      · rw [e, show m - (63 - n) = 0 from by omega]
        have h1 : ¬ m < 63 - n := by omega
        have h2 : dl n = 0 ∨ dl n = 1 := by omega
        rcases h2 with h2 | h2 <;> simp [h1, h2, hm]
      · have h1 : (decide (m < 64) && !decide (m < 63 - n) && (dl n).toNat.testBit (m - (63 - n))) = false := by
          by_cases h5 : m < 63 - n
          · simp [h5]
          · have h6 : (dl n).toNat.testBit (m - (63 - n)) = false := by
              apply Nat.testBit_lt_two_pow
              exact Nat.lt_of_lt_of_le (show (dl n).toNat < 2 ^ 1 by omega) (Nat.pow_le_pow_right (by omega) (by omega))
            rw [h6]; simp
        rw [h1, Bool.or_false]
        have h7 : (63 - m < n) ↔ (63 - m < n + 1) := by omega
        simp only [h7]
    · rw [if_neg h, ih']
      have h1 : 63 - m < n := by omega
      have h2 : 63 - m < n + 1 := by omega
      simp only [h1, h2]
theorem oLo_bit (dl : Nat → Int) (n : Nat) (hn : n ≤ 128) (hd : ∀ j, j < n → 0 ≤ dl j ∧ dl j ≤ 1) (m : Nat) (hm : m < 64) : (oLo dl n).getLsbD m = (decide (127 - m < n) && decide (dl (127 - m) = 1)) := by
  induction n with
  | zero => simp [oLo]
  | succ n ih =>
    have ih' := ih (by omega) fun j hj => hd j (by omega)
    unfold oLo
    by_cases h : n < 64
    · rw [if_pos h, ih']
      have h1 : ¬ 127 - m < n := by omega
      have h2 : ¬ 127 - m < n + 1 := by omega
      simp only [h1, h2]
    · obtain ⟨b0, b1⟩ := hd n (by omega)
      rw [if_neg h, BitVec.getLsbD_or, ih', BitVec.getLsbD_shiftLeft, b8_bit _ b0 (by omega)]
      by_cases e : 127 - m = n
      · rw [e, show m - (127 - n) = 0 from by omega]
        have h1 : ¬ m < 127 - n := by omega
        have h2 : dl n = 0 ∨ dl n = 1 := by omega
        rcases h2 with h2 | h2 <;> simp [h1, h2, hm]
      · have h1 : (decide (m < 64) && !decide (m < 127 - n) && (dl n).toNat.testBit (m - (127 - n))) = false := by
          by_cases h5 : m < 127 - n
          · simp [h5]
          · have h6 : (dl n).toNat.testBit (m - (127 - n)) = false := by
              apply Nat.testBit_lt_two_pow
              exact Nat.lt_of_lt_of_le (show (dl n).toNat < 2 ^ 1 by omega) (Nat.pow_le_pow_right (by omega) (by omega))
            rw [h6]; simp
        rw [h1, Bool.or_false]
        have h7 : (127 - m < n) ↔ (127 - m < n + 1) := by omega
        simp only [h7]
/-- The digits of an address out of digits. -/
theorem P_of (dl : Nat → Int) (v : Bool) (hd : ∀ j, j < wd v → 0 ≤ dl j ∧ dl j ≤ 1) (j : Nat) (hj : j < 128) : P (ofv dl v) j = (decide (127 - j < wd v) && decide (dl (127 - j) = 1)) := by
  have hw := wd_lb v
  unfold P ofv
  by_cases h : j < 64
  · rw [if_pos h, oLo_bit dl _ (by omega) hd j h]
  · rw [if_neg h, oHi_bit dl _ hd _ (by omega), show 63 - (j - 64) = 127 - j from by omega]
theorem of_norm (dl : Nat → Int) (v : Bool) (hd : ∀ j, j < wd v → 0 ≤ dl j ∧ dl j ≤ 1) : norm (ofv dl v) = ofv dl v := by
  have hw := wd_lb v
  have hP : ∀ j, j < 128 → P (norm (ofv dl v)) j = P (ofv dl v) j := by
    intro j hj
    rw [P_norm, D_P, P_of dl v hd j hj]
    show (_ && decide (lb v ≤ j)) = _
    by_cases hl : lb v ≤ j
    · simp [hl]
    · have : ¬ 127 - j < wd v := by omega
      simp [this]
  have e1 : (norm (ofv dl v)).hi = (ofv dl v).hi := by
    apply BitVec.eq_of_getLsbD_eq
    intro m hm
    have := hP (m + 64) (by omega)
    unfold P at this
    rw [if_neg (by omega), if_neg (by omega), Nat.add_sub_cancel] at this
    exact this
  have e2 : (norm (ofv dl v)).lo = (ofv dl v).lo := by
    apply BitVec.eq_of_getLsbD_eq
    intro m hm
    have := hP m (by omega)
    unfold P at this
    rw [if_pos hm, if_pos hm] at this
    exact this
  show Ad.mk (norm (ofv dl v)).hi (norm (ofv dl v)).lo v = _
  rw [e1, e2]
  rfl
theorem dgt_bit (bs : Nat → Int) (j : Nat) (h0 : 0 ≤ bs (j / 8)) : decide (dgt bs j = 1) = (bs (j / 8)).toNat.testBit (7 - j % 8) := by
  obtain ⟨n, hn⟩ := Int.eq_ofNat_of_zero_le h0
  unfold dgt
  rw [hn, Int.toNat_natCast, Nat.testBit_eq_decide_div_mod_eq]
  have e : ((n : Int) / 2 ^ (7 - j % 8) % 2) = ((n / 2 ^ (7 - j % 8) % 2 : Nat) : Int) := by simp
  rw [e]
  congr 1
  simp only [eq_iff_iff]
  omega
/-- The two ways from bytes to an address are one. -/
theorem of_from (bs : Nat → Int) (v : Bool) (hb : ∀ j, j < nb v → 0 ≤ bs j ∧ bs j < 256) : ofv (dgt bs) v = fromv bs v := by
  have hw := wd_lb v
  have hnb : wd v = 8 * nb v := by cases v <;> rfl
  have hd := fun j (_ : j < wd v) => dgt_bd bs j
  have e : norm (ofv (dgt bs) v) = norm (fromv bs v) := by
    refine norm_ext rfl fun j => ?_
    by_cases hj : j < 128
    · rw [D_from bs v hb j hj, D_P, P_of _ v hd j hj]
      show (_ && decide (lb v ≤ j)) = _
      by_cases hl : lb v ≤ j
      · have h1 : 127 - j < wd v := by omega
        have h2 : 15 - j / 8 = (127 - j) / 8 := by omega
        have h3 : j % 8 = 7 - (127 - j) % 8 := by omega
        rw [dgt_bit bs _ (hb _ (by omega)).1, ← h2, ← h3]
        simp [hl, h1]
      · simp [hl]
    · rw [D_ge _ j (by omega), D_ge _ j (by omega)]
  rw [of_norm _ v hd] at e
  have f : norm (fromv bs v) = fromv bs v := norm_norm _
  rw [e, f]
end Go.Proofs.Ytpigdjlanabacaa
