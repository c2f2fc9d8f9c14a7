/-
  What Width, raw, Common and Compare of the document's answer for layer 1 return. No condition.
-/
import Derived.Test.YtfebhfghjdedhaaDoorMathB
import Derived.Test.YtfebhfghjdedhaaDoorLawD
namespace Go.Proofs.YtfebhfghjdedhaaDoor
open Go.RowKit

set_option maxHeartbeats 400000 in
theorem refWidth_any (v : Bool) (w : World) :
    Calls Tryd.prog 45 #[.bool v] w fun e w' => e = .returned (.int .i64 (wid v)) ∧ w = w' := by
  cases v
  · go_enter Tryd.func45, Tryd.ntmps45
    go_wp2
    go_ret
    exact ⟨rfl, rfl⟩
  · go_enter Tryd.func45, Tryd.ntmps45
    go_wp2
    go_ret
    exact ⟨rfl, rfl⟩

def rawv (a : Ad) (i : Int) : Int := if i < 64 then u (a.hi >>> (63 - i).toNat &&& 1#64) else u (a.lo >>> (127 - i).toNat &&& 1#64)

set_option maxHeartbeats 400000 in
theorem raw_any (a : Ad) (i : Int) (h0 : 0 ≤ i) (h1 : i < 128) (w : World) :
    Calls Tryd.prog 64 #[.agg #[.int .u64 (u a.hi), .int .u64 (u a.lo), .bool a.v6], .int .i64 i] w fun e w' => e = .returned (.int .i64 (rawv a i)) ∧ Below w.heap.size w w' := by
  by_cases h : i < 64
  · have hr := Lib.hid (show rawv a i = u (a.hi >>> (63 - i).toNat &&& 1#64) from if_pos h)
    have hs := shr_of a.hi (63 - i)
    have ha := u_and1 (a.hi >>> (63 - i).toNat)
    have hm : min (63 - i).toNat 64 = (63 - i).toNat := by omega
    obtain ⟨c0, c1⟩ := u_bit (a.hi >>> (63 - i).toNat)
    go_enter Tryd.func64, Tryd.ntmps64
    go_wp2
    go_ret
    exact ⟨ret_int hr.out.symm, by go_grown⟩
  · have hr := Lib.hid (show rawv a i = u (a.lo >>> (127 - i).toNat &&& 1#64) from if_neg h)
    have hs := shr_of a.lo (127 - i)
    have ha := u_and1 (a.lo >>> (127 - i).toNat)
    have hm : min (127 - i).toNat 64 = (127 - i).toNat := by omega
    obtain ⟨c0, c1⟩ := u_bit (a.lo >>> (127 - i).toNat)
    go_enter Tryd.func64, Tryd.ntmps64
    go_wp2
    go_ret
    exact ⟨ret_int hr.out.symm, by go_grown⟩

theorem rawv_P (a : Ad) (k : Nat) (h : k < 128) : rawv a (k : Int) = if P a (127 - k) then 1 else 0 := by
  unfold rawv P
  by_cases h64 : k < 64
  · rw [if_pos (by omega), and_one, show ((63 : Int) - (k : Int)).toNat = 127 - k - 64 from by omega, if_neg (show ¬ 127 - k < 64 by omega)]
  · rw [if_neg (by omega), and_one, show ((127 : Int) - (k : Int)).toNat = 127 - k from by omega, if_pos (show 127 - k < 64 by omega)]
theorem rawv_D (a : Ad) (k : Nat) (h : k < wd a.v6) : rawv a (k : Int) = if D a (127 - k) then 1 else 0 := by
  have hw := wd_lb a.v6
  rw [rawv_P a k (by omega), D_P]
  have : lb a.v6 ≤ 127 - k := by omega
  rw [decide_eq_true this, Bool.and_true]
theorem rawv_iff (a b : Ad) (hv : a.v6 = b.v6) (k : Nat) (h : k < wd a.v6) : rawv a (k : Int) = rawv b (k : Int) ↔ D a (127 - k) = D b (127 - k) := by
  rw [rawv_D a k h, rawv_D b k (by rw [← hv]; exact h)]
  cases D a (127 - k) <;> cases D b (127 - k) <;> simp
theorem common_unique (a b : Ad) (hv : a.v6 = b.v6) (k : Nat) (hk : k ≤ wd a.v6) (hall : ∀ j : Nat, j < k → rawv a (j : Int) = rawv b (j : Int)) (hend : k = wd a.v6 ∨ rawv a (k : Int) ≠ rawv b (k : Int)) : commonv a b = (k : Int) := by
  have hw := wd_lb a.v6
  obtain ⟨c, hc, hle, ha, hne⟩ := common_spec a b hv
  rw [hc]
  rcases Nat.lt_trichotomy c k with h | h | h
  · exact absurd ((rawv_iff a b hv c (by omega)).1 (hall c h)) (hne (by omega))
  · rw [h]
  · exfalso
    rcases hend with e | e
    · omega
    · exact e ((rawv_iff a b hv k (by omega)).2 (ha _ (by omega)))

theorem bit_half (m t : Nat) : m.testBit t = decide (2 ^ t ≤ m % 2 ^ (t + 1)) := by
  have ht : 2 ^ (t + 1) = 2 * 2 ^ t := by rw [Nat.pow_succ]; omega
  have h1 : m.testBit t = (m % 2 ^ (t + 1)).testBit t := by rw [Nat.testBit_mod_two_pow]; simp
  rw [h1]
  have h2 : m % 2 ^ (t + 1) < 2 * 2 ^ t := by rw [← ht]; exact Nat.mod_lt _ (Nat.two_pow_pos _)
  generalize m % 2 ^ (t + 1) = r at *
  rw [Nat.testBit_eq_decide_div_mod_eq]
  by_cases h3 : 2 ^ t ≤ r
  · have : r / 2 ^ t = 1 := by apply Nat.div_eq_of_lt_le <;> omega
    rw [this, decide_eq_true h3]; rfl
  · have : r / 2 ^ t = 0 := Nat.div_eq_of_lt (by omega)
    rw [this, decide_eq_false h3]; rfl
theorem lt_of_bit {x y t : Nat} (hx : x.testBit t = false) (hy : y.testBit t = true) (h : ∀ j, t < j → x.testBit j = y.testBit j) : x < y := by
  have hq : x / 2 ^ (t + 1) = y / 2 ^ (t + 1) := by
    apply Nat.eq_of_testBit_eq
    intro j
    rw [Nat.testBit_div_two_pow, Nat.testBit_div_two_pow]
    exact h _ (by omega)
  have m1 := Nat.div_add_mod x (2 ^ (t + 1))
  have m2 := Nat.div_add_mod y (2 ^ (t + 1))
  rw [← hq] at m2
  rw [bit_half] at hx hy
  have c1 := of_decide_eq_false hx
  have c2 := of_decide_eq_true hy
  omega
theorem cmp_raw (a b : Ad) (hv : a.v6 = b.v6) (k : Nat) (hk : commonv a b = (k : Int)) (hlt : k < wd a.v6) : rawv a (k : Int) - rawv b (k : Int) = cmpv a b ∧ 0 ≤ rawv a (k : Int) ∧ rawv a (k : Int) ≤ 1 ∧ 0 ≤ rawv b (k : Int) ∧ rawv b (k : Int) ≤ 1 := by
  have hw := wd_lb a.v6
  obtain ⟨c, hc, hle, ha, hne⟩ := common_spec a b hv
  obtain rfl : c = k := by omega
  have hd := hne hlt
  rw [rawv_D a c hlt, rawv_D b c (by rw [← hv]; exact hlt), cmp_V a b hv]
  cases h1 : D a (127 - c) <;> cases h2 : D b (127 - c)
  · exact absurd (h1.trans h2.symm) hd
  · have hl : V a < V b := lt_of_bit (t := 127 - c) h1 h2 fun j hj => ha j (by omega)
    rw [if_pos hl]
    decide
  · have hl : V b < V a := lt_of_bit (t := 127 - c) h2 h1 fun j hj => (ha j (by omega)).symm
    rw [if_neg (Nat.lt_asymm hl), if_pos hl]
    decide
  · exact absurd (h1.trans h2.symm) hd

end Go.Proofs.YtfebhfghjdedhaaDoor
