/-
  Plain facts on prefixes: two children side by side, order, the chain of parents. No condition.
-/
import Derived.Test.YtcbfppangiopeaaGreatMathQ
namespace Go.Proofs.YtcbfppangiopeaaGreat
open Go.RowKit

section
variable (p : Pf) (hp : psane p = true) (h : p.n < wid p.a.v6)
include hp h

theorem kin_apart : papa (pchild p 0).1 (pchild p 1).1 = true := by
  obtain ⟨b0, b1⟩ := psane_bd hp
  have h' := h
  rw [wid_wd] at h'
  have hw := wd_lb p.a.v6
  have d0 := child_D p 0 hp h (127 - p.n.toNat)
  have d1 := child_D p 1 hp h (127 - p.n.toNat)
  rw [if_pos (by omega)] at d0 d1
  rw [odd_01.1] at d0
  rw [odd_01.2.1] at d1
  rw [child_eq p 0 hp h, child_eq p 1 hp h, apa_eq (child_sane p 0 hp h) (child_sane p 1 hp h)]
  have n1 : pcov ⟨setv p.a p.n 0, p.n + 1⟩ ⟨setv p.a p.n 1, p.n + 1⟩ = false := bool_not fun hc => by
    obtain ⟨_, _, _, _, h5⟩ := (pcov_iff _ _).1 hc
    have := h5 (127 - p.n.toNat) (by show 128 ≤ ((127 - p.n.toNat : Nat) : Int) + (p.n + 1); omega)
    have e : D (setv p.a p.n 1) (127 - p.n.toNat) = D (setv p.a p.n 0) (127 - p.n.toNat) := this
    rw [d0, d1] at e
    cases e
  have n2 : pcov ⟨setv p.a p.n 1, p.n + 1⟩ ⟨setv p.a p.n 0, p.n + 1⟩ = false := bool_not fun hc => by
    obtain ⟨_, _, _, _, h5⟩ := (pcov_iff _ _).1 hc
    have := h5 (127 - p.n.toNat) (by show 128 ≤ ((127 - p.n.toNat : Nat) : Int) + (p.n + 1); omega)
    have e : D (setv p.a p.n 0) (127 - p.n.toNat) = D (setv p.a p.n 1) (127 - p.n.toNat) := this
    rw [d0, d1] at e
    cases e
  rw [n1, n2]; rfl
theorem kin_lt : V (setv p.a p.n 0) < V (setv p.a p.n 1) := by
  obtain ⟨b0, b1⟩ := psane_bd hp
  have h' := h
  rw [wid_wd] at h'
  have hw := wd_lb p.a.v6
  refine lt_of_bit' (t := 127 - p.n.toNat) ?_ ?_ fun j hj => ?_
  · show D (setv p.a p.n 0) _ = false
    rw [child_D p 0 hp h, if_pos (by omega)]; exact odd_01.1
  · show D (setv p.a p.n 1) _ = true
    rw [child_D p 1 hp h, if_pos (by omega)]; exact odd_01.2.1
  · show D (setv p.a p.n 0) _ = D (setv p.a p.n 1) _
    rw [child_D p 0 hp h, child_D p 1 hp h, if_neg (by omega), if_neg (by omega)]
theorem kin_cmp : pcmp (pchild p 0).1 (pchild p 1).1 = -1 := by
  rw [child_eq p 0 hp h, child_eq p 1 hp h]
  have e : cmpv (setv p.a p.n 0) (setv p.a p.n 1) = -1 := by
    rw [cmp_V _ _ (by rw [set_v6, set_v6]), if_pos (kin_lt p hp h)]
  show (if cmpv (setv p.a p.n 0) (setv p.a p.n 1) = 0 then _ else cmpv (setv p.a p.n 0) (setv p.a p.n 1)) = -1
  rw [e, if_neg (by decide)]
theorem kin_ins : pins p (pchild p 0).1 = true := by
  obtain ⟨b0, b1⟩ := psane_bd hp
  rw [child_eq p 0 hp h]
  unfold pins
  have : pcov p ⟨setv p.a p.n 0, p.n + 1⟩ = true := by
    refine (pcov_iff _ _).2 ⟨hp, child_sane p 0 hp h, by show p.n ≤ p.n + 1; omega, (set_v6 _ _ _).symm, fun j hj => ?_⟩
    show D (setv p.a p.n 0) j = _
    rw [child_D p 0 hp h, if_neg (by omega)]
  rw [this, Bool.true_and]
  show decide (p.n < p.n + 1) = true
  exact decide_eq_true (by omega)
theorem kin_con (a : Ad) : pcon p a = (pcon (pchild p 0).1 a || pcon (pchild p 1).1 a) := by
  obtain ⟨b0, b1⟩ := psane_bd hp
  have h' := h
  rw [wid_wd] at h'
  have hw := wd_lb p.a.v6
  rw [child_eq p 0 hp h, child_eq p 1 hp h, Bool.eq_iff_iff, Bool.or_eq_true]
  constructor
  · intro hc
    obtain ⟨_, hv, hd⟩ := (pcon_iff _ _).1 hc
    cases ha : D a (127 - p.n.toNat)
    · left
      refine (pcon_iff _ _).2 ⟨child_sane p 0 hp h, by show a.v6 = (setv p.a p.n 0).v6; rw [set_v6]; exact hv, fun j hj => ?_⟩
      have hj' : 128 ≤ (j : Int) + (p.n + 1) := hj
      show _ = D (setv p.a p.n 0) j
      rw [child_D p 0 hp h]
      by_cases e : (j : Int) = 127 - p.n
      · rw [if_pos e, show j = 127 - p.n.toNat from by omega, ha, odd_01.1]
      · rw [if_neg e]; exact hd j (by omega)
    · right
      refine (pcon_iff _ _).2 ⟨child_sane p 1 hp h, by show a.v6 = (setv p.a p.n 1).v6; rw [set_v6]; exact hv, fun j hj => ?_⟩
      have hj' : 128 ≤ (j : Int) + (p.n + 1) := hj
      show _ = D (setv p.a p.n 1) j
      rw [child_D p 1 hp h]
      by_cases e : (j : Int) = 127 - p.n
      · rw [if_pos e, show j = 127 - p.n.toNat from by omega, ha, odd_01.2.1]
      · rw [if_neg e]; exact hd j (by omega)
  · have half : ∀ v : Int, pcon ⟨setv p.a p.n v, p.n + 1⟩ a = true → pcon p a = true := by
      intro v hc
      obtain ⟨_, hv, hd⟩ := (pcon_iff _ _).1 hc
      refine (pcon_iff _ _).2 ⟨hp, ?_, fun j hj => ?_⟩
      · have hv' : a.v6 = (setv p.a p.n v).v6 := hv
        rw [set_v6] at hv'; exact hv'
      · have e : D a j = D (setv p.a p.n v) j := hd j (by show 128 ≤ (j : Int) + (p.n + 1); omega)
        rw [e, child_D p v hp h, if_neg (by omega)]
    rintro (hc | hc)
    · exact half 0 hc
    · exact half 1 hc
theorem kin_last : fillv (pchild p 1).1.a (pchild p 1).1.n = fillv p.a p.n := by
  obtain ⟨s1, s2, s3, s4⟩ := (psane_iff p).1 hp
  have h' := h
  rw [wid_wd] at h'
  have hw := wd_lb p.a.v6
  have hs := child_sane p 1 hp h
  rw [child_eq p 1 hp h]
  show fillv (setv p.a p.n 1) (p.n + 1) = _
  rw [← fill_norm p.a, ← fill_norm (setv p.a p.n 1)]
  refine norm_ext (by rw [fill_v6, fill_v6, set_v6]) fun j => ?_
  have e := last_D ⟨setv p.a p.n 1, p.n + 1⟩ hs j
  have e' : D (fillv (setv p.a p.n 1) (p.n + 1)) j = (D (setv p.a p.n 1) j || (decide ((j : Int) + (p.n + 1) < 128) && decide (lb (setv p.a p.n 1).v6 ≤ j))) := e
  rw [e', last_D p hp, child_D p 1 hp h, set_v6]
  by_cases c : (j : Int) = 127 - p.n
  · rw [if_pos c, odd_01.2.1]
    have c1 : (j : Int) + p.n < 128 := by omega
    have c2 : lb p.a.v6 ≤ j := by omega
    simp [c1, c2]
  · rw [if_neg c]
    by_cases c1 : (j : Int) + (p.n + 1) < 128
    · have c2 : (j : Int) + p.n < 128 := by omega
      simp [c1, c2]
    · have c2 : ¬ (j : Int) + p.n < 128 := by omega
      simp [c1, c2]
theorem kin_next : (nextv (fillv (pchild p 0).1.a (pchild p 0).1.n)).2 = true ∧ (nextv (fillv (pchild p 0).1.a (pchild p 0).1.n)).1 = maskv (pchild p 1).1.a (pchild p 1).1.n := by
  obtain ⟨s1, s2, s3, s4⟩ := (psane_iff p).1 hp
  have h' := h
  rw [wid_wd] at h'
  have hw := wd_lb p.a.v6
  have hs0 := child_sane p 0 hp h
  have hs1 := child_sane p 1 hp h
  rw [child_eq p 0 hp h, child_eq p 1 hp h, first_eq ⟨setv p.a p.n 1, p.n + 1⟩ hs1]
  show (nextv (fillv (setv p.a p.n 0) (p.n + 1))).2 = true ∧ (nextv (fillv (setv p.a p.n 0) (p.n + 1))).1 = setv p.a p.n 1
  obtain ⟨k, hk⟩ := Int.eq_ofNat_of_zero_le s2
  have hk' : p.n = (k : Int) := hk
  have kle : k < wd p.a.v6 := by omega
  have pw : (2 : Nat) ^ lb p.a.v6 ≤ 2 ^ (127 - k) := Nat.pow_le_pow_right (by omega) (by omega)
  have pw2 : (2 : Nat) ^ (128 - k) = 2 * 2 ^ (127 - k) := by rw [show 128 - k = (127 - k) + 1 from by omega, Nat.pow_succ]; omega
  have pp : 0 < (2 : Nat) ^ lb p.a.v6 := Nat.two_pow_pos _
  have v1 : V (setv p.a p.n 1) = 2 ^ (128 - k) * (V p.a / 2 ^ (128 - k)) + 2 ^ (127 - k) := by
    apply Nat.eq_of_testBit_eq
    intro j
    rw [Nat.testBit_two_pow_mul_add _ (by omega), Nat.testBit_two_pow]
    show D (setv p.a p.n 1) j = _
    rw [child_D p 1 hp h]
    by_cases c : (j : Int) = 127 - p.n
    · rw [if_pos c, if_pos (by omega), odd_01.2.1]
      exact (decide_eq_true (by omega)).symm
    · rw [if_neg c]
      by_cases c1 : j < 128 - k
      · rw [if_pos c1, s4 j (by omega)]
        exact (decide_eq_false (by omega)).symm
      · rw [if_neg c1, Nat.testBit_div_two_pow, show j - (128 - k) + (128 - k) = j from by omega]
        rfl
  have v0 : V (fillv (setv p.a p.n 0) (p.n + 1)) = 2 ^ (128 - k) * (V p.a / 2 ^ (128 - k)) + (2 ^ (127 - k) - 2 ^ lb p.a.v6) := by
    apply Nat.eq_of_testBit_eq
    intro j
    rw [Nat.testBit_two_pow_mul_add _ (by omega), ones_bit _ _ _ (by omega)]
    have e : D (fillv (setv p.a p.n 0) (p.n + 1)) j = (D (setv p.a p.n 0) j || (decide ((j : Int) + (p.n + 1) < 128) && decide (lb (setv p.a p.n 0).v6 ≤ j))) := last_D ⟨setv p.a p.n 0, p.n + 1⟩ hs0 j
    show D (fillv (setv p.a p.n 0) (p.n + 1)) j = _
    rw [e, child_D p 0 hp h, set_v6]
    by_cases c : (j : Int) = 127 - p.n
    · rw [if_pos c, if_pos (by omega), odd_01.1]
      have c1 : ¬ (j : Int) + (p.n + 1) < 128 := by omega
      have c2 : ¬ j < 127 - k := by omega
      simp [c1, c2]
    · rw [if_neg c]
      by_cases c1 : j < 128 - k
      · rw [if_pos c1, s4 j (by omega)]
        have c2 : (j : Int) + (p.n + 1) < 128 := by omega
        have c3 : j < 127 - k := by omega
        simp [c2, c3]
      · rw [if_neg c1, Nat.testBit_div_two_pow, show j - (128 - k) + (128 - k) = j from by omega]
        have c2 : ¬ (j : Int) + (p.n + 1) < 128 := by omega
        rw [decide_eq_false c2, Bool.false_and, Bool.or_false]
        rfl
  have hlast : V (setv p.a p.n 1) < 2 ^ 128 := V_lt _
  obtain ⟨n1, n2, n3, n4⟩ := next_spec (fillv (setv p.a p.n 0) (p.n + 1))
  have hv0 : (fillv (setv p.a p.n 0) (p.n + 1)).v6 = p.a.v6 := by rw [fill_v6, set_v6]
  rw [hv0] at n1 n3 n4
  have ok : (nextv (fillv (setv p.a p.n 0) (p.n + 1))).2 = true := by
    cases hok : (nextv (fillv (setv p.a p.n 0) (p.n + 1))).2
    · exfalso
      have ht := (n3 hok).1
      unfold top at ht
      have : (2 : Nat) ^ lb p.a.v6 ≤ 2 ^ 128 := Nat.pow_le_pow_right (by omega) (by omega)
      omega
    · rfl
  refine ⟨ok, ?_⟩
  have hV := n4 ok
  refine n2.symm.trans (Eq.trans ?_ (set_norm p.a p.n 1))
  refine norm_eq (n1.trans (set_v6 _ _ _).symm) ?_
  rw [hV, v0, v1]
  omega
end

/-- The order of prefixes. -/
theorem cmpI_bd (x y : Int) : -1 ≤ cmpI x y ∧ cmpI x y ≤ 1 := by
  unfold cmpI
  split
  · omega
  · split <;> omega
theorem pcmp_bd (p q : Pf) : -1 ≤ pcmp p q ∧ pcmp p q ≤ 1 := by
  unfold pcmp
  split
  · exact cmpI_bd _ _
  · exact cmp_bd _ _
theorem pcmp_anti (p q : Pf) : pcmp q p = - pcmp p q := by
  unfold pcmp
  rw [cmp_anti p.a q.a]
  by_cases h : cmpv p.a q.a = 0
  · rw [if_pos (by omega), if_pos h]
    unfold cmpI
    split <;> split <;> omega
  · rw [if_neg (by omega), if_neg h]
theorem cmp_zero_iff (a b : Ad) : cmpv a b = 0 ↔ a.v6 = b.v6 ∧ V a = V b := by
  constructor
  · intro h
    have h1 := (cmp_le a b).1 (by omega)
    have h2 := (cmp_le b a).1 (by rw [cmp_anti a b]; omega)
    rcases h1 with ⟨e1, e2⟩ | ⟨e1, e2⟩ <;> rcases h2 with ⟨e3, e4⟩ | ⟨e3, e4⟩
    · exact ⟨e1, Nat.le_antisymm e2 e4⟩
    · rw [e3, e4] at e1; cases e1
    · rw [e1, e2] at e3; cases e3
    · rw [e1] at e4; cases e4
  · rintro ⟨h1, h2⟩
    rw [cmp_V a b h1, h2]; simp
theorem pcmp_le (p q : Pf) : pcmp p q ≤ 0 ↔ cmpv p.a q.a < 0 ∨ (cmpv p.a q.a = 0 ∧ p.n ≤ q.n) := by
  unfold pcmp
  by_cases h : cmpv p.a q.a = 0
  · rw [if_pos h]
    unfold cmpI
    split
    · omega
    · split <;> omega
  · rw [if_neg h]; omega
theorem cmp_lt_le {a b c : Ad} (h1 : cmpv a b < 0) (h2 : cmpv b c ≤ 0) : cmpv a c < 0 := by
  have h3 := cmp_trans a b c (by omega) h2
  rcases (show cmpv a c < 0 ∨ cmpv a c = 0 by omega) with h | h
  · exact h
  · exfalso
    have hz : cmpv c a = 0 := by rw [cmp_anti a c]; omega
    have := cmp_trans b c a h2 (by omega)
    rw [cmp_anti a b] at this
    omega
theorem cmp_le_lt {a b c : Ad} (h1 : cmpv a b ≤ 0) (h2 : cmpv b c < 0) : cmpv a c < 0 := by
  have h3 := cmp_trans a b c h1 (by omega)
  rcases (show cmpv a c < 0 ∨ cmpv a c = 0 by omega) with h | h
  · exact h
  · exfalso
    have hz : cmpv c a = 0 := by rw [cmp_anti a c]; omega
    have := cmp_trans c a b (by omega) h1
    rw [cmp_anti b c] at this
    omega
theorem pcmp_trans (p q r : Pf) (h1 : pcmp p q ≤ 0) (h2 : pcmp q r ≤ 0) : pcmp p r ≤ 0 := by
  rw [pcmp_le] at *
  rcases h1 with h1 | ⟨h1, g1⟩ <;> rcases h2 with h2 | ⟨h2, g2⟩
  · exact .inl (cmp_lt_le h1 (by omega))
  · exact .inl (cmp_lt_le h1 (by omega))
  · exact .inl (cmp_le_lt (by omega) h2)
  · refine .inr ⟨?_, by omega⟩
    rw [cmp_zero_iff] at *
    exact ⟨h1.1.trans h2.1, h1.2.trans h2.2⟩
theorem cov_cmp {p q : Pf} (h : pcov p q = true) : pcmp p q ≤ 0 := by
  obtain ⟨a1, a2, a3, a4, a5⟩ := (pcov_iff p q).1 h
  obtain ⟨s1, s2, s3, s4⟩ := (psane_iff p).1 a1
  have hle : V p.a ≤ V q.a := by
    refine le_of_bits fun j hj => ?_
    have hj' : D p.a j = true := hj
    show D q.a j = true
    by_cases c : 128 ≤ (j : Int) + p.n
    · rw [a5 j c]; exact hj'
    · rw [s4 j (by omega)] at hj'; cases hj'
  have hc : cmpv p.a q.a ≤ 0 := (cmp_le _ _).2 (.inl ⟨a4, hle⟩)
  rw [pcmp_le]
  rcases (show cmpv p.a q.a < 0 ∨ cmpv p.a q.a = 0 by omega) with h1 | h1
  · exact .inl h1
  · exact .inr ⟨h1, a3⟩
theorem sane_same {p q : Pf} (hp : psane p = true) (hq : psane q = true) (h : cmpv p.a q.a = 0) : p.a = q.a := by
  obtain ⟨s1, _⟩ := (psane_iff p).1 hp
  obtain ⟨t1, _⟩ := (psane_iff q).1 hq
  obtain ⟨e1, e2⟩ := (cmp_zero_iff _ _).1 h
  rw [← s1, ← t1]
  exact norm_eq e1 e2
theorem apa_cmp {p q : Pf} (h : papa p q = true) : pcmp p q = cmpv p.a q.a := by
  have hp : psane p = true ∧ psane q = true ∧ pcov p q = false ∧ pcov q p = false := by
    unfold papa at h
    simp at h
    exact ⟨h.1.1.1, h.1.1.2, h.1.2, h.2⟩
  obtain ⟨h1, h2, h3, h4⟩ := hp
  unfold pcmp
  rw [if_neg fun hz => ?_]
  have e := sane_same h1 h2 hz
  rcases (show p.n ≤ q.n ∨ q.n ≤ p.n by omega) with hn | hn
  · have : pcov p q = true := (pcov_iff _ _).2 ⟨h1, h2, hn, by rw [e], fun j _ => by rw [e]⟩
    rw [h3] at this; cases this
  · have : pcov q p = true := (pcov_iff _ _).2 ⟨h2, h1, hn, by rw [e], fun j _ => by rw [e]⟩
    rw [h4] at this; cases this
theorem cov_apa {p q : Pf} (h : pcov p q = true) : papa p q = false := by
  unfold papa
  rw [h]; simp
theorem pcmp_zero {p q : Pf} (hp : psane p = true) (hq : psane q = true) : (pcmp p q == 0) = pfEq p q := by
  rw [Bool.eq_iff_iff, beq_iff_eq, pfEq_iff]
  constructor
  · intro h
    have h1 := (pcmp_le p q).1 (by omega)
    have h2 := (pcmp_le q p).1 (by rw [pcmp_anti p q]; omega)
    rw [cmp_anti p.a q.a] at h2
    have hz : cmpv p.a q.a = 0 := by omega
    have e := sane_same hp hq hz
    have hn : p.n = q.n := by omega
    obtain ⟨a, n⟩ := p
    obtain ⟨b, m⟩ := q
    simp only at e hn
    rw [e, hn]
  · rintro rfl
    have := pcmp_anti p p
    omega

/-- The chain of parents of an address's first digits. -/
theorem chain_parent (a : Ad) (m : Int) (h0 : 0 < m) (h1 : m ≤ wid a.v6) : pparent (pof a m) = (pof a (m - 1), true) := by
  have hc : clamp a.v6 m = m := clamp_id _ _ (by omega) h1
  have hc1 : clamp a.v6 (m - 1) = m - 1 := clamp_id _ _ (by omega) (by omega)
  have hs := psane_pof a m
  unfold pparent
  rw [if_pos hs]
  have en : (pof a m).n = m := hc
  rw [if_neg (by rw [en]; omega), en]
  have : pof (pof a m).a (m - 1) = pof a (m - 1) := by
    have e1 : (pof a m).a = maskv a m := by rw [pof_of a m m hc]
    rw [e1, pof_of a _ _ hc1, pof_of (maskv a m) _ _ hc1]
    have : maskv (maskv a m) (m - 1) = maskv a (m - 1) := by
      refine mask_eq _ _ _ _ rfl fun j => ?_
      rw [D_mask, D_mask, D_mask, mask_v6, hc, hc1]
      by_cases c : 128 ≤ (j : Int) + (m - 1)
      · have c2 : 128 ≤ (j : Int) + m := by omega
        simp [c, c2]
      · simp [c]
    rw [this]
  rw [this]
theorem chain_stop (a : Ad) : pparent (pof a 0) = (nilP, false) := by
  have hw := wid_bd a.v6
  have hc : clamp a.v6 0 = 0 := clamp_id _ _ (by omega) (by omega)
  unfold pparent
  rw [if_pos (psane_pof a 0), if_pos (show (pof a 0).n = 0 from hc)]
theorem chain_ins (a : Ad) (m : Int) (h0 : 0 < m) (h1 : m ≤ wid a.v6) : pins (pof a (m - 1)) (pof a m) = true := by
  have hc : clamp a.v6 m = m := clamp_id _ _ (by omega) h1
  have hc1 : clamp a.v6 (m - 1) = m - 1 := clamp_id _ _ (by omega) (by omega)
  have s1 := psane_pof a m
  have s2 := psane_pof a (m - 1)
  rw [pof_of a _ _ hc] at s1 ⊢
  rw [pof_of a _ _ hc1] at s2 ⊢
  unfold pins
  have : pcov ⟨maskv a (m - 1), m - 1⟩ ⟨maskv a m, m⟩ = true := by
    refine (pcov_iff _ _).2 ⟨s2, s1, by show m - 1 ≤ m; omega, rfl, fun j hj => ?_⟩
    have hj' : 128 ≤ (j : Int) + (m - 1) := hj
    show D (maskv a m) j = D (maskv a (m - 1)) j
    rw [D_mask, D_mask, hc, hc1]
    have c2 : 128 ≤ (j : Int) + m := by omega
    simp [hj', c2]
  rw [this, Bool.true_and]
  show decide (m - 1 < m) = true
  exact decide_eq_true (by omega)
theorem pof_n (a : Ad) (m : Int) (h0 : 0 ≤ m) (h1 : m ≤ wid a.v6) : (pof a m).n = m := clamp_id _ _ h0 h1

end Go.Proofs.YtcbfppangiopeaaGreat
