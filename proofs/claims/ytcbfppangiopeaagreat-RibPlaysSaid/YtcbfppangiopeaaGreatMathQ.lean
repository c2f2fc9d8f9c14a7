/-
  Plain facts on prefixes: covering, joining, kin, ends, order. No condition.
-/
import Derived.Test.YtcbfppangiopeaaGreatMathP
namespace Go.Proofs.YtcbfppangiopeaaGreat
open Go.RowKit

theorem bool_not {b : Bool} (h : ¬ b = true) : b = false := by cases b <;> simp_all

theorem bit_half' (m t : Nat) : m.testBit t = decide (2 ^ t ≤ m % 2 ^ (t + 1)) := by
  have ht : 2 ^ (t + 1) = 2 * 2 ^ t := by rw [Nat.pow_succ]; omega
  have h1 : m.testBit t = (m % 2 ^ (t + 1)).testBit t := by rw [Nat.testBit_mod_two_pow]; simp
  rw [h1]
  have h2 : m % 2 ^ (t + 1) < 2 * 2 ^ t := by rw [← ht]; exact Nat.mod_lt _ (Nat.two_pow_pos _)
  generalize m % 2 ^ (t + 1) = r at *
  rw [Nat.testBit_eq_decide_div_mod_eq]
  by_cases h3 : 2 ^ t ≤ r
  · have : r / 2 ^ t = 1 := by apply Nat.div_eq_of_lt_le <;> omega
    rw [this, decide_eq_true h3]; rfl
  · have : r / 2 ^ t = 0 := Nat.div_eq_of_lt (by omega)
    rw [this, decide_eq_false h3]; rfl
theorem lt_of_bit' {x y t : Nat} (hx : x.testBit t = false) (hy : y.testBit t = true) (h : ∀ j, t < j → x.testBit j = y.testBit j) : x < y := by
  have hq : x / 2 ^ (t + 1) = y / 2 ^ (t + 1) := by
    apply Nat.eq_of_testBit_eq
    intro j
    rw [Nat.testBit_div_two_pow, Nat.testBit_div_two_pow]
    exact h _ (by omega)
  have m1 := Nat.div_add_mod x (2 ^ (t + 1))
  have m2 := Nat.div_add_mod y (2 ^ (t + 1))
  rw [← hq] at m2
  rw [bit_half'] at hx hy
  have c1 := of_decide_eq_false hx
  have c2 := of_decide_eq_true hy
  omega
theorem cov_refl (p : Pf) (h : psane p = true) : pcov p p = true := (pcov_iff p p).2 ⟨h, h, Int.le_refl _, rfl, fun _ _ => rfl⟩
theorem cov_anti {p q : Pf} (h1 : pcov p q = true) (h2 : pcov q p = true) : p = q := by
  obtain ⟨a1, a2, a3, a4, a5⟩ := (pcov_iff p q).1 h1
  obtain ⟨_, _, b3, _, _⟩ := (pcov_iff q p).1 h2
  exact sane_ext a1 a2 (by omega) a4 fun j hj => (a5 j hj).symm
theorem cov_trans {p q r : Pf} (h1 : pcov p q = true) (h2 : pcov q r = true) : pcov p r = true := by
  obtain ⟨a1, a2, a3, a4, a5⟩ := (pcov_iff p q).1 h1
  obtain ⟨b1, b2, b3, b4, b5⟩ := (pcov_iff q r).1 h2
  refine (pcov_iff p r).2 ⟨a1, b2, by omega, a4.trans b4, fun j hj => ?_⟩
  rw [b5 j (by omega), a5 j hj]
theorem ins_self (p : Pf) : pins p p = false := by
  unfold pins
  simp
theorem ins_eq {p q : Pf} (h : pcov p q = true) : pins p q = !pfEq p q := by
  unfold pins
  rw [h, Bool.true_and]
  obtain ⟨a1, a2, a3, a4, a5⟩ := (pcov_iff p q).1 h
  by_cases e : p = q
  · rw [(pfEq_iff p q).2 e]
    subst e
    simp
  · rw [bool_not (fun h => e ((pfEq_iff p q).1 h))]
    have hne : p.n ≠ q.n := fun hn => e (sane_ext a1 a2 hn a4 fun j hj => (a5 j hj).symm)
    simp; omega
theorem apa_eq {p q : Pf} (hp : psane p = true) (hq : psane q = true) : papa p q = (!pcov p q && !pcov q p) := by
  unfold papa
  rw [hp, hq]; rfl

theorem join_ok {p q : Pf} (hp : psane p = true) (hq : psane q = true) (hv : p.a.v6 = q.a.v6) : pjoin p q = (pof p.a (min (min p.n q.n) (commonv p.a q.a)), true) := by
  unfold pjoin
  rw [if_pos ⟨hp, hq, hv⟩]
theorem join_no {p q : Pf} (hv : p.a.v6 ≠ q.a.v6) : pjoin p q = (nilP, false) := by
  unfold pjoin
  rw [if_neg (fun h => hv h.2.2)]
theorem child_ok {p : Pf} (v : Int) (h : (pchild p v).2 = true) : psane p = true ∧ p.n < wid p.a.v6 ∧ (pchild p v).1 = ⟨setv p.a p.n v, p.n + 1⟩ := by
  unfold pchild at h ⊢
  by_cases hp : psane p = true
  · obtain ⟨b0, b1⟩ := psane_bd hp
    rw [if_pos hp] at h ⊢
    by_cases hn : p.n = wid p.a.v6
    · rw [if_pos hn] at h; cases h
    · rw [if_neg hn] at h ⊢
      exact ⟨hp, by omega, rfl⟩
  · rw [if_neg hp] at h; cases h
theorem child_two (p : Pf) : (pchild p 0).2 = (pchild p 1).2 := by
  unfold pchild
  split
  · split <;> rfl
  · rfl
/-- The digits of a child. -/
theorem child_D (p : Pf) (v : Int) (hp : psane p = true) (h : p.n < wid p.a.v6) (j : Nat) : D (setv p.a p.n v) j = if (j : Int) = 127 - p.n then odd v else D p.a j := by
  obtain ⟨b0, b1⟩ := psane_bd hp
  have hw := wd_lb p.a.v6
  rw [wid_wd] at h
  obtain ⟨k, hk⟩ := Int.eq_ofNat_of_zero_le b0
  rw [hk, show ((k : Nat) : Int) = Int.ofNat k from rfl]
  show D (setv p.a (k : Int) v) j = _
  rw [D_set _ _ _ (show k < wd p.a.v6 by omega)]
  by_cases e : j = 127 - k
  · rw [if_pos e, if_pos (by show (j : Int) = 127 - (k : Int); omega)]
  · rw [if_neg e, if_neg (by show ¬ (j : Int) = 127 - (k : Int); omega)]
theorem child_sane (p : Pf) (v : Int) (hp : psane p = true) (h : p.n < wid p.a.v6) : psane ⟨setv p.a p.n v, p.n + 1⟩ = true := by
  obtain ⟨s1, s2, s3, s4⟩ := (psane_iff p).1 hp
  rw [psane_iff]
  refine ⟨set_norm _ _ _, by show 0 ≤ p.n + 1; omega, ?_, fun j hj => ?_⟩
  · show p.n + 1 ≤ wid (setv p.a p.n v).v6
    rw [set_v6]; omega
  · have hj' : (j : Int) + (p.n + 1) < 128 := hj
    show D (setv p.a p.n v) j = false
    rw [child_D p v hp h, if_neg (by omega), s4 j (by omega)]
theorem child_eq (p : Pf) (v : Int) (hp : psane p = true) (h : p.n < wid p.a.v6) : pchild p v = (⟨setv p.a p.n v, p.n + 1⟩, true) := by
  unfold pchild
  rw [if_pos hp, if_neg (by omega)]

theorem join_cov {p q : Pf} (hp : psane p = true) (hq : psane q = true) (hv : p.a.v6 = q.a.v6) : pcov (pjoin p q).1 p = true ∧ pcov (pjoin p q).1 q = true := by
  rw [join_ok hp hq hv]
  show pcov (pof p.a _) p = true ∧ pcov (pof p.a _) q = true
  obtain ⟨b0, b1⟩ := psane_bd hp
  obtain ⟨c0, c1⟩ := psane_bd hq
  obtain ⟨k, hk, hle, _⟩ := common_spec p.a q.a hv
  constructor
  · obtain ⟨k', hk', hle', hall', hne'⟩ := common_spec p.a p.a rfl
    have : k' = wd p.a.v6 := by
      rcases Nat.lt_or_ge k' (wd p.a.v6) with h | h
      · exact absurd rfl (hne' h)
      · omega
    rw [pcov_of p p hp hp rfl _ (by omega) (by omega), hk', this]
    rw [wid_wd] at b1
    omega
  · rw [pcov_of p q hp hq hv _ (by omega) (by omega)]
    omega
theorem join_least {p q : Pf} (hp : psane p = true) (hq : psane q = true) (hv : p.a.v6 = q.a.v6) (v : Int) (hc : (pchild (pjoin p q).1 v).2 = true) :
    ¬ (pcov (pchild (pjoin p q).1 v).1 p = true ∧ pcov (pchild (pjoin p q).1 v).1 q = true) := by
  rintro ⟨h1, h2⟩
  obtain ⟨sj, lj, ej⟩ := child_ok v hc
  rw [ej] at h1 h2
  obtain ⟨x1, x2, x3, x4, x5⟩ := (pcov_iff _ _).1 h1
  obtain ⟨y1, y2, y3, y4, y5⟩ := (pcov_iff _ _).1 h2
  have en : (pjoin p q).1.n = min (min p.n q.n) (commonv p.a q.a) := by
    obtain ⟨b0, b1⟩ := psane_bd hp
    obtain ⟨c0, c1⟩ := psane_bd hq
    obtain ⟨k, hk, hle, _⟩ := common_spec p.a q.a hv
    rw [join_ok hp hq hv]
    show clamp p.a.v6 _ = _
    exact clamp_id _ _ (by omega) (by omega)
  obtain ⟨k, hk, hle, hall, hne⟩ := common_spec p.a q.a hv
  obtain ⟨b0, b1⟩ := psane_bd hp
  have x3' : (pjoin p q).1.n + 1 ≤ p.n := x3
  have y3' : (pjoin p q).1.n + 1 ≤ q.n := y3
  have hkn : (pjoin p q).1.n = (k : Int) := by omega
  have hw := wd_lb p.a.v6
  rw [wid_wd] at b1
  have klt : k < wd p.a.v6 := by omega
  have z1 := x5 (127 - k) (by show 128 ≤ ((127 - k : Nat) : Int) + ((pjoin p q).1.n + 1); omega)
  have z2 := y5 (127 - k) (by show 128 ≤ ((127 - k : Nat) : Int) + ((pjoin p q).1.n + 1); omega)
  exact hne klt (z1.trans z2.symm)

/-- Of a prefix with room: its two children. -/
theorem kin_parent (p : Pf) (v : Int) (hp : psane p = true) (h : p.n < wid p.a.v6) : pparent (pchild p v).1 = (p, true) := by
  obtain ⟨b0, b1⟩ := psane_bd hp
  have hs := child_sane p v hp h
  rw [child_eq p v hp h]
  show pparent ⟨setv p.a p.n v, p.n + 1⟩ = _
  unfold pparent
  rw [if_pos hs, if_neg (by show ¬ p.n + 1 = 0; omega)]
  have e : pof (setv p.a p.n v) (p.n + 1 - 1) = p := by
    have hn : p.n + 1 - 1 = p.n := by omega
    have hc : clamp (setv p.a p.n v).v6 p.n = p.n := by rw [set_v6]; exact clamp_id _ _ b0 (by omega)
    rw [hn, pof_of _ _ _ hc]
    refine sane_ext ?_ hp rfl (by show (maskv (setv p.a p.n v) p.n).v6 = _; rw [mask_v6, set_v6]) fun j hj => ?_
    · have := psane_pof (setv p.a p.n v) p.n
      rwa [pof_of _ _ _ hc] at this
    · have hj' : 128 ≤ (j : Int) + p.n := hj
      show D (maskv (setv p.a p.n v) p.n) j = _
      rw [D_mask, hc, child_D p v hp h, if_neg (by omega)]
      simp [hj']
  show (pof (setv p.a p.n v) (p.n + 1 - 1), true) = _
  rw [e]
theorem odd_01 : odd 0 = false ∧ odd 1 = true ∧ odd (1 - 0) = true ∧ odd (1 - 1) = false := by decide
theorem kin_bit (p : Pf) (v : Int) (hp : psane p = true) (h : p.n < wid p.a.v6) : bitv (setv p.a p.n v) p.n = if odd v = true then 1 else 0 := by
  obtain ⟨b0, b1⟩ := psane_bd hp
  have h' := h
  rw [wid_wd] at h'
  have hd := child_D p v hp h
  obtain ⟨k, hk⟩ := Int.eq_ofNat_of_zero_le b0
  have hk' : p.n = (k : Int) := hk
  rw [hk'] at h' hd ⊢
  have hw := wd_lb p.a.v6
  rw [bitv_D _ _ (by rw [set_v6]; omega), hd, if_pos (show ((127 - k : Nat) : Int) = 127 - (k : Int) by omega)]
theorem kin_sib (p : Pf) (v u : Int) (hp : psane p = true) (h : p.n < wid p.a.v6) (hu : odd u = odd (1 - (if odd v = true then 1 else 0))) : psib (pchild p v).1 = pchild p u := by
  obtain ⟨b0, b1⟩ := psane_bd hp
  have hs := child_sane p v hp h
  have e1 := psib_eq (pchild p v).1 (by rw [child_eq p v hp h]; exact hs) (by rw [child_eq p v hp h]; show ¬ p.n + 1 = 0; omega)
  rw [e1, child_eq p v hp h, child_eq p u hp h]
  show (Pf.mk (setv (setv p.a p.n v) (p.n + 1 - 1) (1 - bitv (setv p.a p.n v) (p.n + 1 - 1))) (p.n + 1), true) = _
  have hn : p.n + 1 - 1 = p.n := by omega
  rw [hn, kin_bit p v hp h]
  have : setv (setv p.a p.n v) p.n (1 - if odd v = true then 1 else 0) = setv p.a p.n u := by
    have hdv := child_D p v hp h
    have hdu := child_D p u hp h
    refine (set_norm (setv p.a p.n v) p.n _).symm.trans (Eq.trans ?_ (set_norm p.a p.n u))
    refine norm_ext (by rw [set_v6, set_v6, set_v6]) fun j => ?_
    rw [hdu]
    have h' := h
    rw [wid_wd] at h'
    have hw := wd_lb p.a.v6
    obtain ⟨k, hk⟩ := Int.eq_ofNat_of_zero_le b0
    have hk' : p.n = (k : Int) := hk
    rw [hk'] at h' hdv ⊢
    rw [D_set _ _ _ (by rw [set_v6]; omega), hdv]
    by_cases e : j = 127 - k
    · rw [if_pos e, if_pos (show (j : Int) = 127 - (k : Int) by omega), hu]
    · rw [if_neg e, if_neg (show ¬ (j : Int) = 127 - (k : Int) by omega), if_neg (show ¬ (j : Int) = 127 - (k : Int) by omega)]
  rw [this]

/-- A prefix's ends. -/
theorem first_eq (p : Pf) (hp : psane p = true) : maskv p.a p.n = p.a := by
  have e := (pfEq_iff _ _).1 hp
  have e1 : maskv p.a (clamp p.a.v6 p.n) = p.a := congrArg Pf.a e
  have e2 : clamp p.a.v6 p.n = p.n := congrArg Pf.n e
  rwa [e2] at e1
theorem last_D (p : Pf) (hp : psane p = true) (j : Nat) : D (fillv p.a p.n) j = (D p.a j || (decide ((j : Int) + p.n < 128) && decide (lb p.a.v6 ≤ j))) := by
  obtain ⟨b0, b1⟩ := psane_bd hp
  rw [D_fill, clamp_id _ _ b0 b1]
theorem con_last (p : Pf) (hp : psane p = true) : pcon p (fillv p.a p.n) = true := by
  refine (pcon_iff _ _).2 ⟨hp, rfl, fun j hj => ?_⟩
  rw [last_D p hp]
  have : ¬ (j : Int) + p.n < 128 := by omega
  simp [this]
theorem con_first (p : Pf) (hp : psane p = true) : pcon p p.a = true := (pcon_iff _ _).2 ⟨hp, rfl, fun _ _ => rfl⟩
theorem con_pof (a : Ad) (n : Int) : pcon (pof a n) a = true := by
  refine (pcon_iff _ _).2 ⟨psane_pof a n, rfl, fun j hj => ?_⟩
  have hj' : 128 ≤ (j : Int) + clamp a.v6 n := hj
  show D a j = D (maskv a (clamp a.v6 n)) j
  rw [D_mask, clamp_clamp]
  simp [hj']
theorem con_iff_pof (p : Pf) (a : Ad) : pcon p a = true ↔ pof a p.n = p := by unfold pcon; exact pfEq_iff _ _
/-- What lies between the ends is contained. -/
theorem con_between (p : Pf) (a : Ad) (hp : psane p = true) (hv : a.v6 = p.a.v6) : pcon p a = true ↔ V p.a ≤ V a ∧ V a ≤ V (fillv p.a p.n) := by
  obtain ⟨s1, s2, s3, s4⟩ := (psane_iff p).1 hp
  have hw := wd_lb p.a.v6
  rw [wid_wd] at s3
  constructor
  · intro h
    obtain ⟨_, _, hd⟩ := (pcon_iff _ _).1 h
    constructor
    · refine le_of_bits fun j hj => ?_
      have hj' : D p.a j = true := hj
      show D a j = true
      by_cases h1 : 128 ≤ (j : Int) + p.n
      · rw [hd j h1]; exact hj'
      · rw [s4 j (by omega)] at hj'; cases hj'
    · refine le_of_bits fun j hj => ?_
      have hj' : D a j = true := hj
      show D (fillv p.a p.n) j = true
      rw [last_D p hp]
      by_cases h1 : 128 ≤ (j : Int) + p.n
      · rw [← hd j h1, hj']; rfl
      · have h2 : (j : Int) + p.n < 128 := by omega
        by_cases h3 : lb p.a.v6 ≤ j
        · simp [h2, h3]
        · rw [D_low a j (by rw [hv]; omega)] at hj'; cases hj'
  · rintro ⟨h1, h2⟩
    obtain ⟨k, hk⟩ := Int.eq_ofNat_of_zero_le s2
    have hk' : p.n = (k : Int) := hk
    have q1 : V p.a / 2 ^ (128 - k) = V (fillv p.a p.n) / 2 ^ (128 - k) := by
      apply Nat.eq_of_testBit_eq
      intro j
      rw [Nat.testBit_div_two_pow, Nat.testBit_div_two_pow]
      show D p.a _ = D (fillv p.a p.n) _
      rw [last_D p hp]
      have : ¬ ((j + (128 - k) : Nat) : Int) + p.n < 128 := by omega
      rw [decide_eq_false this, Bool.false_and, Bool.or_false]
    have q2 : V a / 2 ^ (128 - k) = V p.a / 2 ^ (128 - k) :=
      Nat.le_antisymm (by rw [q1]; exact Nat.div_le_div_right h2) (Nat.div_le_div_right h1)
    refine (pcon_iff _ _).2 ⟨hp, hv, fun j hj => ?_⟩
    have : (V a / 2 ^ (128 - k)).testBit (j - (128 - k)) = (V p.a / 2 ^ (128 - k)).testBit (j - (128 - k)) := by rw [q2]
    rw [Nat.testBit_div_two_pow, Nat.testBit_div_two_pow, show j - (128 - k) + (128 - k) = j from by omega] at this
    exact this

end Go.Proofs.YtcbfppangiopeaaGreat
