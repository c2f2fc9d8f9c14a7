/-
  Plain facts on prefixes, by their digits. No condition.
-/
import Derived.Test.YtfebhfghjdedhaaDoorPh
namespace Go.Proofs.YtfebhfghjdedhaaDoor
open Go.RowKit

theorem clamp_id (v : Bool) (n : Int) (h0 : 0 ≤ n) (h1 : n ≤ wid v) : clamp v n = n := by unfold clamp; omega
theorem clamp_clamp (v : Bool) (n : Int) : clamp v (clamp v n) = clamp v n := by
  have := wid_bd v
  unfold clamp
  omega
theorem clamp_wid (v : Bool) (n : Int) : 0 ≤ clamp v n ∧ clamp v n ≤ wid v := by
  have := wid_bd v
  unfold clamp
  omega

/-- What Sane says of a prefix, by digits. -/
theorem psane_iff (p : Pf) : psane p = true ↔ norm p.a = p.a ∧ 0 ≤ p.n ∧ p.n ≤ wid p.a.v6 ∧ ∀ j : Nat, (j : Int) + p.n < 128 → D p.a j = false := by
  unfold psane
  rw [pfEq_iff]
  constructor
  · intro e
    have e1 : maskv p.a (clamp p.a.v6 p.n) = p.a := congrArg Pf.a e
    have e2 : clamp p.a.v6 p.n = p.n := congrArg Pf.n e
    have hb := clamp_wid p.a.v6 p.n
    rw [e2] at e1 hb
    refine ⟨?_, hb.1, hb.2, fun j hj => ?_⟩
    · rw [← e1]; exact mask_norm _ _
    · rw [← e1, D_mask, e2]
      have : ¬ 128 ≤ (j : Int) + p.n := by omega
      simp [this]
  · rintro ⟨h1, h2, h3, h4⟩
    have e2 := clamp_id _ _ h2 h3
    obtain ⟨a, n⟩ := p
    rw [pof_of a n n e2]
    have h1' : norm a = a := h1
    have : maskv a n = a := by
      refine (mask_norm a n).symm.trans (Eq.trans ?_ h1')
      refine norm_ext rfl fun j => ?_
      rw [D_mask, show clamp a.v6 n = n from e2]
      by_cases hj : 128 ≤ (j : Int) + n
      · simp [hj]
      · rw [h4 j (by show (j : Int) + n < 128; omega)]; rfl
    rw [this]
theorem psane_pof (a : Ad) (n : Int) : psane (pof a n) = true := by
  have hb := clamp_wid a.v6 n
  rw [psane_iff]
  refine ⟨mask_norm _ _, hb.1, hb.2, fun j hj => ?_⟩
  show D (maskv a (clamp a.v6 n)) j = false
  rw [D_mask, clamp_clamp]
  have : ¬ 128 ≤ (j : Int) + clamp a.v6 n := by
    have : (j : Int) + clamp a.v6 n < 128 := hj
    omega
  simp [this]
/-- What Contains says, by digits. -/
theorem pcon_iff (p : Pf) (a : Ad) : pcon p a = true ↔ psane p = true ∧ a.v6 = p.a.v6 ∧ ∀ j : Nat, 128 ≤ (j : Int) + p.n → D a j = D p.a j := by
  unfold pcon
  rw [pfEq_iff]
  constructor
  · intro e
    have e0 : psane p = true := by rw [← e]; exact psane_pof _ _
    have e1 : maskv a (clamp a.v6 p.n) = p.a := congrArg Pf.a e
    have e2 : clamp a.v6 p.n = p.n := congrArg Pf.n e
    refine ⟨e0, by rw [← e1]; rfl, fun j hj => ?_⟩
    rw [← e1, D_mask, clamp_clamp, e2]
    simp [hj]
  · rintro ⟨h0, h1, h2⟩
    obtain ⟨s1, s2, s3, s4⟩ := (psane_iff p).1 h0
    have e2 : clamp a.v6 p.n = p.n := clamp_id _ _ s2 (by rw [h1]; exact s3)
    rw [pof_of a p.n p.n e2]
    have : maskv a p.n = p.a := by
      rw [← mask_norm, ← s1]
      refine norm_ext h1 fun j => ?_
      rw [D_mask, e2]
      by_cases hj : 128 ≤ (j : Int) + p.n
      · rw [h2 j hj]; simp [hj]
      · rw [s4 j (by omega)]; simp [hj]
    rw [this]
theorem pcov_iff (p q : Pf) : pcov p q = true ↔ psane p = true ∧ psane q = true ∧ p.n ≤ q.n ∧ p.a.v6 = q.a.v6 ∧ ∀ j : Nat, 128 ≤ (j : Int) + p.n → D q.a j = D p.a j := by
  unfold pcov
  rw [Bool.and_eq_true, Bool.and_eq_true, decide_eq_true_iff, pcon_iff]
  constructor
  · rintro ⟨⟨h1, h2⟩, h3, h4, h5⟩
    exact ⟨h3, h1, h2, h4.symm, h5⟩
  · rintro ⟨h1, h2, h3, h4, h5⟩
    exact ⟨⟨h2, h3⟩, h1, h4.symm, h5⟩
theorem sane_ext {p q : Pf} (hp : psane p = true) (hq : psane q = true) (hn : p.n = q.n) (hv : p.a.v6 = q.a.v6) (h : ∀ j : Nat, 128 ≤ (j : Int) + p.n → D p.a j = D q.a j) : p = q := by
  obtain ⟨s1, s2, s3, s4⟩ := (psane_iff p).1 hp
  obtain ⟨t1, t2, t3, t4⟩ := (psane_iff q).1 hq
  have : p.a = q.a := by
    rw [← s1, ← t1]
    refine norm_ext hv fun j => ?_
    by_cases hj : 128 ≤ (j : Int) + p.n
    · exact h j hj
    · rw [s4 j (by omega), t4 j (by omega)]
  obtain ⟨a, n⟩ := p
  obtain ⟨b, m⟩ := q
  simp only at this hn
  rw [this, hn]

/-- By single digits, as the document's answer asks them. -/
theorem psane_bits (p : Pf) (h1 : saneB p.a = true) (h2 : 0 ≤ p.n) (h3 : p.n ≤ wid p.a.v6) (h : ∀ i : Nat, p.n ≤ (i : Int) → i < wd p.a.v6 → bitv p.a i = 0) : psane p = true := by
  have hw := wd_lb p.a.v6
  rw [wid_wd] at h3
  rw [psane_iff]
  refine ⟨(sane_iff _).1 h1, h2, by rw [wid_wd]; exact h3, fun j hj => ?_⟩
  by_cases hl : lb p.a.v6 ≤ j
  · have h4 := h (127 - j) (by omega) (by omega)
    rw [bitv_D _ _ (by omega), show 127 - (127 - j) = j from by omega] at h4
    cases hd : D p.a j
    · rfl
    · rw [hd] at h4; simp at h4
  · exact D_low _ _ (by omega)
theorem psane_not (p : Pf) (h : ¬ (saneB p.a = true ∧ 0 ≤ p.n ∧ p.n ≤ wid p.a.v6)) : psane p = false := by
  cases hp : psane p
  · rfl
  · obtain ⟨s1, s2, s3, _⟩ := (psane_iff p).1 hp
    exact absurd ⟨(sane_iff _).2 s1, s2, s3⟩ h
theorem psane_bit (p : Pf) (hp : psane p = true) (i : Nat) (h1 : p.n ≤ (i : Int)) (h2 : i < wd p.a.v6) : bitv p.a i = 0 := by
  obtain ⟨s1, s2, s3, s4⟩ := (psane_iff p).1 hp
  have hw := wd_lb p.a.v6
  rw [bitv_D _ _ h2, s4 _ (by omega)]; rfl
theorem pcon_bits (p : Pf) (a : Ad) (hp : psane p = true) (hv : a.v6 = p.a.v6) (h : ∀ i : Nat, (i : Int) < p.n → bitv a i = bitv p.a i) : pcon p a = true := by
  obtain ⟨s1, s2, s3, s4⟩ := (psane_iff p).1 hp
  have hw := wd_lb p.a.v6
  rw [wid_wd] at s3
  rw [pcon_iff]
  refine ⟨hp, hv, fun j hj => ?_⟩
  by_cases h8 : j < 128
  · have h4 := h (127 - j) (by omega)
    rw [bitv_D _ _ (by rw [hv]; omega), bitv_D _ _ (by omega), show 127 - (127 - j) = j from by omega] at h4
    cases h1 : D a j <;> cases h2 : D p.a j <;> simp_all
  · rw [D_ge _ _ (by omega), D_ge _ _ (by omega)]
theorem pcon_bit (p : Pf) (a : Ad) (h : pcon p a = true) (i : Nat) (hi : (i : Int) < p.n) : bitv a i = bitv p.a i := by
  obtain ⟨hp, hv, hd⟩ := (pcon_iff p a).1 h
  obtain ⟨s1, s2, s3, s4⟩ := (psane_iff p).1 hp
  have hw := wd_lb p.a.v6
  rw [wid_wd] at s3
  rw [bitv_D _ _ (by rw [hv]; omega), bitv_D _ _ (by omega), hd _ (by omega)]

/-- A sibling by one digit. -/
theorem psib_eq (p : Pf) (hp : psane p = true) (h0 : p.n ≠ 0) : psib p = (⟨setv p.a (p.n - 1) (1 - bitv p.a (p.n - 1)), p.n⟩, true) := by
  obtain ⟨s1, s2, s3, s4⟩ := (psane_iff p).1 hp
  have hw := wd_lb p.a.v6
  have hpp : pparent p = (pof p.a (p.n - 1), true) := by unfold pparent; rw [hp, if_pos rfl, if_neg h0]
  have hc : clamp p.a.v6 (p.n - 1) = p.n - 1 := clamp_id _ _ (by omega) (by omega)
  have hs := psane_pof p.a (p.n - 1)
  unfold psib
  rw [hpp, if_pos rfl]
  have hof := pof_of p.a _ _ hc
  show pchild (pof p.a (p.n - 1)) (1 - bitv p.a (pof p.a (p.n - 1)).n) = _
  unfold pchild
  rw [if_pos hs, hof]
  show (if p.n - 1 = wid p.a.v6 then _ else _) = _
  rw [if_neg (by omega)]
  show (Pf.mk (setv (maskv p.a (p.n - 1)) (p.n - 1) (1 - bitv p.a (p.n - 1))) (p.n - 1 + 1), true) = _
  have e1 : p.n - 1 + 1 = p.n := by omega
  rw [e1]
  generalize 1 - bitv p.a (p.n - 1) = v
  have : setv (maskv p.a (p.n - 1)) (p.n - 1) v = setv p.a (p.n - 1) v := by
    rw [wid_wd] at s3
    obtain ⟨k, hk⟩ := Int.eq_ofNat_of_zero_le (show 0 ≤ p.n - 1 by omega)
    have hk' : p.n - 1 = (k : Int) := hk
    rw [hk'] at hc ⊢
    rw [← set_norm, ← set_norm p.a]
    refine norm_ext (by rw [set_v6, set_v6]; rfl) fun j => ?_
    rw [D_set _ _ _ (show k < wd (maskv p.a k).v6 by show k < wd p.a.v6; omega), D_set _ _ _ (show k < wd p.a.v6 by omega)]
    by_cases e : j = 127 - k
    · rw [if_pos e, if_pos e]
    · rw [if_neg e, if_neg e, D_mask, hc]
      by_cases hj : 128 ≤ (j : Int) + k
      · simp [hj]
      · rw [s4 j (by omega)]; rfl
  rw [this]

/-- Which of the first digits of p cover q. -/
theorem pcov_of (p q : Pf) (hp : psane p = true) (hq : psane q = true) (hv : p.a.v6 = q.a.v6) (m : Int) (h0 : 0 ≤ m) (h1 : m ≤ p.n) : pcov (pof p.a m) q = true ↔ m ≤ q.n ∧ m ≤ commonv p.a q.a := by
  obtain ⟨s1, s2, s3, s4⟩ := (psane_iff p).1 hp
  have hw := wd_lb p.a.v6
  have hc : clamp p.a.v6 m = m := clamp_id _ _ h0 (by omega)
  rw [pcov_iff, pof_of p.a m m hc]
  obtain ⟨k, hk, hle, hall, hne⟩ := common_spec p.a q.a hv
  rw [wid_wd] at s3
  show psane ⟨maskv p.a m, m⟩ = true ∧ psane q = true ∧ m ≤ q.n ∧ p.a.v6 = q.a.v6 ∧ (∀ j : Nat, 128 ≤ (j : Int) + m → D q.a j = D (maskv p.a m) j) ↔ _
  constructor
  · rintro ⟨_, _, h4, _, h5⟩
    refine ⟨h4, ?_⟩
    rw [hk]
    rcases Nat.lt_or_ge k (wd p.a.v6) with hlt | hge
    · rcases (show (k : Int) < m ∨ m ≤ (k : Int) by omega) with hlt2 | hge2
      · exfalso
        have := h5 (127 - k) (by omega)
        rw [D_mask, hc] at this
        have h6 : 128 ≤ ((127 - k : Nat) : Int) + m := by omega
        simp only [h6, decide_true, Bool.and_true] at this
        exact hne hlt this.symm
      · exact hge2
    · omega
  · rintro ⟨h4, h5⟩
    refine ⟨?_, hq, h4, hv, fun j hj => ?_⟩
    · have := psane_pof p.a m
      rwa [pof_of p.a m m hc] at this
    · rw [D_mask, hc, ← hall j (by omega)]
      simp [hj]

end Go.Proofs.YtfebhfghjdedhaaDoor
