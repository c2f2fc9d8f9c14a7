/-
  AddrNext returns true, whatever two addresses. No condition.
-/
import Derived.Test.YteeeiobkjakmpaaMathN
import Derived.Test.YteeeiobkjakmpaaLawD
namespace Go.Proofs.Yteeeiobkjakmpaa
open Go.RowKit

theorem cmp_neg (a b : Ad) : cmpv a b < 0 ↔ (a.v6 = b.v6 ∧ V a < V b) ∨ (a.v6 = false ∧ b.v6 = true) := by
  by_cases hv : a.v6 = b.v6
  · rw [cmp_V a b hv]
    by_cases h : V a < V b
    · simp [h, hv]
    · rw [if_neg h]
      constructor
      · intro h2
        exfalso
        revert h2
        split <;> omega
      · rintro (⟨_, h2⟩ | ⟨h2, h3⟩)
        · exact absurd h2 h
        · rw [hv, h3] at h2
          cases h2
  · rw [cmp_kind a b hv]
    cases h1 : a.v6 <;> cases h2 : b.v6 <;> simp_all

theorem next_none (a : Ad) (h : (nextv a).2 = false) : fillv a 0 = maskv a 128 := by
  obtain ⟨_, _, h3, _⟩ := next_spec a
  obtain ⟨e, _⟩ := h3 h
  rw [mask_end, ← fill_norm]
  refine norm_eq rfl ?_
  rw [fill_top, e]

theorem next_facts (a : Ad) (h : (nextv a).2 = true) : 0 ≤ commonv a (nextv a).1 ∧ commonv a (nextv a).1 < 128 ∧ bitv a (commonv a (nextv a).1) = 0 ∧ bitv (nextv a).1 (commonv a (nextv a).1) = 1 ∧
    fillv a (commonv a (nextv a).1 + 1) = maskv a 128 ∧ maskv (nextv a).1 (commonv a (nextv a).1 + 1) = (nextv a).1 := by
  obtain ⟨h1, h2, _, h4⟩ := next_spec a
  have hV := h4 h
  have hw := wd_lb a.v6
  have hd := lb_dvd a
  obtain ⟨k, hk, hle, hall, hne⟩ := common_spec a (nextv a).1 h1.symm
  have hklt : k < wd a.v6 := by
    rcases Nat.lt_or_ge k (wd a.v6) with hlt | hge
    · exact hlt
    · exfalso
      have e : V a = V (nextv a).1 := by
        apply Nat.eq_of_testBit_eq
        intro j
        by_cases hj : lb a.v6 ≤ j
        · exact hall j (by omega)
        · exact (D_low a j (by omega)).trans (D_low (nextv a).1 j (by rw [h1]; omega)).symm
      have : 0 < 2 ^ lb a.v6 := Nat.two_pow_pos _
      omega
  obtain ⟨b1, b2, b3⟩ := step_bits (V a) (lb a.v6) (127 - k) (by omega) hd (fun j hj => by
    have := hall j (by omega)
    unfold D at this
    rw [hV] at this
    exact this) (by
    have := hne hklt
    unfold D at this
    rw [hV] at this
    exact this)
  have c1 : D a (127 - k) = false := b1
  have c2 : D (nextv a).1 (127 - k) = true := by unfold D; rw [hV]; exact b2
  have c3 : ∀ j, j < 127 - k → D a j = decide (lb a.v6 ≤ j) ∧ D (nextv a).1 j = false := fun j hj => by
    refine ⟨(b3 j hj).1, ?_⟩
    unfold D
    rw [hV]
    exact (b3 j hj).2
  have hc : clamp a.v6 ((k : Int) + 1) = ((k + 1 : Nat) : Int) := by rw [← clamp_in a.v6 (k + 1) (by omega)]; rfl
  rw [hk]
  refine ⟨by omega, by omega, ?_, ?_, ?_, ?_⟩
  · rw [bitv_D a k hklt, c1]; rfl
  · rw [bitv_D _ k (by rw [h1]; exact hklt), c2]; rfl
  · rw [mask_end, ← fill_norm]
    refine norm_ext rfl fun j => ?_
    rw [D_fill, hc]
    by_cases hj : j < 127 - k
    · rw [(c3 j hj).1]
      cases decide (lb a.v6 ≤ j) <;> simp
    · have : ¬ (j : Int) + ((k + 1 : Nat) : Int) < 128 := by omega
      rw [decide_eq_false this]; simp
  · have e : norm (maskv (nextv a).1 ((k : Int) + 1)) = norm (nextv a).1 := by
      refine norm_ext rfl fun j => ?_
      rw [D_mask, h1, hc]
      by_cases hj : j < 127 - k
      · rw [(c3 j hj).2]; rfl
      · have : 128 ≤ (j : Int) + ((k + 1 : Nat) : Int) := by omega
        rw [decide_eq_true this, Bool.and_true]
    rw [mask_norm, h2] at e
    exact e

theorem next_gap (a b : Ad) (h : (nextv a).2 = true) (h1 : cmpv a b < 0) : ¬ cmpv b (nextv a).1 < 0 := by
  obtain ⟨hv, _, _, h4⟩ := next_spec a
  have hV := h4 h
  rw [cmp_neg] at h1 ⊢
  rw [hv]
  rintro (⟨e1, e2⟩ | ⟨e1, e2⟩)
  · rcases h1 with ⟨e3, e4⟩ | ⟨e3, e4⟩
    · have d1 := lb_dvd a
      have d2 := lb_dvd b
      rw [← e3] at d2
      rw [hV] at e2
      have hp : 0 < 2 ^ lb a.v6 := Nat.two_pow_pos _
      obtain ⟨x, hx⟩ := Nat.dvd_of_mod_eq_zero d1
      obtain ⟨y, hy⟩ := Nat.dvd_of_mod_eq_zero d2
      rw [hx, hy] at e4 e2
      have f1 : x < y := Nat.lt_of_mul_lt_mul_left e4
      rw [← Nat.mul_succ] at e2
      have f2 : y < x + 1 := Nat.lt_of_mul_lt_mul_left e2
      omega
    · rw [e4, e3] at e1
      cases e1
  · rcases h1 with ⟨e3, e4⟩ | ⟨e3, e4⟩
    · rw [e1] at e3
      rw [e3] at e2
      cases e2
    · rw [e3] at e2
      cases e2

set_option maxHeartbeats 1000000 in
theorem next_law_no (a b : Ad) (w : World) (hok : (nextv a).2 = false) :
    Calls Try.prog 9 #[.agg #[.int .u64 (u a.hi), .int .u64 (u a.lo), .bool a.v6], .agg #[.int .u64 (u b.hi), .int .u64 (u b.lo), .bool b.v6]] w fun e w' => e = .returned (.bool true) ∧ Below w.heap.size w w' := by
  have g1 : adB (u (fillv a 0).hi) (u (fillv a 0).lo) (fillv a 0).v6 (u (maskv a 128).hi) (u (maskv a 128).lo) (maskv a 128).v6 = true := (adEq_iff _ _).2 (next_none a hok)
  go_enter Try.func9, Try.ntmps9
  go_wp2_with fail
  refine (awake_any _).mono ?_
  rintro e w1 ⟨rfl, hw1⟩
  have zw1 := hw1.size
  have bw1 := below_of (w := w) (by go_grown) hw1
  try simp at zw1
  obtain ⟨pa, pb, pc, pd, pe, pf, pz⟩ := cells3 (b := w.heap.size) hw1 (by go_size) (by go_simp <;> rfl) (by go_simp <;> rfl) (by go_simp <;> rfl) (by go_simp <;> rfl) (by go_simp <;> rfl) (by go_simp <;> rfl)
  obtain ⟨qa, qb, qc, qd, qe, qf, qz⟩ := cells3 (b := w.heap.size + 1) hw1 (by go_size) (by go_simp <;> rfl) (by go_simp <;> rfl) (by go_simp <;> rfl) (by go_simp <;> rfl) (by go_simp <;> rfl) (by go_simp <;> rfl)
  clear hw1
  go_wp2_with fail
  refine (next_any a _).mono ?_
  rintro e w2 ⟨rfl, hw2⟩
  have bw2 := below_of (w := w) (by go_grown) hw2
  have zw2 := hw2.size
  obtain ⟨p'a, p'b, p'c, p'd, p'e, p'f, p'z⟩ := cells3 (b := w.heap.size) hw2 (by go_size) (by go_simp <;> rfl) (by go_simp <;> rfl) (by go_simp <;> rfl) (by go_simp <;> rfl) (by go_simp <;> rfl) (by go_simp <;> rfl)
  obtain ⟨q'a, q'b, q'c, q'd, q'e, q'f, q'z⟩ := cells3 (b := w.heap.size + 1) hw2 (by go_size) (by go_simp <;> rfl) (by go_simp <;> rfl) (by go_simp <;> rfl) (by go_simp <;> rfl) (by go_simp <;> rfl) (by go_simp <;> rfl)
  clear hw2 pa pb pc pd pe pf pz qa qb qc qd qe qf qz
  go_wp2_with fail
  generalize hW : World.alloc _ _ = W
  have hz : w.heap.size ≤ W.heap.size := by subst hW; go_size
  have hB : Below w.heap.size w W := by subst hW; go_grown
  obtain ⟨pa, pb, pc, pd, pe, pf, pz⟩ := cells3 (W := W) (b := w.heap.size) (Below.refl _ W) (by subst hW; go_size) (by subst hW; go_simp <;> rfl) (by subst hW; go_simp <;> rfl) (by subst hW; go_simp <;> rfl) (by subst hW; go_simp <;> rfl) (by subst hW; go_simp <;> rfl) (by subst hW; go_simp <;> rfl)
  clear hW
  have Lpa := fun x : Later W.heap.size W => (x.cell pz).trans pa
  have Lpb := fun x : Later W.heap.size W => (x.cell pz).trans pb
  have Lpc := fun x : Later W.heap.size W => (x.cell pz).trans pc
  refine region_later W.heap.size (by kernel_rfl) (by kernel_rfl) ?_
  repeat (go_big_quiet_step (first | (go_at_call 21; exact later_of (Nat.le_refl _) (fill_any _ _ _)) | (go_at_call 19; exact later_of (Nat.le_refl _) (mask_any _ _ _))))
  refine wpQuiet_nil ?_
  intro x
  have hx : Below w.heap.size w x.at := hB.trans (x.below.mono hz)
  go_wp2
  go_ret
  exact ⟨rfl, hx⟩

set_option maxHeartbeats 1000000 in
theorem next_law_yes (a b : Ad) (w : World) (hok : (nextv a).2 = true) :
    Calls Try.prog 9 #[.agg #[.int .u64 (u a.hi), .int .u64 (u a.lo), .bool a.v6], .agg #[.int .u64 (u b.hi), .int .u64 (u b.lo), .bool b.v6]] w fun e w' => e = .returned (.bool true) ∧ Below w.heap.size w w' := by
  obtain ⟨k0, k1, f1, f2, f3, f4⟩ := next_facts a hok
  have t1 : decide (commonv a (nextv a).1 < 128) = true := by simp [k1]
  have t2 : (bitv a (commonv a (nextv a).1) == 0) = true := by simp [f1]
  have t3 : (bitv (nextv a).1 (commonv a (nextv a).1) == 1) = true := by simp [f2]
  have g1 : adB (u (fillv a (commonv a (nextv a).1 + 1)).hi) (u (fillv a (commonv a (nextv a).1 + 1)).lo) (fillv a (commonv a (nextv a).1 + 1)).v6 (u (maskv a 128).hi) (u (maskv a 128).lo) (maskv a 128).v6 = true := (adEq_iff _ _).2 f3
  have g2 : adB (u (maskv (nextv a).1 (commonv a (nextv a).1 + 1)).hi) (u (maskv (nextv a).1 (commonv a (nextv a).1 + 1)).lo) (maskv (nextv a).1 (commonv a (nextv a).1 + 1)).v6 (u (nextv a).1.hi) (u (nextv a).1.lo) (nextv a).1.v6 = true := (adEq_iff _ _).2 f4
  clear f1 f2 f3 f4
  by_cases h1 : cmpv a b < 0
  · have h2 : ¬ cmpv b (nextv a).1 < 0 := next_gap a b hok h1
    go_enter Try.func9, Try.ntmps9
    go_wp2_with fail
    refine (awake_any _).mono ?_
    rintro e w1 ⟨rfl, hw1⟩
    have zw1 := hw1.size
    have bw1 := below_of (w := w) (by go_grown) hw1
    try simp at zw1
    obtain ⟨pa, pb, pc, pd, pe, pf, pz⟩ := cells3 (b := w.heap.size) hw1 (by go_size) (by go_simp <;> rfl) (by go_simp <;> rfl) (by go_simp <;> rfl) (by go_simp <;> rfl) (by go_simp <;> rfl) (by go_simp <;> rfl)
    obtain ⟨qa, qb, qc, qd, qe, qf, qz⟩ := cells3 (b := w.heap.size + 1) hw1 (by go_size) (by go_simp <;> rfl) (by go_simp <;> rfl) (by go_simp <;> rfl) (by go_simp <;> rfl) (by go_simp <;> rfl) (by go_simp <;> rfl)
    clear hw1
    go_wp2_with fail
    refine (next_any a _).mono ?_
    rintro e w2 ⟨rfl, hw2⟩
    have bw2 := below_of (w := w) (by go_grown) hw2
    have zw2 := hw2.size
    obtain ⟨p'a, p'b, p'c, p'd, p'e, p'f, p'z⟩ := cells3 (b := w.heap.size) hw2 (by go_size) (by go_simp <;> rfl) (by go_simp <;> rfl) (by go_simp <;> rfl) (by go_simp <;> rfl) (by go_simp <;> rfl) (by go_simp <;> rfl)
    obtain ⟨q'a, q'b, q'c, q'd, q'e, q'f, q'z⟩ := cells3 (b := w.heap.size + 1) hw2 (by go_size) (by go_simp <;> rfl) (by go_simp <;> rfl) (by go_simp <;> rfl) (by go_simp <;> rfl) (by go_simp <;> rfl) (by go_simp <;> rfl)
    clear hw2 pa pb pc pd pe pf pz qa qb qc qd qe qf qz
    go_wp2_with fail
    refine (cmp_any a b _).mono ?_
    rintro e w3 ⟨rfl, hw3⟩
    have bw3 := below_of (w := w) (by go_grown) hw3
    obtain ⟨pa, pb, pc, pd, pe, pf, pz⟩ := cells3 (b := w.heap.size) hw3 (by go_size) (by go_simp <;> rfl) (by go_simp <;> rfl) (by go_simp <;> rfl) (by go_simp <;> rfl) (by go_simp <;> rfl) (by go_simp <;> rfl)
    obtain ⟨qa, qb, qc, qd, qe, qf, qz⟩ := cells3 (b := w.heap.size + 1) hw3 (by go_size) (by go_simp <;> rfl) (by go_simp <;> rfl) (by go_simp <;> rfl) (by go_simp <;> rfl) (by go_simp <;> rfl) (by go_simp <;> rfl)
    obtain ⟨ra, rb, rc, rd, re, rf, rz⟩ := cells3 (b := w2.heap.size) hw3 (by go_size) (by go_simp <;> rfl) (by go_simp <;> rfl) (by go_simp <;> rfl) (by go_simp <;> rfl) (by go_simp <;> rfl) (by go_simp <;> rfl)
    clear hw3 p'a p'b p'c p'd p'e p'f p'z q'a q'b q'c q'd q'e q'f q'z
    go_wp2_with fail
    refine (cmp_any b (nextv a).1 _).mono ?_
    rintro e w4 ⟨rfl, hw4⟩
    have bw4 := below_of (w := w) (by go_grown) hw4
    obtain ⟨p'a, p'b, p'c, p'd, p'e, p'f, p'z⟩ := cells3 (b := w.heap.size) hw4 (by go_size) (by go_simp <;> rfl) (by go_simp <;> rfl) (by go_simp <;> rfl) (by go_simp <;> rfl) (by go_simp <;> rfl) (by go_simp <;> rfl)
    obtain ⟨r'a, r'b, r'c, r'd, r'e, r'f, r'z⟩ := cells3 (b := w2.heap.size) hw4 (by go_size) (by go_simp <;> rfl) (by go_simp <;> rfl) (by go_simp <;> rfl) (by go_simp <;> rfl) (by go_simp <;> rfl) (by go_simp <;> rfl)
    clear hw4 pa pb pc pd pe pf pz qa qb qc qd qe qf qz ra rb rc rd re rf rz
    go_wp2_with fail
    refine (common_any a (nextv a).1 _).mono ?_
    rintro e w5 ⟨rfl, hw5⟩
    have bw5 := below_of (w := w) (by go_grown) hw5
    obtain ⟨pa, pb, pc, pd, pe, pf, pz⟩ := cells3 (b := w.heap.size) hw5 (by go_size) (by go_simp <;> rfl) (by go_simp <;> rfl) (by go_simp <;> rfl) (by go_simp <;> rfl) (by go_simp <;> rfl) (by go_simp <;> rfl)
    obtain ⟨ra, rb, rc, rd, re, rf, rz⟩ := cells3 (b := w2.heap.size) hw5 (by go_size) (by go_simp <;> rfl) (by go_simp <;> rfl) (by go_simp <;> rfl) (by go_simp <;> rfl) (by go_simp <;> rfl) (by go_simp <;> rfl)
    clear hw5
    go_wp2_with fail
    obtain ⟨W, rfl⟩ : ∃ W, W = w5 := ⟨_, rfl⟩
    have hB := bw5
    have hz := bw5.size
    have Lpa := fun x : Later W.heap.size W => (x.cell pz).trans pa
    have Lpb := fun x : Later W.heap.size W => (x.cell pz).trans pb
    have Lpc := fun x : Later W.heap.size W => (x.cell pz).trans pc
    have Lra := fun x : Later W.heap.size W => (x.cell rz).trans ra
    have Lrb := fun x : Later W.heap.size W => (x.cell rz).trans rb
    have Lrc := fun x : Later W.heap.size W => (x.cell rz).trans rc
    refine region_later W.heap.size (by kernel_rfl) (by kernel_rfl) ?_
    repeat (go_big_quiet_step (first | (go_at_call 15; exact later_of (Nat.le_refl _) (bit_any _ _ _)) | (go_at_call 21; exact later_of (Nat.le_refl _) (fill_any _ _ _)) | (go_at_call 19; exact later_of (Nat.le_refl _) (mask_any _ _ _))))
    refine wpQuiet_nil ?_
    intro x
    have hx : Below w.heap.size w x.at := hB.trans (x.below.mono hz)
    go_wp2
    go_ret
    exact ⟨rfl, hx⟩
  · go_enter Try.func9, Try.ntmps9
    go_wp2_with fail
    refine (awake_any _).mono ?_
    rintro e w1 ⟨rfl, hw1⟩
    have zw1 := hw1.size
    have bw1 := below_of (w := w) (by go_grown) hw1
    try simp at zw1
    obtain ⟨pa, pb, pc, pd, pe, pf, pz⟩ := cells3 (b := w.heap.size) hw1 (by go_size) (by go_simp <;> rfl) (by go_simp <;> rfl) (by go_simp <;> rfl) (by go_simp <;> rfl) (by go_simp <;> rfl) (by go_simp <;> rfl)
    obtain ⟨qa, qb, qc, qd, qe, qf, qz⟩ := cells3 (b := w.heap.size + 1) hw1 (by go_size) (by go_simp <;> rfl) (by go_simp <;> rfl) (by go_simp <;> rfl) (by go_simp <;> rfl) (by go_simp <;> rfl) (by go_simp <;> rfl)
    clear hw1
    go_wp2_with fail
    refine (next_any a _).mono ?_
    rintro e w2 ⟨rfl, hw2⟩
    have bw2 := below_of (w := w) (by go_grown) hw2
    have zw2 := hw2.size
    obtain ⟨p'a, p'b, p'c, p'd, p'e, p'f, p'z⟩ := cells3 (b := w.heap.size) hw2 (by go_size) (by go_simp <;> rfl) (by go_simp <;> rfl) (by go_simp <;> rfl) (by go_simp <;> rfl) (by go_simp <;> rfl) (by go_simp <;> rfl)
    obtain ⟨q'a, q'b, q'c, q'd, q'e, q'f, q'z⟩ := cells3 (b := w.heap.size + 1) hw2 (by go_size) (by go_simp <;> rfl) (by go_simp <;> rfl) (by go_simp <;> rfl) (by go_simp <;> rfl) (by go_simp <;> rfl) (by go_simp <;> rfl)
    clear hw2 pa pb pc pd pe pf pz qa qb qc qd qe qf qz
    go_wp2_with fail
    refine (cmp_any a b _).mono ?_
    rintro e w3 ⟨rfl, hw3⟩
    have bw3 := below_of (w := w) (by go_grown) hw3
    obtain ⟨pa, pb, pc, pd, pe, pf, pz⟩ := cells3 (b := w.heap.size) hw3 (by go_size) (by go_simp <;> rfl) (by go_simp <;> rfl) (by go_simp <;> rfl) (by go_simp <;> rfl) (by go_simp <;> rfl) (by go_simp <;> rfl)
    obtain ⟨qa, qb, qc, qd, qe, qf, qz⟩ := cells3 (b := w.heap.size + 1) hw3 (by go_size) (by go_simp <;> rfl) (by go_simp <;> rfl) (by go_simp <;> rfl) (by go_simp <;> rfl) (by go_simp <;> rfl) (by go_simp <;> rfl)
    obtain ⟨ra, rb, rc, rd, re, rf, rz⟩ := cells3 (b := w2.heap.size) hw3 (by go_size) (by go_simp <;> rfl) (by go_simp <;> rfl) (by go_simp <;> rfl) (by go_simp <;> rfl) (by go_simp <;> rfl) (by go_simp <;> rfl)
    clear hw3 p'a p'b p'c p'd p'e p'f p'z q'a q'b q'c q'd q'e q'f q'z
    go_wp2_with fail
    refine (common_any a (nextv a).1 _).mono ?_
    rintro e w5 ⟨rfl, hw5⟩
    have bw5 := below_of (w := w) (by go_grown) hw5
    obtain ⟨pa, pb, pc, pd, pe, pf, pz⟩ := cells3 (b := w.heap.size) hw5 (by go_size) (by go_simp <;> rfl) (by go_simp <;> rfl) (by go_simp <;> rfl) (by go_simp <;> rfl) (by go_simp <;> rfl) (by go_simp <;> rfl)
    obtain ⟨ra, rb, rc, rd, re, rf, rz⟩ := cells3 (b := w2.heap.size) hw5 (by go_size) (by go_simp <;> rfl) (by go_simp <;> rfl) (by go_simp <;> rfl) (by go_simp <;> rfl) (by go_simp <;> rfl) (by go_simp <;> rfl)
    clear hw5
    go_wp2_with fail
    obtain ⟨W, rfl⟩ : ∃ W, W = w5 := ⟨_, rfl⟩
    have hB := bw5
    have hz := bw5.size
    have Lpa := fun x : Later W.heap.size W => (x.cell pz).trans pa
    have Lpb := fun x : Later W.heap.size W => (x.cell pz).trans pb
    have Lpc := fun x : Later W.heap.size W => (x.cell pz).trans pc
    have Lra := fun x : Later W.heap.size W => (x.cell rz).trans ra
    have Lrb := fun x : Later W.heap.size W => (x.cell rz).trans rb
    have Lrc := fun x : Later W.heap.size W => (x.cell rz).trans rc
    refine region_later W.heap.size (by kernel_rfl) (by kernel_rfl) ?_
    repeat (go_big_quiet_step (first | (go_at_call 15; exact later_of (Nat.le_refl _) (bit_any _ _ _)) | (go_at_call 21; exact later_of (Nat.le_refl _) (fill_any _ _ _)) | (go_at_call 19; exact later_of (Nat.le_refl _) (mask_any _ _ _))))
    refine wpQuiet_nil ?_
    intro x
    have hx : Below w.heap.size w x.at := hB.trans (x.below.mono hz)
    go_wp2
    go_ret
    exact ⟨rfl, hx⟩

theorem next_law (a b : Ad) (w : World) :
    Calls Try.prog 9 #[.agg #[.int .u64 (u a.hi), .int .u64 (u a.lo), .bool a.v6], .agg #[.int .u64 (u b.hi), .int .u64 (u b.lo), .bool b.v6]] w fun e w' => e = .returned (.bool true) ∧ Below w.heap.size w w' := by
  cases h : (nextv a).2
  · exact next_law_no a b w h
  · exact next_law_yes a b w h

end Go.Proofs.Yteeeiobkjakmpaa
