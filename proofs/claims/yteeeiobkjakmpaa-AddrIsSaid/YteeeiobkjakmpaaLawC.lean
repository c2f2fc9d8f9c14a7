/-
  AddrCommon returns true, whatever two addresses and number. No condition.
-/
import Derived.Test.YteeeiobkjakmpaaMathB
import Derived.Test.YteeeiobkjakmpaaWj
namespace Go.Proofs.Yteeeiobkjakmpaa
open Go.RowKit

theorem and_bd (n : Int) : 0 ≤ bits .and .i64 n 65535 ∧ bits .and .i64 n 65535 ≤ 65535 := by
  have h : (BitVec.ofInt 64 n &&& BitVec.ofInt 64 65535).toNat ≤ 65535 := by
    rw [BitVec.toNat_and]
    exact Nat.le_trans Nat.and_le_right (by decide)
  show 0 ≤ IntKind.i64.wrap (((BitVec.ofInt 64 n &&& BitVec.ofInt 64 65535).toNat : Nat) : Int) ∧ IntKind.i64.wrap (((BitVec.ofInt 64 n &&& BitVec.ofInt 64 65535).toNat : Nat) : Int) ≤ 65535
  rw [IntKind.wrap_i64]
  omega

theorem mask_eq (a b : Ad) (n m : Int) (hv : a.v6 = b.v6) (h : ∀ j, D (maskv a n) j = D (maskv b m) j) : maskv a n = maskv b m := by
  rw [← mask_norm a n, ← mask_norm b m]
  exact norm_ext hv h
theorem clamp_in (v : Bool) (k : Nat) (h : k ≤ wd v) : clamp v (k : Int) = k := by
  unfold clamp
  rw [wid_wd]
  omega

set_option maxHeartbeats 400000 in
theorem common_law_unlike (a b : Ad) (n : Int) (w : World) (hv : a.v6 ≠ b.v6) :
    Calls Try.prog 7 #[.agg #[.int .u64 (u a.hi), .int .u64 (u a.lo), .bool a.v6], .agg #[.int .u64 (u b.hi), .int .u64 (u b.lo), .bool b.v6], .int .i64 n] w fun e w' => e = .returned (.bool true) ∧ Below w.heap.size w w' := by
  have hv' : (a.v6 == b.v6) = false := by simp [hv]
  have hk := common_kind a b hv
  clear hv
  go_enter Try.func7, Try.ntmps7
  go_wp2_with fail
  refine (awake_any _).mono ?_
  rintro e w1 ⟨rfl, hw1⟩
  have zw1 := hw1.size
  have bw1 := below_of (w := w) (by go_grown) hw1
  try simp at zw1
  obtain ⟨pa, pb, pc, pd, pe, pf, pz⟩ := cells3 (b := w.heap.size) hw1 (by go_size) (by go_simp <;> rfl) (by go_simp <;> rfl) (by go_simp <;> rfl) (by go_simp <;> rfl) (by go_simp <;> rfl) (by go_simp <;> rfl)
  obtain ⟨qa, qb, qc, qd, qe, qf, qz⟩ := cells3 (b := w.heap.size + 1) hw1 (by go_size) (by go_simp <;> rfl) (by go_simp <;> rfl) (by go_simp <;> rfl) (by go_simp <;> rfl) (by go_simp <;> rfl) (by go_simp <;> rfl)
  clear hw1
  go_wp2_with fail
  refine (common_any a b _).mono ?_
  rintro e w2 ⟨rfl, hw2⟩
  have zw2 := hw2.size
  have bw2 := below_of (w := w) (by go_grown) hw2
  try simp at zw2
  obtain ⟨p'a, p'b, p'c, p'd, p'e, p'f, p'z⟩ := cells3 (b := w.heap.size) hw2 (by go_size) (by go_simp <;> rfl) (by go_simp <;> rfl) (by go_simp <;> rfl) (by go_simp <;> rfl) (by go_simp <;> rfl) (by go_simp <;> rfl)
  obtain ⟨q'a, q'b, q'c, q'd, q'e, q'f, q'z⟩ := cells3 (b := w.heap.size + 1) hw2 (by go_size) (by go_simp <;> rfl) (by go_simp <;> rfl) (by go_simp <;> rfl) (by go_simp <;> rfl) (by go_simp <;> rfl) (by go_simp <;> rfl)
  clear hw2 pa pb pc pd pe pf pz qa qb qc qd qe qf qz
  go_wp2
  go_ret
  exact ⟨rfl, bw2⟩

theorem common_facts (a b : Ad) (hv : a.v6 = b.v6) : 0 ≤ commonv a b ∧ commonv a b ≤ wid a.v6 ∧ maskv a (commonv a b) = maskv b (commonv a b) ∧
    (commonv a b < wid a.v6 → maskv a (commonv a b + 1) ≠ maskv b (commonv a b + 1) ∧ bitv a (commonv a b) ≠ bitv b (commonv a b)) := by
  obtain ⟨k, hk, hle, hall, hne⟩ := common_spec a b hv
  have hw := wd_lb a.v6
  rw [hk, wid_wd]
  refine ⟨by omega, by omega, ?_, fun hlt => ⟨fun e => ?_, ?_⟩⟩
  · refine mask_eq a b _ _ hv fun j => ?_
    rw [D_mask, D_mask, ← hv, clamp_in _ _ hle]
    by_cases h : 128 ≤ (j : Int) + k
    · rw [hall j (by omega)]
    · simp [h]
  · have hd : D (maskv a ((k : Int) + 1)) (127 - k) = D (maskv b ((k : Int) + 1)) (127 - k) := by rw [e]
    have e1 : ((k : Int) + 1) = ((k + 1 : Nat) : Int) := by omega
    rw [D_mask, D_mask, ← hv, e1, clamp_in _ (k + 1) (by omega)] at hd
    have h1 : 128 ≤ ((127 - k : Nat) : Int) + ((k + 1 : Nat) : Int) := by omega
    simp only [h1, decide_true, Bool.and_true] at hd
    exact hne (by omega) hd
  · rw [bitv_D a k (by omega), bitv_D b k (by rw [← hv]; omega)]
    have := hne (by omega)
    cases h1 : D a (127 - k) <;> cases h2 : D b (127 - k) <;> simp_all

theorem fill_mask_facts (a : Ad) (m : Int) (h0 : 0 ≤ m) (h1 : m ≤ wid a.v6) : maskv (fillv a m) m = maskv a m ∧ m ≤ commonv (maskv a m) (fillv a m) ∧ maskv (maskv a m) m = maskv a m := by
  have hw := wd_lb a.v6
  rw [wid_wd] at h1
  obtain ⟨k, rfl⟩ := Int.eq_ofNat_of_zero_le h0
  have hc := clamp_in a.v6 k (by omega)
  refine ⟨?_, ?_, ?_⟩
  · refine mask_eq _ _ _ _ rfl fun j => ?_
    rw [D_mask, D_mask, D_fill, fill_v6, hc]
    by_cases h : 128 ≤ (j : Int) + k
    · have : ¬ ((j : Int) + k < 128) := by omega
      simp [h, this]
    · simp [h]
  · obtain ⟨c, hcm, hle, hall, hne⟩ := common_spec (maskv a k) (fillv a k) rfl
    rw [hcm]
    rcases Nat.lt_or_ge c k with hlt | hge
    · exfalso
      rw [mask_v6] at hle hne
      apply hne (by omega)
      rw [D_mask, D_fill, hc]
      have e1 : 128 ≤ ((127 - c : Nat) : Int) + (k : Int) := by omega
      have e2 : ¬ ((127 - c : Nat) : Int) + (k : Int) < 128 := by omega
      simp [e1, e2]
    · omega
  · refine mask_eq _ _ _ _ rfl fun j => ?_
    rw [D_mask, D_mask, mask_v6, hc]
    by_cases h : 128 ≤ (j : Int) + k <;> simp [h]

theorem adEq_false {x y : Ad} (h : x ≠ y) : adEq x y = false := by
  cases e : adEq x y
  · rfl
  · exact absurd ((adEq_iff x y).1 e) h

set_option maxHeartbeats 2000000 in
theorem common_law_same (a b : Ad) (n : Int) (w : World) (hv : a.v6 = b.v6) :
    Calls Try.prog 7 #[.agg #[.int .u64 (u a.hi), .int .u64 (u a.lo), .bool a.v6], .agg #[.int .u64 (u b.hi), .int .u64 (u b.lo), .bool b.v6], .int .i64 n] w fun e w' => e = .returned (.bool true) ∧ Below w.heap.size w w' := by
  have hv' : (a.v6 == b.v6) = true := by simp [hv]
  obtain ⟨k0, k1, kE, kN⟩ := common_facts a b hv
  obtain ⟨n0, n1⟩ := and_bd n
  have hwb := wid_bd a.v6
  have m0 : 0 ≤ bits .and .i64 n 65535 % (wid a.v6 + 1) := Int.emod_nonneg _ (by omega)
  have m1 : bits .and .i64 n 65535 % (wid a.v6 + 1) ≤ wid a.v6 := by have := Int.emod_lt_of_pos (bits .and .i64 n 65535) (show 0 < wid a.v6 + 1 by omega); omega
  obtain ⟨f1, f2, f3⟩ := fill_mask_facts a _ m0 m1
  have g1 : adB (u (maskv a (commonv a b)).hi) (u (maskv a (commonv a b)).lo) (maskv a (commonv a b)).v6 (u (maskv b (commonv a b)).hi) (u (maskv b (commonv a b)).lo) (maskv b (commonv a b)).v6 = true := (adEq_iff _ _).2 kE
  have g2 : adB (u (maskv (fillv a (bits .and .i64 n 65535 % (wid a.v6 + 1))) (bits .and .i64 n 65535 % (wid a.v6 + 1))).hi) (u (maskv (fillv a (bits .and .i64 n 65535 % (wid a.v6 + 1))) (bits .and .i64 n 65535 % (wid a.v6 + 1))).lo) (maskv (fillv a (bits .and .i64 n 65535 % (wid a.v6 + 1))) (bits .and .i64 n 65535 % (wid a.v6 + 1))).v6 (u (maskv a (bits .and .i64 n 65535 % (wid a.v6 + 1))).hi) (u (maskv a (bits .and .i64 n 65535 % (wid a.v6 + 1))).lo) (maskv a (bits .and .i64 n 65535 % (wid a.v6 + 1))).v6 = true := (adEq_iff _ _).2 f1
  have g3 : adB (u (maskv (maskv a (bits .and .i64 n 65535 % (wid a.v6 + 1))) (bits .and .i64 n 65535 % (wid a.v6 + 1))).hi) (u (maskv (maskv a (bits .and .i64 n 65535 % (wid a.v6 + 1))) (bits .and .i64 n 65535 % (wid a.v6 + 1))).lo) (maskv (maskv a (bits .and .i64 n 65535 % (wid a.v6 + 1))) (bits .and .i64 n 65535 % (wid a.v6 + 1))).v6 (u (maskv a (bits .and .i64 n 65535 % (wid a.v6 + 1))).hi) (u (maskv a (bits .and .i64 n 65535 % (wid a.v6 + 1))).lo) (maskv a (bits .and .i64 n 65535 % (wid a.v6 + 1))).v6 = true := (adEq_iff _ _).2 f3
  have t1 : decide (commonv a b < 0) = false := by simp; omega
  have t2 : decide (wid a.v6 < commonv a b) = false := by simp; omega
  have t4 : decide (bits .and .i64 n 65535 % (wid a.v6 + 1) ≤ commonv (maskv a (bits .and .i64 n 65535 % (wid a.v6 + 1))) (fillv a (bits .and .i64 n 65535 % (wid a.v6 + 1)))) = true := by simp [f2]
  clear hv kE f1 f3 f2
  by_cases hlt : commonv a b < wid a.v6
  · obtain ⟨h1, h2⟩ := kN hlt
    have t3 : decide (commonv a b < wid a.v6) = true := by simp [hlt]
    have g4 : adB (u (maskv a (commonv a b + 1)).hi) (u (maskv a (commonv a b + 1)).lo) (maskv a (commonv a b + 1)).v6 (u (maskv b (commonv a b + 1)).hi) (u (maskv b (commonv a b + 1)).lo) (maskv b (commonv a b + 1)).v6 = false := adEq_false h1
    have g5 : (bitv a (commonv a b) == bitv b (commonv a b)) = false := by simp [h2]
    clear kN h1 h2
    go_enter Try.func7, Try.ntmps7
    go_wp2_with fail
    refine (awake_any _).mono ?_
    rintro e w1 ⟨rfl, hw1⟩
    have zw1 := hw1.size
    have bw1 := below_of (w := w) (by go_grown) hw1
    try simp at zw1
    obtain ⟨pa, pb, pc, pd, pe, pf, pz⟩ := cells3 (b := w.heap.size) hw1 (by go_size) (by go_simp <;> rfl) (by go_simp <;> rfl) (by go_simp <;> rfl) (by go_simp <;> rfl) (by go_simp <;> rfl) (by go_simp <;> rfl)
    obtain ⟨qa, qb, qc, qd, qe, qf, qz⟩ := cells3 (b := w.heap.size + 1) hw1 (by go_size) (by go_simp <;> rfl) (by go_simp <;> rfl) (by go_simp <;> rfl) (by go_simp <;> rfl) (by go_simp <;> rfl) (by go_simp <;> rfl)
    clear hw1
    go_wp2_with fail
    refine (common_any a b _).mono ?_
    rintro e w2 ⟨rfl, hw2⟩
    have zw2 := hw2.size
    have bw2 := below_of (w := w) (by go_grown) hw2
    try simp at zw2
    obtain ⟨p'a, p'b, p'c, p'd, p'e, p'f, p'z⟩ := cells3 (b := w.heap.size) hw2 (by go_size) (by go_simp <;> rfl) (by go_simp <;> rfl) (by go_simp <;> rfl) (by go_simp <;> rfl) (by go_simp <;> rfl) (by go_simp <;> rfl)
    obtain ⟨q'a, q'b, q'c, q'd, q'e, q'f, q'z⟩ := cells3 (b := w.heap.size + 1) hw2 (by go_size) (by go_simp <;> rfl) (by go_simp <;> rfl) (by go_simp <;> rfl) (by go_simp <;> rfl) (by go_simp <;> rfl) (by go_simp <;> rfl)
    clear hw2 pa pb pc pd pe pf pz qa qb qc qd qe qf qz
    go_wp2_with fail
    refine (width_any a.v6 _).mono ?_
    rintro e w3 ⟨rfl, rfl⟩
    go_wp2_with fail
    obtain ⟨W, rfl⟩ : ∃ W, W = w2 := ⟨_, rfl⟩
    have hB := bw2
    have hz := bw2.size
    have Lp'a := fun x : Later W.heap.size W => (x.cell p'z).trans p'a
    have Lp'b := fun x : Later W.heap.size W => (x.cell p'z).trans p'b
    have Lp'c := fun x : Later W.heap.size W => (x.cell p'z).trans p'c
    have Lq'a := fun x : Later W.heap.size W => (x.cell q'z).trans q'a
    have Lq'b := fun x : Later W.heap.size W => (x.cell q'z).trans q'b
    have Lq'c := fun x : Later W.heap.size W => (x.cell q'z).trans q'c
    refine region_later W.heap.size (by kernel_rfl) (by kernel_rfl) ?_
    repeat (go_big_quiet_step (first | (go_at_call 19; exact later_of (Nat.le_refl _) (mask_any _ _ _)) | (go_at_call 15; exact later_of (Nat.le_refl _) (bit_any _ _ _))))
    refine wpQuiet_nil ?_
    intro x
    have hx : Below w.heap.size w x.at := hB.trans (x.below.mono hz)
    clear Lp'a Lp'b Lp'c Lq'a Lq'b Lq'c
    obtain ⟨pa, pb, pc, pd, pe, pf, pz⟩ := cells3 x.below p'z p'a p'b p'c p'd p'e p'f
    clear p'a p'b p'c p'd p'e p'f p'z
    obtain ⟨qa, qb, qc, qd, qe, qf, qz⟩ := cells3 x.below q'z q'a q'b q'c q'd q'e q'f
    clear q'a q'b q'c q'd q'e q'f q'z
    clear bw2 zw2
    generalize x.at = w4 at *
    clear x hB hz W
    go_wp2_with fail
    obtain ⟨W, rfl⟩ : ∃ W, W = w4 := ⟨_, rfl⟩
    have hB := hx
    have hz := hx.size
    clear hx
    have Lpa := fun x : Later W.heap.size W => (x.cell pz).trans pa
    have Lpb := fun x : Later W.heap.size W => (x.cell pz).trans pb
    have Lpc := fun x : Later W.heap.size W => (x.cell pz).trans pc
    refine region_later W.heap.size (by kernel_rfl) (by kernel_rfl) ?_
    repeat (go_big_quiet_step (first | (go_at_call 19; exact later_of (Nat.le_refl _) (mask_any _ _ _)) | (go_at_call 21; exact later_of (Nat.le_refl _) (fill_any _ _ _)) | (go_at_call 31; exact later_of (Nat.le_refl _) (common_any _ _ _))))
    refine wpQuiet_nil ?_
    intro x
    have hx : Below w.heap.size w x.at := hB.trans (x.below.mono hz)
    go_wp2
    go_ret
    exact ⟨rfl, hx⟩
  · have t3 : decide (commonv a b < wid a.v6) = false := by simp [hlt]
    clear kN
    go_enter Try.func7, Try.ntmps7
    go_wp2_with fail
    refine (awake_any _).mono ?_
    rintro e w1 ⟨rfl, hw1⟩
    have zw1 := hw1.size
    have bw1 := below_of (w := w) (by go_grown) hw1
    try simp at zw1
    obtain ⟨pa, pb, pc, pd, pe, pf, pz⟩ := cells3 (b := w.heap.size) hw1 (by go_size) (by go_simp <;> rfl) (by go_simp <;> rfl) (by go_simp <;> rfl) (by go_simp <;> rfl) (by go_simp <;> rfl) (by go_simp <;> rfl)
    obtain ⟨qa, qb, qc, qd, qe, qf, qz⟩ := cells3 (b := w.heap.size + 1) hw1 (by go_size) (by go_simp <;> rfl) (by go_simp <;> rfl) (by go_simp <;> rfl) (by go_simp <;> rfl) (by go_simp <;> rfl) (by go_simp <;> rfl)
    clear hw1
    go_wp2_with fail
    refine (common_any a b _).mono ?_
    rintro e w2 ⟨rfl, hw2⟩
    have zw2 := hw2.size
    have bw2 := below_of (w := w) (by go_grown) hw2
    try simp at zw2
    obtain ⟨p'a, p'b, p'c, p'd, p'e, p'f, p'z⟩ := cells3 (b := w.heap.size) hw2 (by go_size) (by go_simp <;> rfl) (by go_simp <;> rfl) (by go_simp <;> rfl) (by go_simp <;> rfl) (by go_simp <;> rfl) (by go_simp <;> rfl)
    obtain ⟨q'a, q'b, q'c, q'd, q'e, q'f, q'z⟩ := cells3 (b := w.heap.size + 1) hw2 (by go_size) (by go_simp <;> rfl) (by go_simp <;> rfl) (by go_simp <;> rfl) (by go_simp <;> rfl) (by go_simp <;> rfl) (by go_simp <;> rfl)
    clear hw2 pa pb pc pd pe pf pz qa qb qc qd qe qf qz
    go_wp2_with fail
    refine (width_any a.v6 _).mono ?_
    rintro e w3 ⟨rfl, rfl⟩
    go_wp2_with fail
    obtain ⟨W, rfl⟩ : ∃ W, W = w2 := ⟨_, rfl⟩
    have hB := bw2
    have hz := bw2.size
    have Lp'a := fun x : Later W.heap.size W => (x.cell p'z).trans p'a
    have Lp'b := fun x : Later W.heap.size W => (x.cell p'z).trans p'b
    have Lp'c := fun x : Later W.heap.size W => (x.cell p'z).trans p'c
    have Lq'a := fun x : Later W.heap.size W => (x.cell q'z).trans q'a
    have Lq'b := fun x : Later W.heap.size W => (x.cell q'z).trans q'b
    have Lq'c := fun x : Later W.heap.size W => (x.cell q'z).trans q'c
    refine region_later W.heap.size (by kernel_rfl) (by kernel_rfl) ?_
    repeat (go_big_quiet_step (first | (go_at_call 19; exact later_of (Nat.le_refl _) (mask_any _ _ _)) | (go_at_call 15; exact later_of (Nat.le_refl _) (bit_any _ _ _))))
    refine wpQuiet_nil ?_
    intro x
    have hx : Below w.heap.size w x.at := hB.trans (x.below.mono hz)
    clear Lp'a Lp'b Lp'c Lq'a Lq'b Lq'c
    obtain ⟨pa, pb, pc, pd, pe, pf, pz⟩ := cells3 x.below p'z p'a p'b p'c p'd p'e p'f
    clear p'a p'b p'c p'd p'e p'f p'z
    obtain ⟨qa, qb, qc, qd, qe, qf, qz⟩ := cells3 x.below q'z q'a q'b q'c q'd q'e q'f
    clear q'a q'b q'c q'd q'e q'f q'z
    clear bw2 zw2
    generalize x.at = w4 at *
    clear x hB hz W
    go_wp2_with fail
    obtain ⟨W, rfl⟩ : ∃ W, W = w4 := ⟨_, rfl⟩
    have hB := hx
    have hz := hx.size
    clear hx
    have Lpa := fun x : Later W.heap.size W => (x.cell pz).trans pa
    have Lpb := fun x : Later W.heap.size W => (x.cell pz).trans pb
    have Lpc := fun x : Later W.heap.size W => (x.cell pz).trans pc
    refine region_later W.heap.size (by kernel_rfl) (by kernel_rfl) ?_
    repeat (go_big_quiet_step (first | (go_at_call 19; exact later_of (Nat.le_refl _) (mask_any _ _ _)) | (go_at_call 21; exact later_of (Nat.le_refl _) (fill_any _ _ _)) | (go_at_call 31; exact later_of (Nat.le_refl _) (common_any _ _ _))))
    refine wpQuiet_nil ?_
    intro x
    have hx : Below w.heap.size w x.at := hB.trans (x.below.mono hz)
    go_wp2
    go_ret
    exact ⟨rfl, hx⟩

theorem common_law (a b : Ad) (n : Int) (w : World) :
    Calls Try.prog 7 #[.agg #[.int .u64 (u a.hi), .int .u64 (u a.lo), .bool a.v6], .agg #[.int .u64 (u b.hi), .int .u64 (u b.lo), .bool b.v6], .int .i64 n] w fun e w' => e = .returned (.bool true) ∧ Below w.heap.size w w' := by
  by_cases hv : a.v6 = b.v6
  · exact common_law_same a b n w hv
  · exact common_law_unlike a b n w hv

end Go.Proofs.Yteeeiobkjakmpaa
