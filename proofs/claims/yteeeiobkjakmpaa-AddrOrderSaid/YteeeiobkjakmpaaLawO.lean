/-
  AddrOrder returns true, whatever three addresses and number. No condition.
-/
import Derived.Test.YteeeiobkjakmpaaLawN
namespace Go.Proofs.Yteeeiobkjakmpaa
open Go.RowKit

theorem le_of_bits {x y : Nat} (h : ∀ j, x.testBit j = true → y.testBit j = true) : x ≤ y := by
  have e : x = x &&& y := by
    apply Nat.eq_of_testBit_eq
    intro j
    rw [Nat.testBit_and]
    cases hx : x.testBit j
    · rfl
    · rw [h j hx]; rfl
  rw [e]
  exact Nat.and_le_right
theorem mask_le (a : Ad) (n : Int) : V (maskv a n) ≤ V a := by
  refine le_of_bits fun j h => ?_
  have h' : D (maskv a n) j = true := h
  rw [D_mask, Bool.and_eq_true] at h'
  exact h'.1
theorem fill_ge (a : Ad) (n : Int) : V a ≤ V (fillv a n) := by
  refine le_of_bits fun j h => ?_
  show D (fillv a n) j = true
  have h' : D a j = true := h
  rw [D_fill, h']; rfl
theorem cmp_bd (a b : Ad) : -1 ≤ cmpv a b ∧ cmpv a b ≤ 1 := by
  by_cases hv : a.v6 = b.v6
  · rw [cmp_V a b hv]
    split
    · omega
    · split <;> omega
  · rw [cmp_kind a b hv]
    split <;> omega
theorem cmp_anti (a b : Ad) : cmpv b a = - cmpv a b := by
  by_cases hv : a.v6 = b.v6
  · rw [cmp_V a b hv, cmp_V b a hv.symm]
    rcases Nat.lt_trichotomy (V a) (V b) with h | h | h
    · rw [if_pos h, if_neg (Nat.lt_asymm h), if_pos h]; rfl
    · rw [h]; simp
    · rw [if_pos h, if_neg (Nat.lt_asymm h), if_pos h]
  · rw [cmp_kind a b hv, cmp_kind b a (Ne.symm hv)]
    cases h1 : a.v6 <;> cases h2 : b.v6 <;> simp_all
theorem cmp_pos (a b : Ad) : cmpv a b ≤ 0 ↔ ¬ cmpv b a < 0 := by
  rw [cmp_anti a b]
  omega
theorem cmp_le (a b : Ad) : cmpv a b ≤ 0 ↔ (a.v6 = b.v6 ∧ V a ≤ V b) ∨ (a.v6 = false ∧ b.v6 = true) := by
  rw [cmp_pos, cmp_neg]
  cases h1 : a.v6 <;> cases h2 : b.v6 <;> simp
theorem cmp_trans (a b c : Ad) (h1 : cmpv a b ≤ 0) (h2 : cmpv b c ≤ 0) : cmpv a c ≤ 0 := by
  rw [cmp_le] at *
  rcases h1 with ⟨e1, e2⟩ | ⟨e1, e2⟩ <;> rcases h2 with ⟨e3, e4⟩ | ⟨e3, e4⟩
  · exact .inl ⟨e1.trans e3, Nat.le_trans e2 e4⟩
  · exact .inr ⟨e1.trans e3, e4⟩
  · exact .inr ⟨e1, e3 ▸ e2⟩
  · exact .inr ⟨e1, e4⟩
theorem cmp_zero (a b : Ad) (hv : a.v6 = b.v6) : cmpv a b = 0 ↔ commonv a b = wid a.v6 := by
  obtain ⟨k, hk, hle, hall, hne⟩ := common_spec a b hv
  rw [hk, wid_wd, cmp_V a b hv]
  constructor
  · intro h
    have e : V a = V b := by
      rcases Nat.lt_trichotomy (V a) (V b) with h1 | h1 | h1
      · rw [if_pos h1] at h; omega
      · exact h1
      · rw [if_neg (Nat.lt_asymm h1), if_pos h1] at h; omega
    rcases Nat.lt_or_ge k (wd a.v6) with h1 | h1
    · exact absurd (by unfold D; rw [e]) (hne h1)
    · omega
  · intro h
    have hw := wd_lb a.v6
    have e : V a = V b := by
      apply Nat.eq_of_testBit_eq
      intro j
      by_cases hj : lb a.v6 ≤ j
      · exact hall j (by omega)
      · exact (D_low a j (by omega)).trans (D_low b j (by rw [← hv]; omega)).symm
    rw [e]; simp
theorem cmp_unzero (a b : Ad) (hv : a.v6 ≠ b.v6) : cmpv a b ≠ 0 := by
  rw [cmp_kind a b hv]
  split <;> omega
theorem cmp_next (a : Ad) (h : (nextv a).2 = true) : cmpv a (nextv a).1 = -1 := by
  obtain ⟨h1, _, _, h4⟩ := next_spec a
  have hp : 0 < 2 ^ lb a.v6 := Nat.two_pow_pos _
  rw [cmp_V a _ h1.symm, h4 h, if_pos (by omega)]
theorem cmp_mask (a : Ad) (n : Int) : cmpv (maskv a n) a ≤ 0 := (cmp_le _ _).2 (.inl ⟨rfl, mask_le a n⟩)
theorem cmp_fill (a : Ad) (n : Int) : 0 ≤ cmpv (fillv a n) a := by
  have h : cmpv a (fillv a n) ≤ 0 := (cmp_le _ _).2 (.inl ⟨rfl, fill_ge a n⟩)
  rw [cmp_anti a]
  omega
theorem cmp_last (a : Ad) (h : (nextv a).2 = false) : cmpv (fillv a 0) a = 0 := by
  obtain ⟨_, _, h3, _⟩ := next_spec a
  obtain ⟨e, _⟩ := h3 h
  rw [cmp_V (fillv a 0) a rfl, fill_top, e]; simp

/-- What the first test leaves. -/
def OrderMid (w : World) (a : Ad) (s : Value) (wx : World) : Prop := s = .bool false ∧ Box wx w.heap.size a ∧ Below w.heap.size w wx

set_option maxHeartbeats 4000000 in
set_option maxRecDepth 100000 in
theorem order_law (a b c : Ad) (n : Int) (w : World) :
    Calls Try.prog 6 #[.agg #[.int .u64 (u a.hi), .int .u64 (u a.lo), .bool a.v6], .agg #[.int .u64 (u b.hi), .int .u64 (u b.lo), .bool b.v6], .agg #[.int .u64 (u c.hi), .int .u64 (u c.lo), .bool c.v6], .int .i64 n] w fun e w' => e = .returned (.bool true) ∧ Below w.heap.size w w' := by
  go_enter Try.func6, Try.ntmps6
  go_wp2_with fail
  refine (awake_any _).mono ?_
  rintro e w1 ⟨rfl, hw1⟩
  have zw1 := hw1.size
  have bw1 := below_of (w := w) (by go_grown) hw1
  try simp at zw1
  obtain ⟨pa, pb, pc, pd, pe, pf, pz⟩ := cells3 (b := w.heap.size) hw1 (by go_size) (by go_simp <;> rfl) (by go_simp <;> rfl) (by go_simp <;> rfl) (by go_simp <;> rfl) (by go_simp <;> rfl) (by go_simp <;> rfl)
  obtain ⟨qa, qb, qc, qd, qe, qf, qz⟩ := cells3 (b := w.heap.size + 1) hw1 (by go_size) (by go_simp <;> rfl) (by go_simp <;> rfl) (by go_simp <;> rfl) (by go_simp <;> rfl) (by go_simp <;> rfl) (by go_simp <;> rfl)
  obtain ⟨ra, rb, rc, rd, re, rf, rz⟩ := cells3 (b := w.heap.size + 1 + 1) hw1 (by go_size) (by go_simp <;> rfl) (by go_simp <;> rfl) (by go_simp <;> rfl) (by go_simp <;> rfl) (by go_simp <;> rfl) (by go_simp <;> rfl)
  clear hw1
  go_wp2_with fail
  refine (cmp_any a b _).mono ?_
  rintro e w2 ⟨rfl, hw2⟩
  have zw2 := hw2.size
  have bw2 := below_of (w := w) (by go_grown) hw2
  try simp at zw2
  obtain ⟨p'a, p'b, p'c, p'd, p'e, p'f, p'z⟩ := cells3 (b := w.heap.size) hw2 (by go_size) (by go_simp <;> rfl) (by go_simp <;> rfl) (by go_simp <;> rfl) (by go_simp <;> rfl) (by go_simp <;> rfl) (by go_simp <;> rfl)
  obtain ⟨q'a, q'b, q'c, q'd, q'e, q'f, q'z⟩ := cells3 (b := w.heap.size + 1) hw2 (by go_size) (by go_simp <;> rfl) (by go_simp <;> rfl) (by go_simp <;> rfl) (by go_simp <;> rfl) (by go_simp <;> rfl) (by go_simp <;> rfl)
  obtain ⟨r'a, r'b, r'c, r'd, r'e, r'f, r'z⟩ := cells3 (b := w.heap.size + 1 + 1) hw2 (by go_size) (by go_simp <;> rfl) (by go_simp <;> rfl) (by go_simp <;> rfl) (by go_simp <;> rfl) (by go_simp <;> rfl) (by go_simp <;> rfl)
  clear hw2 pa pb pc pd pe pf pz qa qb qc qd qe qf qz ra rb rc rd re rf rz
  go_upto_region 3 with fail
  go_cut [57] (fun s wx => OrderMid w a s wx)
  case first =>
    obtain ⟨pa, pb, pc, pd, pe, pf, pz⟩ : Box w2 w.heap.size a := ⟨p'a, p'b, p'c, p'd, p'e, p'f, p'z⟩
    obtain ⟨W, rfl⟩ : ∃ W, W = w2 := ⟨_, rfl⟩
    have hB := bw2
    have hz := bw2.size
    have La := fun x : Later W.heap.size W => (x.cell pz).trans pa
    have Lb := fun x : Later W.heap.size W => (x.cell pz).trans pb
    have Lc := fun x : Later W.heap.size W => (x.cell pz).trans pc
    have Lq'a := fun x : Later W.heap.size W => (x.cell q'z).trans q'a
    have Lq'b := fun x : Later W.heap.size W => (x.cell q'z).trans q'b
    have Lq'c := fun x : Later W.heap.size W => (x.cell q'z).trans q'c
    have Lr'a := fun x : Later W.heap.size W => (x.cell r'z).trans r'a
    have Lr'b := fun x : Later W.heap.size W => (x.cell r'z).trans r'b
    have Lr'c := fun x : Later W.heap.size W => (x.cell r'z).trans r'c
    have hs := cmp_anti a b
    obtain ⟨c0, c1⟩ := cmp_bd a b
    by_cases hv : a.v6 = b.v6
    · have tv : (a.v6 == b.v6) = true := by simp [hv]
      by_cases hz0 : cmpv a b = 0
      · have tz : (cmpv a b == 0) = true := by simp [hz0]
        have tk : (commonv a b == wid a.v6) = true := by simp [(cmp_zero a b hv).1 hz0]
        by_cases h1 : cmpv a b ≤ 0
        · have tp : decide (cmpv a b ≤ 0) = true := by simp [h1]
          by_cases h2 : cmpv b c ≤ 0
          · have t2 : decide (cmpv b c ≤ 0) = true := by simp [h2]
            have h3 := cmp_trans a b c h1 h2
            have t3 : decide (0 < cmpv a c) = false := by simp; omega
            clear hv hz0 h1 h2 h3
            refine region_later W.heap.size (by kernel_rfl) (by kernel_rfl) ?_
            repeat (go_big_quiet_step (first | (go_at_call 29; exact later_of (Nat.le_refl _) (cmp_any _ _ _)) | (go_at_call 31; exact later_of (Nat.le_refl _) (common_any _ _ _)) | (go_at_call 25; exact later_same (width_any _ _))))
            refine wpQuiet_nil ?_
            intro x
            have hx : Below w.heap.size w x.at := hB.trans (x.below.mono hz)
            go_wp2_with fail
            go_meet
            exact ⟨rfl, cells3 x.below pz pa pb pc pd pe pf, hx⟩
          · have t2 : decide (cmpv b c ≤ 0) = false := by simp [h2]
            clear hv hz0 h1 h2
            refine region_later W.heap.size (by kernel_rfl) (by kernel_rfl) ?_
            repeat (go_big_quiet_step (first | (go_at_call 29; exact later_of (Nat.le_refl _) (cmp_any _ _ _)) | (go_at_call 31; exact later_of (Nat.le_refl _) (common_any _ _ _)) | (go_at_call 25; exact later_same (width_any _ _))))
            refine wpQuiet_nil ?_
            intro x
            have hx : Below w.heap.size w x.at := hB.trans (x.below.mono hz)
            go_wp2_with fail
            go_meet
            exact ⟨rfl, cells3 x.below pz pa pb pc pd pe pf, hx⟩
        · have tp : decide (cmpv a b ≤ 0) = false := by simp [h1]
          clear hv hz0 h1
          refine region_later W.heap.size (by kernel_rfl) (by kernel_rfl) ?_
          repeat (go_big_quiet_step (first | (go_at_call 29; exact later_of (Nat.le_refl _) (cmp_any _ _ _)) | (go_at_call 31; exact later_of (Nat.le_refl _) (common_any _ _ _)) | (go_at_call 25; exact later_same (width_any _ _))))
          refine wpQuiet_nil ?_
          intro x
          have hx : Below w.heap.size w x.at := hB.trans (x.below.mono hz)
          go_wp2_with fail
          go_meet
          exact ⟨rfl, cells3 x.below pz pa pb pc pd pe pf, hx⟩
      · have tz : (cmpv a b == 0) = false := by simp [hz0]
        have tk : (commonv a b == wid a.v6) = false := by
          rw [beq_eq_false_iff_ne]
          exact fun e => hz0 ((cmp_zero a b hv).2 e)
        by_cases h1 : cmpv a b ≤ 0
        · have tp : decide (cmpv a b ≤ 0) = true := by simp [h1]
          by_cases h2 : cmpv b c ≤ 0
          · have t2 : decide (cmpv b c ≤ 0) = true := by simp [h2]
            have h3 := cmp_trans a b c h1 h2
            have t3 : decide (0 < cmpv a c) = false := by simp; omega
            clear hv hz0 h1 h2 h3
            refine region_later W.heap.size (by kernel_rfl) (by kernel_rfl) ?_
            repeat (go_big_quiet_step (first | (go_at_call 29; exact later_of (Nat.le_refl _) (cmp_any _ _ _)) | (go_at_call 31; exact later_of (Nat.le_refl _) (common_any _ _ _)) | (go_at_call 25; exact later_same (width_any _ _))))
            refine wpQuiet_nil ?_
            intro x
            have hx : Below w.heap.size w x.at := hB.trans (x.below.mono hz)
            go_wp2_with fail
            go_meet
            exact ⟨rfl, cells3 x.below pz pa pb pc pd pe pf, hx⟩
          · have t2 : decide (cmpv b c ≤ 0) = false := by simp [h2]
            clear hv hz0 h1 h2
            refine region_later W.heap.size (by kernel_rfl) (by kernel_rfl) ?_
            repeat (go_big_quiet_step (first | (go_at_call 29; exact later_of (Nat.le_refl _) (cmp_any _ _ _)) | (go_at_call 31; exact later_of (Nat.le_refl _) (common_any _ _ _)) | (go_at_call 25; exact later_same (width_any _ _))))
            refine wpQuiet_nil ?_
            intro x
            have hx : Below w.heap.size w x.at := hB.trans (x.below.mono hz)
            go_wp2_with fail
            go_meet
            exact ⟨rfl, cells3 x.below pz pa pb pc pd pe pf, hx⟩
        · have tp : decide (cmpv a b ≤ 0) = false := by simp [h1]
          clear hv hz0 h1
          refine region_later W.heap.size (by kernel_rfl) (by kernel_rfl) ?_
          repeat (go_big_quiet_step (first | (go_at_call 29; exact later_of (Nat.le_refl _) (cmp_any _ _ _)) | (go_at_call 31; exact later_of (Nat.le_refl _) (common_any _ _ _)) | (go_at_call 25; exact later_same (width_any _ _))))
          refine wpQuiet_nil ?_
          intro x
          have hx : Below w.heap.size w x.at := hB.trans (x.below.mono hz)
          go_wp2_with fail
          go_meet
          exact ⟨rfl, cells3 x.below pz pa pb pc pd pe pf, hx⟩
    · have tv : (a.v6 == b.v6) = false := by simp [hv]
      have hz0 := cmp_unzero a b hv
      have tz : (cmpv a b == 0) = false := by simp [hz0]
      by_cases h1 : cmpv a b ≤ 0
      · have tp : decide (cmpv a b ≤ 0) = true := by simp [h1]
        by_cases h2 : cmpv b c ≤ 0
        · have t2 : decide (cmpv b c ≤ 0) = true := by simp [h2]
          have h3 := cmp_trans a b c h1 h2
          have t3 : decide (0 < cmpv a c) = false := by simp; omega
          clear hv hz0 h1 h2 h3
          refine region_later W.heap.size (by kernel_rfl) (by kernel_rfl) ?_
          repeat (go_big_quiet_step (first | (go_at_call 29; exact later_of (Nat.le_refl _) (cmp_any _ _ _)) | (go_at_call 31; exact later_of (Nat.le_refl _) (common_any _ _ _)) | (go_at_call 25; exact later_same (width_any _ _))))
          refine wpQuiet_nil ?_
          intro x
          have hx : Below w.heap.size w x.at := hB.trans (x.below.mono hz)
          go_wp2_with fail
          go_meet
          exact ⟨rfl, cells3 x.below pz pa pb pc pd pe pf, hx⟩
        · have t2 : decide (cmpv b c ≤ 0) = false := by simp [h2]
          clear hv hz0 h1 h2
          refine region_later W.heap.size (by kernel_rfl) (by kernel_rfl) ?_
          repeat (go_big_quiet_step (first | (go_at_call 29; exact later_of (Nat.le_refl _) (cmp_any _ _ _)) | (go_at_call 31; exact later_of (Nat.le_refl _) (common_any _ _ _)) | (go_at_call 25; exact later_same (width_any _ _))))
          refine wpQuiet_nil ?_
          intro x
          have hx : Below w.heap.size w x.at := hB.trans (x.below.mono hz)
          go_wp2_with fail
          go_meet
          exact ⟨rfl, cells3 x.below pz pa pb pc pd pe pf, hx⟩
      · have tp : decide (cmpv a b ≤ 0) = false := by simp [h1]
        clear hv hz0 h1
        refine region_later W.heap.size (by kernel_rfl) (by kernel_rfl) ?_
        repeat (go_big_quiet_step (first | (go_at_call 29; exact later_of (Nat.le_refl _) (cmp_any _ _ _)) | (go_at_call 31; exact later_of (Nat.le_refl _) (common_any _ _ _)) | (go_at_call 25; exact later_same (width_any _ _))))
        refine wpQuiet_nil ?_
        intro x
        have hx : Below w.heap.size w x.at := hB.trans (x.below.mono hz)
        go_wp2_with fail
        go_meet
        exact ⟨rfl, cells3 x.below pz pa pb pc pd pe pf, hx⟩
  case rest =>
    obtain ⟨rfl, ⟨pa, pb, pc, pd, pe, pf, pz⟩, hB⟩ := hcut
    clear p'a p'b p'c p'd p'e p'f p'z q'a q'b q'c q'd q'e q'f q'z r'a r'b r'c r'd r'e r'f r'z
    have hz := hB.size
    have t4 : decide (cmpv (maskv a n) a ≤ 0) = true := by simp [cmp_mask]
    have t5 : decide (0 ≤ cmpv (fillv a n) a) = true := by simp [cmp_fill]
    go_wp2_with fail
    refine (next_any a _).mono ?_
    rintro e w4 ⟨rfl, hw4⟩
    have bw4 := hB.trans (hw4.mono hB.size)
    obtain ⟨qa, qb, qc, qd, qe, qf, qz⟩ := cells3 hw4 pz pa pb pc pd pe pf
    clear hw4 pa pb pc pd pe pf pz hB hz
    cases hok : (nextv a).2
    · have t6 : (cmpv (fillv a 0) a == 0) = true := by simp [cmp_last a hok]
      clear hok
      go_wp2_with fail
      generalize hW : World.alloc _ _ = W
      have hz : w.heap.size ≤ W.heap.size := by subst hW; go_size
      have hB : Below w.heap.size w W := by subst hW; go_grown
      obtain ⟨pa, pb, pc, pd, pe, pf, pz⟩ := cells3 (W := W) (b := w.heap.size) (Below.refl _ W) (by subst hW; go_size) (by subst hW; go_simp <;> rfl) (by subst hW; go_simp <;> rfl) (by subst hW; go_simp <;> rfl) (by subst hW; go_simp <;> rfl) (by subst hW; go_simp <;> rfl) (by subst hW; go_simp <;> rfl)
      clear hW
      have Lpa := fun x : Later W.heap.size W => (x.cell pz).trans pa
      have Lpb := fun x : Later W.heap.size W => (x.cell pz).trans pb
      have Lpc := fun x : Later W.heap.size W => (x.cell pz).trans pc
      refine region_later W.heap.size (by kernel_rfl) (by kernel_rfl) ?_
      repeat (go_big_quiet_step (first | (go_at_call 29; exact later_of (Nat.le_refl _) (cmp_any _ _ _)) | (go_at_call 19; exact later_of (Nat.le_refl _) (mask_any _ _ _)) | (go_at_call 21; exact later_of (Nat.le_refl _) (fill_any _ _ _))))
      refine wpQuiet_nil ?_
      intro x
      have hx : Below w.heap.size w x.at := hB.trans (x.below.mono hz)
      go_wp2
      go_ret
      exact ⟨rfl, hx⟩
    · have t6 : (cmpv a (nextv a).1 == -1) = true := by simp [cmp_next a hok]
      clear hok
      go_wp2_with fail
      generalize hW : World.alloc _ _ = W
      have hz : w.heap.size ≤ W.heap.size := by subst hW; go_size
      have hB : Below w.heap.size w W := by subst hW; go_grown
      obtain ⟨pa, pb, pc, pd, pe, pf, pz⟩ := cells3 (W := W) (b := w.heap.size) (Below.refl _ W) (by subst hW; go_size) (by subst hW; go_simp <;> rfl) (by subst hW; go_simp <;> rfl) (by subst hW; go_simp <;> rfl) (by subst hW; go_simp <;> rfl) (by subst hW; go_simp <;> rfl) (by subst hW; go_simp <;> rfl)
      obtain ⟨ra, rb, rc, rd, re, rf, rz⟩ := cells3 (W := W) (b := w4.heap.size) (Below.refl _ W) (by subst hW; go_size) (by subst hW; go_simp <;> rfl) (by subst hW; go_simp <;> rfl) (by subst hW; go_simp <;> rfl) (by subst hW; go_simp <;> rfl) (by subst hW; go_simp <;> rfl) (by subst hW; go_simp <;> rfl)
      clear hW
      have Lpa := fun x : Later W.heap.size W => (x.cell pz).trans pa
      have Lpb := fun x : Later W.heap.size W => (x.cell pz).trans pb
      have Lpc := fun x : Later W.heap.size W => (x.cell pz).trans pc
      have Lra := fun x : Later W.heap.size W => (x.cell rz).trans ra
      have Lrb := fun x : Later W.heap.size W => (x.cell rz).trans rb
      have Lrc := fun x : Later W.heap.size W => (x.cell rz).trans rc
      refine region_later W.heap.size (by kernel_rfl) (by kernel_rfl) ?_
      repeat (go_big_quiet_step (first | (go_at_call 29; exact later_of (Nat.le_refl _) (cmp_any _ _ _)) | (go_at_call 19; exact later_of (Nat.le_refl _) (mask_any _ _ _)) | (go_at_call 21; exact later_of (Nat.le_refl _) (fill_any _ _ _))))
      refine wpQuiet_nil ?_
      intro x
      have hx : Below w.heap.size w x.at := hB.trans (x.below.mono hz)
      go_wp2
      go_ret
      exact ⟨rfl, hx⟩

end Go.Proofs.Yteeeiobkjakmpaa
