/-
  AddrDigits returns true, whatever address. No condition.
-/
import Derived.Test.YteeeiobkjakmpaaMathB
import Derived.Test.YteeeiobkjakmpaaWj
import Derived.Test.YteeeiobkjakmpaaLawC
namespace Go.Proofs.Yteeeiobkjakmpaa
open Go.RowKit

def zer (v : Bool) : Ad := ⟨0#64, 0#64, v⟩
def bk (a : Ad) : Nat → Ad
  | 0 => zer a.v6
  | k + 1 => setv (bk a k) (k : Int) (bitv a (k : Int))
def ck (a : Ad) : Nat → Ad
  | 0 => fillv (zer a.v6) 0
  | k + 1 => setv (ck a k) (k : Int) (bitv a (k : Int))
theorem bk_v6 (a : Ad) (k : Nat) : (bk a k).v6 = a.v6 := by
  induction k with
  | zero => rfl
  | succ k ih => rw [bk, set_v6, ih]
theorem ck_v6 (a : Ad) (k : Nat) : (ck a k).v6 = a.v6 := by
  induction k with
  | zero => rfl
  | succ k ih => rw [ck, set_v6, ih]
theorem odd_bit (a : Ad) (k : Nat) (h : k < wd a.v6) : odd (bitv a (k : Int)) = D a (127 - k) := by
  rw [bitv_D a k h]
  cases D a (127 - k)
  · decide
  · decide
theorem zer_D (v : Bool) (j : Nat) : D (zer v) j = false := by
  rw [D_P]
  unfold P zer
  simp
theorem bk_D (a : Ad) (k : Nat) (j : Nat) : D (bk a k) j = (D a j && decide (128 ≤ j + k)) := by
  have hw := wd_lb a.v6
  induction k with
  | zero =>
    rw [bk, zer_D]
    by_cases h : j < 128
    · have : ¬ 128 ≤ j + 0 := by omega
      rw [decide_eq_false this, Bool.and_false]
    · rw [D_ge a j (by omega)]; rfl
  | succ k ih =>
    rw [bk]
    by_cases hk : k < wd a.v6
    · rw [D_set _ _ _ (by rw [bk_v6]; exact hk), odd_bit a k hk, ih]
      by_cases e : j = 127 - k
      · subst e
        have : 128 ≤ 127 - k + (k + 1) := by omega
        rw [if_pos rfl, decide_eq_true this, Bool.and_true]
      · rw [if_neg e]
        by_cases h1 : 128 ≤ j + k
        · have : 128 ≤ j + (k + 1) := by omega
          simp [h1, this]
        · have : ¬ 128 ≤ j + (k + 1) := by omega
          simp [h1, this]
    · rw [set_none _ _ _ (by rw [bk_v6]; omega), D_norm, ih]
      by_cases hl : lb a.v6 ≤ j
      · have h1 : 128 ≤ j + k := by omega
        have h2 : 128 ≤ j + (k + 1) := by omega
        simp [h1, h2]
      · rw [D_low a j (by omega)]; rfl
theorem ck_D (a : Ad) (k : Nat) (j : Nat) : D (ck a k) j = if 128 ≤ j + k then D a j else decide (lb a.v6 ≤ j) := by
  have hw := wd_lb a.v6
  induction k with
  | zero =>
    rw [ck, D_fill, zer_D]
    have hc : clamp (zer a.v6).v6 0 = 0 := by
      have := wid_bd a.v6
      show clamp a.v6 0 = 0
      unfold clamp
      omega
    rw [hc]
    by_cases h : 128 ≤ j + 0
    · rw [if_pos h, D_ge a j (by omega)]
      have : ¬ (j : Int) + 0 < 128 := by omega
      rw [decide_eq_false this]; rfl
    · rw [if_neg h]
      have : (j : Int) + 0 < 128 := by omega
      rw [decide_eq_true this]; rfl
  | succ k ih =>
    rw [ck]
    by_cases hk : k < wd a.v6
    · rw [D_set _ _ _ (by rw [ck_v6]; exact hk), odd_bit a k hk, ih]
      by_cases e : j = 127 - k
      · subst e
        rw [if_pos rfl, if_pos (by omega)]
      · rw [if_neg e]
        by_cases h1 : 128 ≤ j + k
        · rw [if_pos h1, if_pos (by omega)]
        · rw [if_neg h1, if_neg (by omega)]
    · rw [set_none _ _ _ (by rw [ck_v6]; omega), D_norm, ih]
      by_cases h1 : 128 ≤ j + k
      · rw [if_pos h1, if_pos (by omega)]
      · have : ¬ lb a.v6 ≤ j := by omega
        rw [if_neg h1, D_low a j (by omega), decide_eq_false this]
        split <;> rfl
theorem bk_norm (a : Ad) (k : Nat) (h : 0 < k) : norm (bk a k) = bk a k := by
  cases k with
  | zero => omega
  | succ k => exact set_norm _ _ _
theorem ck_norm (a : Ad) (k : Nat) (h : 0 < k) : norm (ck a k) = ck a k := by
  cases k with
  | zero => omega
  | succ k => exact set_norm _ _ _
theorem bk_end (a : Ad) : bk a 128 = norm a := by
  rw [← bk_norm a 128 (by decide)]
  refine norm_ext (bk_v6 a 128) fun j => ?_
  rw [bk_D]
  have : 128 ≤ j + 128 := by omega
  simp [this]
theorem ck_end (a : Ad) : ck a 128 = norm a := by
  rw [← ck_norm a 128 (by decide)]
  refine norm_ext (ck_v6 a 128) fun j => ?_
  rw [ck_D, if_pos (by omega)]
theorem mask_end (a : Ad) : maskv a 128 = norm a := by
  have hw := wd_lb a.v6
  rw [← mask_norm]
  refine norm_ext rfl fun j => ?_
  rw [D_mask]
  have hc : clamp a.v6 128 = (wd a.v6 : Int) := by unfold clamp; rw [wid_wd]; omega
  rw [hc]
  by_cases hl : lb a.v6 ≤ j
  · have : 128 ≤ (j : Int) + (wd a.v6 : Int) := by omega
    simp [this]
  · rw [D_low a j (by omega)]; rfl
theorem norm_eq_sane (a : Ad) : adEq (norm a) a = saneB a := by
  rw [Bool.eq_iff_iff, adEq_iff, sane_iff]

/-- An address lies in a block. -/
def Box (wr : World) (b : Nat) (x : Ad) : Prop :=
  wr.cell? ⟨b, 0, none⟩ = some (.int .u64 (u x.hi)) ∧ wr.cell? ⟨b, 1, none⟩ = some (.int .u64 (u x.lo)) ∧ wr.cell? ⟨b, 2, none⟩ = some (.bool x.v6) ∧
    wr.frozen? ⟨b, 0, none⟩ = false ∧ wr.frozen? ⟨b, 1, none⟩ = false ∧ wr.frozen? ⟨b, 2, none⟩ = false ∧ b < wr.heap.size

set_option maxHeartbeats 2000000 in
theorem digits_law (a : Ad) (w : World) :
    Calls Try.prog 8 #[.agg #[.int .u64 (u a.hi), .int .u64 (u a.lo), .bool a.v6]] w fun e w' => e = .returned (.bool true) ∧ Below w.heap.size w w' := by
  go_enter Try.func8, Try.ntmps8
  go_wp2_with fail
  refine (awake_any _).mono ?_
  rintro e w1 ⟨rfl, hw1⟩
  have zw1 := hw1.size
  have bw1 := below_of (w := w) (by go_grown) hw1
  try simp at zw1
  obtain ⟨pa, pb, pc, pd, pe, pf, pz⟩ := cells3 (b := w.heap.size) hw1 (by go_size) (by go_simp <;> rfl) (by go_simp <;> rfl) (by go_simp <;> rfl) (by go_simp <;> rfl) (by go_simp <;> rfl) (by go_simp <;> rfl)
  clear hw1
  go_wp2_with fail
  refine (fill_any (zer a.v6) 0 _).mono ?_
  rintro e w2 ⟨rfl, hw2⟩
  have zw2 := hw2.size
  have bw2 := below_of (w := w) (by go_grown) hw2
  try simp at zw2
  obtain ⟨p'a, p'b, p'c, p'd, p'e, p'f, p'z⟩ := cells3 (b := w.heap.size) hw2 (by go_size) (by go_simp <;> rfl) (by go_simp <;> rfl) (by go_simp <;> rfl) (by go_simp <;> rfl) (by go_simp <;> rfl) (by go_simp <;> rfl)
  obtain ⟨q'a, q'b, q'c, q'd, q'e, q'f, q'z⟩ := cells3 (b := w1.heap.size) hw2 (by go_size) (by go_simp <;> rfl) (by go_simp <;> rfl) (by go_simp <;> rfl) (by go_simp <;> rfl) (by go_simp <;> rfl) (by go_simp <;> rfl)
  clear hw2 pa pb pc pd pe pf
  have d1 : ¬ w.heap.size = w1.heap.size := by omega
  have d2 : ¬ w1.heap.size = w2.heap.size := by omega
  have d3 : ¬ w.heap.size = w2.heap.size := by omega
  go_wp2_with fail
  go_loopw [6] (fun i wr => ∃ k : Nat, k ≤ 128 ∧ i = .int .i64 k ∧ Box wr w.heap.size a ∧ Box wr w1.heap.size (bk a k) ∧ Box wr w2.heap.size (ck a k) ∧ Below w.heap.size w wr) (fun i _ => 128 - (intOf i).toNat)
  case atStart =>
    refine ⟨0, by omega, rfl, ?_, ?_, ?_, ?_⟩
    · refine ⟨?_, ?_, ?_, ?_, ?_, ?_, ?_⟩ <;> first | (go_simp; done) | go_size
    · refine ⟨?_, ?_, ?_, ?_, ?_, ?_, ?_⟩ <;> first | (go_simp; done) | (go_simp <;> rfl) | go_size
    · refine ⟨?_, ?_, ?_, ?_, ?_, ?_, ?_⟩ <;> first | (go_simp; done) | (go_simp <;> rfl) | go_size
    · go_grown
  case round =>
    clear p'a p'b p'c p'd p'e p'f q'a q'b q'c q'd q'e q'f pz p'z q'z
    obtain ⟨k, hk, rfl, ⟨pa, pb, pc, pd, pe, pf, pz⟩, ⟨qa, qb, qc, qd, qe, qf, qz⟩, ⟨ra, rb, rc, rd, re, rf, rz⟩, hB⟩ := hrel
    by_cases hlt : k < 128
    · have hlt' : (k : Int) < 128 := by omega
      have eb := Lib.hid (show bk a (k + 1) = setv (bk a k) (k : Int) (bitv a (k : Int)) from rfl)
      have ec := Lib.hid (show ck a (k + 1) = setv (ck a k) (k : Int) (bitv a (k : Int)) from rfl)
      go_wp2_with fail
      obtain ⟨W, rfl⟩ : ∃ W, W = wr := ⟨_, rfl⟩
      have hz := hB.size
      have Lpa := fun x : Later W.heap.size W => (x.cell pz).trans pa
      have Lpb := fun x : Later W.heap.size W => (x.cell pz).trans pb
      have Lpc := fun x : Later W.heap.size W => (x.cell pz).trans pc
      have Lqa := fun x : Later W.heap.size W => (x.cell qz).trans qa
      have Lqb := fun x : Later W.heap.size W => (x.cell qz).trans qb
      have Lqc := fun x : Later W.heap.size W => (x.cell qz).trans qc
      refine region_tail 6 W.heap.size (by kernel_rfl) (by kernel_rfl) ?_
      simp only [List.take_succ_cons, List.take_zero, List.drop_succ_cons, List.drop_zero]
      repeat (go_big_quiet_step (first | (go_at_call 15; exact later_of (Nat.le_refl _) (bit_any a _ _)) | (go_at_call 17; exact later_of (Nat.le_refl _) (set_any (bk a k) _ _ _))))
      refine wpQuiet_nil ?_
      intro x
      have hx : Below w.heap.size w x.at := hB.trans (x.below.mono hz)
      clear Lpa Lpb Lpc Lqa Lqb Lqc
      obtain ⟨p'a, p'b, p'c, p'd, p'e, p'f, p'z⟩ := cells3 x.below pz pa pb pc pd pe pf
      clear pa pb pc pd pe pf pz
      obtain ⟨q'a, q'b, q'c, q'd, q'e, q'f, q'z⟩ := cells3 x.below qz qa qb qc qd qe qf
      clear qa qb qc qd qe qf qz
      obtain ⟨r'a, r'b, r'c, r'd, r'e, r'f, r'z⟩ := cells3 x.below rz ra rb rc rd re rf
      clear ra rb rc rd re rf rz
      generalize x.at = w3 at *
      clear x hB hz W
      go_wp2_with fail
      generalize hW : World.setCell _ _ _ = W
      have hz : w.heap.size ≤ W.heap.size := by subst hW; go_size
      have hB : Below w.heap.size w W := by subst hW; go_grown
      obtain ⟨pa, pb, pc, pd, pe, pf, pz⟩ := cells3 (W := W) (b := w.heap.size) (Below.refl _ W) (by subst hW; go_size) (by subst hW; go_simp <;> rfl) (by subst hW; go_simp <;> rfl) (by subst hW; go_simp <;> rfl) (by subst hW; go_simp <;> rfl) (by subst hW; go_simp <;> rfl) (by subst hW; go_simp <;> rfl)
      obtain ⟨qa, qb, qc, qd, qe, qf, qz⟩ := cells3 (W := W) (b := w1.heap.size) (Below.refl _ W) (by subst hW; go_size) (by subst hW; go_simp <;> rfl) (by subst hW; go_simp <;> rfl) (by subst hW; go_simp <;> rfl) (by subst hW; go_simp <;> rfl) (by subst hW; go_simp <;> rfl) (by subst hW; go_simp <;> rfl)
      obtain ⟨ra, rb, rc, rd, re, rf, rz⟩ := cells3 (W := W) (b := w2.heap.size) (Below.refl _ W) (by subst hW; go_size) (by subst hW; go_simp <;> rfl) (by subst hW; go_simp <;> rfl) (by subst hW; go_simp <;> rfl) (by subst hW; go_simp <;> rfl) (by subst hW; go_simp <;> rfl) (by subst hW; go_simp <;> rfl)
      clear hW hx p'a p'b p'c p'd p'e p'f p'z q'a q'b q'c q'd q'e q'f q'z r'a r'b r'c r'd r'e r'f r'z
      have Lpa := fun x : Later W.heap.size W => (x.cell pz).trans pa
      have Lpb := fun x : Later W.heap.size W => (x.cell pz).trans pb
      have Lpc := fun x : Later W.heap.size W => (x.cell pz).trans pc
      have Lra := fun x : Later W.heap.size W => (x.cell rz).trans ra
      have Lrb := fun x : Later W.heap.size W => (x.cell rz).trans rb
      have Lrc := fun x : Later W.heap.size W => (x.cell rz).trans rc
      refine region_tail 6 W.heap.size (by kernel_rfl) (by kernel_rfl) ?_
      simp only [List.take_succ_cons, List.take_zero, List.drop_succ_cons, List.drop_zero]
      repeat (go_big_quiet_step (first | (go_at_call 15; exact later_of (Nat.le_refl _) (bit_any a _ _)) | (go_at_call 17; exact later_of (Nat.le_refl _) (set_any (ck a k) _ _ _))))
      refine wpQuiet_nil ?_
      intro x
      have hx : Below w.heap.size w x.at := hB.trans (x.below.mono hz)
      clear Lpa Lpb Lpc Lra Lrb Lrc
      obtain ⟨p'a, p'b, p'c, p'd, p'e, p'f, p'z⟩ := cells3 x.below pz pa pb pc pd pe pf
      clear pa pb pc pd pe pf pz
      obtain ⟨q'a, q'b, q'c, q'd, q'e, q'f, q'z⟩ := cells3 x.below qz qa qb qc qd qe qf
      clear qa qb qc qd qe qf qz
      obtain ⟨r'a, r'b, r'c, r'd, r'e, r'f, r'z⟩ := cells3 x.below rz ra rb rc rd re rf
      clear ra rb rc rd re rf rz
      generalize x.at = w4 at *
      clear x hB hz W
      go_wp2_with fail
      refine ⟨⟨k + 1, by omega, by go_num, ?_, ?_, ?_, ?_⟩, by simp [intOf]; omega⟩
      · refine ⟨?_, ?_, ?_, ?_, ?_, ?_, ?_⟩ <;> first | (go_simp; done) | (simp only [World.size_setCell]; assumption)
      · rw [eb.out]
        refine ⟨?_, ?_, ?_, ?_, ?_, ?_, ?_⟩ <;> first | (go_simp; done) | (simp only [World.size_setCell]; assumption)
      · rw [ec.out]
        refine ⟨?_, ?_, ?_, ?_, ?_, ?_, ?_⟩ <;> first | (go_simp; done) | (simp only [World.size_setCell]; assumption)
      · go_grown
    · obtain rfl : k = 128 := by omega
      have e1 := Lib.hid (bk_end a)
      have e2 := Lib.hid (ck_end a)
      rw [e1.out] at qa qb qc
      rw [e2.out] at ra rb rc
      have hm := fun W : World => mask_any a 128 W
      rw [mask_end] at hm
      have Hm := Lib.hid hm
      clear hm
      have hs : adB (u (norm a).hi) (u (norm a).lo) (norm a).v6 (u a.hi) (u a.lo) a.v6 = saneB a := norm_eq_sane a
      go_wp2_with fail
      obtain ⟨W, rfl⟩ : ∃ W, W = wr := ⟨_, rfl⟩
      have hz := hB.size
      have Lpa := fun x : Later W.heap.size W => (x.cell pz).trans pa
      have Lpb := fun x : Later W.heap.size W => (x.cell pz).trans pb
      have Lpc := fun x : Later W.heap.size W => (x.cell pz).trans pc
      have Lqa := fun x : Later W.heap.size W => (x.cell qz).trans qa
      have Lqb := fun x : Later W.heap.size W => (x.cell qz).trans qb
      have Lqc := fun x : Later W.heap.size W => (x.cell qz).trans qc
      have Lra := fun x : Later W.heap.size W => (x.cell rz).trans ra
      have Lrb := fun x : Later W.heap.size W => (x.cell rz).trans rb
      have Lrc := fun x : Later W.heap.size W => (x.cell rz).trans rc
      refine region_later W.heap.size (by kernel_rfl) (by kernel_rfl) ?_
      repeat (go_big_quiet_step (first | (go_at_call 19; exact later_of (Nat.le_refl _) (Hm.out _)) | (go_at_call 13; exact later_of (Nat.le_refl _) (sane_any a _))))
      refine wpQuiet_nil ?_
      intro x
      have hx : Below w.heap.size w x.at := hB.trans (x.below.mono hz)
      go_wp2
      go_ret
      exact ⟨rfl, hx⟩

end Go.Proofs.Yteeeiobkjakmpaa
