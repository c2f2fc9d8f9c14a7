/-
  What Width, raw, Common and Compare of the document's answer for layer 1 return. No condition.
-/
import Derived.Test.YtcbfppangiopeaaGreatMathB
import Derived.Test.YtcbfppangiopeaaGreatLawD
namespace Go.Proofs.YtcbfppangiopeaaGreat
open Go.RowKit

set_option maxHeartbeats 400000 in
theorem refWidth_any (v : Bool) (w : World) :
    Calls Tryz.prog 75 #[.bool v] w fun e w' => e = .returned (.int .i64 (wid v)) ∧ w = w' := by
  cases v
  · go_enter Tryz.func75, Tryz.ntmps75
    go_wp2
    go_ret
    exact ⟨rfl, rfl⟩
  · go_enter Tryz.func75, Tryz.ntmps75
    go_wp2
    go_ret
    exact ⟨rfl, rfl⟩

def rawv (a : Ad) (i : Int) : Int := if i < 64 then u (a.hi >>> (63 - i).toNat &&& 1#64) else u (a.lo >>> (127 - i).toNat &&& 1#64)

set_option maxHeartbeats 400000 in
theorem raw_any (a : Ad) (i : Int) (h0 : 0 ≤ i) (h1 : i < 128) (w : World) :
    Calls Tryz.prog 93 #[.agg #[.int .u64 (u a.hi), .int .u64 (u a.lo), .bool a.v6], .int .i64 i] w fun e w' => e = .returned (.int .i64 (rawv a i)) ∧ Below w.heap.size w w' := by
  by_cases h : i < 64
  · have hr := Lib.hid (show rawv a i = u (a.hi >>> (63 - i).toNat &&& 1#64) from if_pos h)
    have hs := shr_of a.hi (63 - i)
    have ha := u_and1 (a.hi >>> (63 - i).toNat)
    have hm : min (63 - i).toNat 64 = (63 - i).toNat := by omega
    obtain ⟨c0, c1⟩ := u_bit (a.hi >>> (63 - i).toNat)
    go_enter Tryz.func93, Tryz.ntmps93
    go_wp2
    go_ret
    exact ⟨ret_int hr.out.symm, by go_grown⟩
  · have hr := Lib.hid (show rawv a i = u (a.lo >>> (127 - i).toNat &&& 1#64) from if_neg h)
    have hs := shr_of a.lo (127 - i)
    have ha := u_and1 (a.lo >>> (127 - i).toNat)
    have hm : min (127 - i).toNat 64 = (127 - i).toNat := by omega
    obtain ⟨c0, c1⟩ := u_bit (a.lo >>> (127 - i).toNat)
    go_enter Tryz.func93, Tryz.ntmps93
    go_wp2
    go_ret
    exact ⟨ret_int hr.out.symm, by go_grown⟩

theorem rawv_P (a : Ad) (k : Nat) (h : k < 128) : rawv a (k : Int) = if P a (127 - k) then 1 else 0 := by
  unfold rawv P
  by_cases h64 : k < 64
  · rw [if_pos (by omega), and_one, show ((63 : Int) - (k : Int)).toNat = 127 - k - 64 from by omega, if_neg (show ¬ 127 - k < 64 by omega)]
  · rw [if_neg (by omega), and_one, show ((127 : Int) - (k : Int)).toNat = 127 - k from by omega, if_pos (show 127 - k < 64 by omega)]
theorem rawv_D (a : Ad) (k : Nat) (h : k < wd a.v6) : rawv a (k : Int) = if D a (127 - k) then 1 else 0 := by
  have hw := wd_lb a.v6
  rw [rawv_P a k (by omega), D_P]
  have : lb a.v6 ≤ 127 - k := by omega
  rw [decide_eq_true this, Bool.and_true]
theorem rawv_iff (a b : Ad) (hv : a.v6 = b.v6) (k : Nat) (h : k < wd a.v6) : rawv a (k : Int) = rawv b (k : Int) ↔ D a (127 - k) = D b (127 - k) := by
  rw [rawv_D a k h, rawv_D b k (by rw [← hv]; exact h)]
  cases D a (127 - k) <;> cases D b (127 - k) <;> simp
theorem common_unique (a b : Ad) (hv : a.v6 = b.v6) (k : Nat) (hk : k ≤ wd a.v6) (hall : ∀ j : Nat, j < k → rawv a (j : Int) = rawv b (j : Int)) (hend : k = wd a.v6 ∨ rawv a (k : Int) ≠ rawv b (k : Int)) : commonv a b = (k : Int) := by
  have hw := wd_lb a.v6
  obtain ⟨c, hc, hle, ha, hne⟩ := common_spec a b hv
  rw [hc]
  rcases Nat.lt_trichotomy c k with h | h | h
  · exact absurd ((rawv_iff a b hv c (by omega)).1 (hall c h)) (hne (by omega))
  · rw [h]
  · exfalso
    rcases hend with e | e
    · omega
    · exact e ((rawv_iff a b hv k (by omega)).2 (ha _ (by omega)))

set_option maxHeartbeats 1000000 in
theorem refCommon_same (a b : Ad) (w : World) (hv : a.v6 = b.v6) :
    Calls Tryz.prog 81 #[.agg #[.int .u64 (u a.hi), .int .u64 (u a.lo), .bool a.v6], .agg #[.int .u64 (u b.hi), .int .u64 (u b.lo), .bool b.v6]] w fun e w' => e = .returned (.int .i64 (commonv a b)) ∧ Below w.heap.size w w' := by
  have hv' : (a.v6 == b.v6) = true := by simp [hv]
  have HV := Lib.hid hv
  clear hv
  have hw := wd_lb a.v6
  have hwid := wid_wd a.v6
  have Hwid := Lib.hid hwid
  clear hwid
  go_enter Tryz.func81, Tryz.ntmps81
  go_wp2_with fail
  go_loopw [5] (fun n wr => ∃ k : Nat, k ≤ wd a.v6 ∧ n = .int .i64 k ∧ Hid (∀ j : Nat, j < k → rawv a (j : Int) = rawv b (j : Int)) ∧ Box wr w.heap.size a ∧ Box wr (w.heap.size + 1) b ∧ Below w.heap.size w wr) (fun n _ => wd a.v6 - (intOf n).toNat)
  case atStart =>
    refine ⟨0, by omega, rfl, fun j hj => absurd hj (by omega), ?_, ?_, ?_⟩
    · refine ⟨?_, ?_, ?_, ?_, ?_, ?_, ?_⟩ <;> first | (go_simp; done) | go_size
    · refine ⟨?_, ?_, ?_, ?_, ?_, ?_, ?_⟩ <;> first | (go_simp; done) | go_size
    · go_grown
  case round =>
    obtain ⟨k, hk, rfl, hall, ⟨pa, pb, pc, pd, pe, pf, pz⟩, ⟨qa, qb, qc, qd, qe, qf, qz⟩, hB⟩ := hrel
    by_cases hlt : k < wd a.v6
    · have hlt' : decide ((k : Int) < wid a.v6) = true := by rw [Hwid.out]; simp; omega
      by_cases he : rawv a (k : Int) = rawv b (k : Int)
      · have he' : (rawv a (k : Int) == rawv b (k : Int)) = true := by simp [he]
        have HE := Lib.hid he
        clear he
        go_wp2_with fail
        obtain ⟨W, rfl⟩ : ∃ W, W = wr := ⟨_, rfl⟩
        have hz := hB.size
        have Lpa := fun x : Later W.heap.size W => (x.cell pz).trans pa
        have Lpb := fun x : Later W.heap.size W => (x.cell pz).trans pb
        have Lpc := fun x : Later W.heap.size W => (x.cell pz).trans pc
        have Lqa := fun x : Later W.heap.size W => (x.cell qz).trans qa
        have Lqb := fun x : Later W.heap.size W => (x.cell qz).trans qb
        have Lqc := fun x : Later W.heap.size W => (x.cell qz).trans qc
        refine region_later W.heap.size (by kernel_rfl) (by kernel_rfl) ?_
        repeat (go_big_quiet_step (first | (go_at_call 75; exact later_same (refWidth_any _ _)) | (go_at_call 93; exact later_of (Nat.le_refl _) (raw_any _ _ (by omega) (by omega) _))))
        refine wpQuiet_nil ?_
        intro x
        have hx : Below w.heap.size w x.at := hB.trans (x.below.mono hz)
        clear Lpa Lpb Lpc Lqa Lqb Lqc
        obtain ⟨p'a, p'b, p'c, p'd, p'e, p'f, p'z⟩ := cells3 x.below pz pa pb pc pd pe pf
        clear pa pb pc pd pe pf pz
        obtain ⟨q'a, q'b, q'c, q'd, q'e, q'f, q'z⟩ := cells3 x.below qz qa qb qc qd qe qf
        clear qa qb qc qd qe qf qz
        generalize x.at = w3 at *
        clear x hB hz W
        go_wp2_with fail
        refine ⟨⟨k + 1, by omega, by go_num, ?_, ⟨p'a, p'b, p'c, p'd, p'e, p'f, p'z⟩, ⟨q'a, q'b, q'c, q'd, q'e, q'f, q'z⟩, hx⟩, by simp [intOf]; omega⟩
        intro j hj
        by_cases e : j = k
        · rw [e]; exact HE.out
        · exact hall.out j (by omega)
      · have he' : (rawv a (k : Int) == rawv b (k : Int)) = false := by simp [he]
        have hr := Lib.hid (common_unique a b HV.out k (by omega) hall.out (.inr he))
        clear he
        go_wp2_with fail
        obtain ⟨W, rfl⟩ : ∃ W, W = wr := ⟨_, rfl⟩
        have hz := hB.size
        have Lpa := fun x : Later W.heap.size W => (x.cell pz).trans pa
        have Lpb := fun x : Later W.heap.size W => (x.cell pz).trans pb
        have Lpc := fun x : Later W.heap.size W => (x.cell pz).trans pc
        have Lqa := fun x : Later W.heap.size W => (x.cell qz).trans qa
        have Lqb := fun x : Later W.heap.size W => (x.cell qz).trans qb
        have Lqc := fun x : Later W.heap.size W => (x.cell qz).trans qc
        refine region_later W.heap.size (by kernel_rfl) (by kernel_rfl) ?_
        repeat (go_big_quiet_step (first | (go_at_call 75; exact later_same (refWidth_any _ _)) | (go_at_call 93; exact later_of (Nat.le_refl _) (raw_any _ _ (by omega) (by omega) _))))
        refine wpQuiet_nil ?_
        intro x
        have hx : Below w.heap.size w x.at := hB.trans (x.below.mono hz)
        clear Lpa Lpb Lpc Lqa Lqb Lqc
        obtain ⟨p'a, p'b, p'c, p'd, p'e, p'f, p'z⟩ := cells3 x.below pz pa pb pc pd pe pf
        clear pa pb pc pd pe pf pz
        obtain ⟨q'a, q'b, q'c, q'd, q'e, q'f, q'z⟩ := cells3 x.below qz qa qb qc qd qe qf
        clear qa qb qc qd qe qf qz
        generalize x.at = w3 at *
        clear x hB hz W
        go_wp2
        go_ret
        exact ⟨ret_int hr.out.symm, hx⟩
    · have hlt' : decide ((k : Int) < wid a.v6) = false := by rw [Hwid.out]; simp; omega
      have hr := Lib.hid (common_unique a b HV.out k hk hall.out (.inl (by omega)))
      go_wp2_with fail
      obtain ⟨W, rfl⟩ : ∃ W, W = wr := ⟨_, rfl⟩
      have hz := hB.size
      have Lpa := fun x : Later W.heap.size W => (x.cell pz).trans pa
      have Lpb := fun x : Later W.heap.size W => (x.cell pz).trans pb
      have Lpc := fun x : Later W.heap.size W => (x.cell pz).trans pc
      have Lqa := fun x : Later W.heap.size W => (x.cell qz).trans qa
      have Lqb := fun x : Later W.heap.size W => (x.cell qz).trans qb
      have Lqc := fun x : Later W.heap.size W => (x.cell qz).trans qc
      refine region_later W.heap.size (by kernel_rfl) (by kernel_rfl) ?_
      repeat (go_big_quiet_step (first | (go_at_call 75; exact later_same (refWidth_any _ _)) | (go_at_call 93; exact later_of (Nat.le_refl _) (raw_any _ _ (by omega) (by omega) _))))
      refine wpQuiet_nil ?_
      intro x
      have hx : Below w.heap.size w x.at := hB.trans (x.below.mono hz)
      clear Lpa Lpb Lpc Lqa Lqb Lqc
      obtain ⟨p'a, p'b, p'c, p'd, p'e, p'f, p'z⟩ := cells3 x.below pz pa pb pc pd pe pf
      clear pa pb pc pd pe pf pz
      obtain ⟨q'a, q'b, q'c, q'd, q'e, q'f, q'z⟩ := cells3 x.below qz qa qb qc qd qe qf
      clear qa qb qc qd qe qf qz
      generalize x.at = w3 at *
      clear x hB hz W
      go_wp2
      go_ret
      exact ⟨ret_int hr.out.symm, hx⟩

set_option maxHeartbeats 1000000 in
theorem refCommon_unlike (a b : Ad) (w : World) (hv : a.v6 ≠ b.v6) :
    Calls Tryz.prog 81 #[.agg #[.int .u64 (u a.hi), .int .u64 (u a.lo), .bool a.v6], .agg #[.int .u64 (u b.hi), .int .u64 (u b.lo), .bool b.v6]] w fun e w' => e = .returned (.int .i64 (commonv a b)) ∧ Below w.heap.size w w' := by
  have hv' : (a.v6 == b.v6) = false := by simp [hv]
  have hr := Lib.hid (common_kind a b hv)
  clear hv
  go_enter Tryz.func81, Tryz.ntmps81
  go_wp2_with fail
  refine wp_loop_rounds 1 ?_
  rw [rounds_succ]
  go_wp2_with fail
  generalize hW : World.alloc _ _ = W
  have hz : w.heap.size ≤ W.heap.size := by subst hW; go_size
  have hB : Below w.heap.size w W := by subst hW; go_grown
  obtain ⟨pa, pb, pc, pd, pe, pf, pz⟩ := cells3 (W := W) (b := w.heap.size) (Below.refl _ W) (by subst hW; go_size) (by subst hW; go_simp <;> rfl) (by subst hW; go_simp <;> rfl) (by subst hW; go_simp <;> rfl) (by subst hW; go_simp <;> rfl) (by subst hW; go_simp <;> rfl) (by subst hW; go_simp <;> rfl)
  obtain ⟨qa, qb, qc, qd, qe, qf, qz⟩ := cells3 (W := W) (b := w.heap.size + 1) (Below.refl _ W) (by subst hW; go_size) (by subst hW; go_simp <;> rfl) (by subst hW; go_simp <;> rfl) (by subst hW; go_simp <;> rfl) (by subst hW; go_simp <;> rfl) (by subst hW; go_simp <;> rfl) (by subst hW; go_simp <;> rfl)
  clear hW
  have Lpa := fun x : Later W.heap.size W => (x.cell pz).trans pa
  have Lpb := fun x : Later W.heap.size W => (x.cell pz).trans pb
  have Lpc := fun x : Later W.heap.size W => (x.cell pz).trans pc
  have Lqa := fun x : Later W.heap.size W => (x.cell qz).trans qa
  have Lqb := fun x : Later W.heap.size W => (x.cell qz).trans qb
  have Lqc := fun x : Later W.heap.size W => (x.cell qz).trans qc
  refine region_later W.heap.size (by kernel_rfl) (by kernel_rfl) ?_
  repeat (go_big_quiet_step (fail))
  refine wpQuiet_nil ?_
  intro x
  have hx : Below w.heap.size w x.at := hB.trans (x.below.mono hz)
  go_wp2
  go_ret
  exact ⟨ret_int hr.out.symm, hx⟩
theorem refCommon_any (a b : Ad) (w : World) :
    Calls Tryz.prog 81 #[.agg #[.int .u64 (u a.hi), .int .u64 (u a.lo), .bool a.v6], .agg #[.int .u64 (u b.hi), .int .u64 (u b.lo), .bool b.v6]] w fun e w' => e = .returned (.int .i64 (commonv a b)) ∧ Below w.heap.size w w' := by
  by_cases hv : a.v6 = b.v6
  · exact refCommon_same a b w hv
  · exact refCommon_unlike a b w hv

theorem bit_half (m t : Nat) : m.testBit t = decide (2 ^ t ≤ m % 2 ^ (t + 1)) := by
  have ht : 2 ^ (t + 1) = 2 * 2 ^ t := by rw [Nat.pow_succ]; omega
  have h1 : m.testBit t = (m % 2 ^ (t + 1)).testBit t := by rw [Nat.testBit_mod_two_pow]; simp
  rw [h1]
  have h2 : m % 2 ^ (t + 1) < 2 * 2 ^ t := by rw [← ht]; exact Nat.mod_lt _ (Nat.two_pow_pos _)
  generalize m % 2 ^ (t + 1) = r at *
  rw [Nat.testBit_eq_decide_div_mod_eq]
  by_cases h3 : 2 ^ t ≤ r
  · have : r / 2 ^ t = 1 := by apply Nat.div_eq_of_lt_le <;> omega
    rw [this, decide_eq_true h3]; rfl
  · have : r / 2 ^ t = 0 := Nat.div_eq_of_lt (by omega)
    rw [this, decide_eq_false h3]; rfl
theorem lt_of_bit {x y t : Nat} (hx : x.testBit t = false) (hy : y.testBit t = true) (h : ∀ j, t < j → x.testBit j = y.testBit j) : x < y := by
  have hq : x / 2 ^ (t + 1) = y / 2 ^ (t + 1) := by
    apply Nat.eq_of_testBit_eq
    intro j
    rw [Nat.testBit_div_two_pow, Nat.testBit_div_two_pow]
    exact h _ (by omega)
  have m1 := Nat.div_add_mod x (2 ^ (t + 1))
  have m2 := Nat.div_add_mod y (2 ^ (t + 1))
  rw [← hq] at m2
  rw [bit_half] at hx hy
  have c1 := of_decide_eq_false hx
  have c2 := of_decide_eq_true hy
  omega
theorem cmp_raw (a b : Ad) (hv : a.v6 = b.v6) (k : Nat) (hk : commonv a b = (k : Int)) (hlt : k < wd a.v6) : rawv a (k : Int) - rawv b (k : Int) = cmpv a b ∧ 0 ≤ rawv a (k : Int) ∧ rawv a (k : Int) ≤ 1 ∧ 0 ≤ rawv b (k : Int) ∧ rawv b (k : Int) ≤ 1 := by
  have hw := wd_lb a.v6
  obtain ⟨c, hc, hle, ha, hne⟩ := common_spec a b hv
  obtain rfl : c = k := by omega
  have hd := hne hlt
  rw [rawv_D a c hlt, rawv_D b c (by rw [← hv]; exact hlt), cmp_V a b hv]
  cases h1 : D a (127 - c) <;> cases h2 : D b (127 - c)
  · exact absurd (h1.trans h2.symm) hd
  · have hl : V a < V b := lt_of_bit (t := 127 - c) h1 h2 fun j hj => ha j (by omega)
    rw [if_pos hl]
    decide
  · have hl : V b < V a := lt_of_bit (t := 127 - c) h2 h1 fun j hj => (ha j (by omega)).symm
    rw [if_neg (Nat.lt_asymm hl), if_pos hl]
    decide
  · exact absurd (h1.trans h2.symm) hd

set_option maxHeartbeats 1000000 in
theorem refCompare_same (a b : Ad) (w : World) (hv : a.v6 = b.v6) :
    Calls Tryz.prog 94 #[.agg #[.int .u64 (u a.hi), .int .u64 (u a.lo), .bool a.v6], .agg #[.int .u64 (u b.hi), .int .u64 (u b.lo), .bool b.v6]] w fun e w' => e = .returned (.int .i64 (cmpv a b)) ∧ Below w.heap.size w w' := by
  have hv' : (a.v6 == b.v6) = true := by simp [hv]
  have hw := wd_lb a.v6
  obtain ⟨k, hk, hle, hall, hne⟩ := common_spec a b hv
  rcases Nat.lt_or_ge k (wd a.v6) with hlt | hge
  · obtain ⟨r1, r2, r3, r4, r5⟩ := cmp_raw a b hv k hk hlt
    have hr := Lib.hid r1
    have tk : (commonv a b == wid a.v6) = false := by rw [hk, wid_wd]; simp; omega
    have k0 : 0 ≤ commonv a b := by omega
    have k1 : commonv a b < 128 := by omega
    rw [← hk] at hr r2 r3 r4 r5
    clear r1 hk hall hne hv
    go_enter Tryz.func94, Tryz.ntmps94
    go_wp2_with fail
    refine (refCommon_any a b _).mono ?_
    rintro e w1 ⟨rfl, hw1⟩
    have zw1 := hw1.size
    have bw1 := below_of (w := w) (by go_grown) hw1
    try simp at zw1
    obtain ⟨pa, pb, pc, pd, pe, pf, pz⟩ := cells3 (b := w.heap.size) hw1 (by go_size) (by go_simp <;> rfl) (by go_simp <;> rfl) (by go_simp <;> rfl) (by go_simp <;> rfl) (by go_simp <;> rfl) (by go_simp <;> rfl)
    obtain ⟨qa, qb, qc, qd, qe, qf, qz⟩ := cells3 (b := w.heap.size + 1) hw1 (by go_size) (by go_simp <;> rfl) (by go_simp <;> rfl) (by go_simp <;> rfl) (by go_simp <;> rfl) (by go_simp <;> rfl) (by go_simp <;> rfl)
    clear hw1
    go_wp2_with fail
    refine (refWidth_any a.v6 _).mono ?_
    rintro e w2 ⟨rfl, rfl⟩
    go_wp2_with fail
    obtain ⟨W, rfl⟩ : ∃ W, W = w1 := ⟨_, rfl⟩
    have hB := bw1
    have hz := bw1.size
    have Lpa := fun x : Later W.heap.size W => (x.cell pz).trans pa
    have Lpb := fun x : Later W.heap.size W => (x.cell pz).trans pb
    have Lpc := fun x : Later W.heap.size W => (x.cell pz).trans pc
    have Lqa := fun x : Later W.heap.size W => (x.cell qz).trans qa
    have Lqb := fun x : Later W.heap.size W => (x.cell qz).trans qb
    have Lqc := fun x : Later W.heap.size W => (x.cell qz).trans qc
    refine region_later W.heap.size (by kernel_rfl) (by kernel_rfl) ?_
    repeat (go_big_quiet_step ((go_at_call 93; exact later_of (Nat.le_refl _) (raw_any _ _ (by omega) (by omega) _))))
    refine wpQuiet_nil ?_
    intro x
    have hx : Below w.heap.size w x.at := hB.trans (x.below.mono hz)
    go_wp2
    go_ret
    exact ⟨ret_int hr.out, hx⟩
  · obtain rfl : k = wd a.v6 := by omega
    have tk : (commonv a b == wid a.v6) = true := by rw [hk, wid_wd]; simp
    have e : V a = V b := by
      apply Nat.eq_of_testBit_eq
      intro j
      by_cases hj : lb a.v6 ≤ j
      · exact hall j (by omega)
      · exact (D_low a j (by omega)).trans (D_low b j (by rw [← hv]; omega)).symm
    have hr := Lib.hid (show cmpv a b = 0 by rw [cmp_V a b hv, e]; simp)
    clear e hk hall hne hv
    go_enter Tryz.func94, Tryz.ntmps94
    go_wp2_with fail
    refine (refCommon_any a b _).mono ?_
    rintro e w1 ⟨rfl, hw1⟩
    have zw1 := hw1.size
    have bw1 := below_of (w := w) (by go_grown) hw1
    try simp at zw1
    obtain ⟨pa, pb, pc, pd, pe, pf, pz⟩ := cells3 (b := w.heap.size) hw1 (by go_size) (by go_simp <;> rfl) (by go_simp <;> rfl) (by go_simp <;> rfl) (by go_simp <;> rfl) (by go_simp <;> rfl) (by go_simp <;> rfl)
    obtain ⟨qa, qb, qc, qd, qe, qf, qz⟩ := cells3 (b := w.heap.size + 1) hw1 (by go_size) (by go_simp <;> rfl) (by go_simp <;> rfl) (by go_simp <;> rfl) (by go_simp <;> rfl) (by go_simp <;> rfl) (by go_simp <;> rfl)
    clear hw1
    go_wp2_with fail
    refine (refWidth_any a.v6 _).mono ?_
    rintro e w2 ⟨rfl, rfl⟩
    go_wp2
    go_ret
    exact ⟨ret_int hr.out.symm, bw1⟩
set_option maxHeartbeats 400000 in
theorem refCompare_unlike (a b : Ad) (w : World) (hv : a.v6 ≠ b.v6) :
    Calls Tryz.prog 94 #[.agg #[.int .u64 (u a.hi), .int .u64 (u a.lo), .bool a.v6], .agg #[.int .u64 (u b.hi), .int .u64 (u b.lo), .bool b.v6]] w fun e w' => e = .returned (.int .i64 (cmpv a b)) ∧ Below w.heap.size w w' := by
  have hr := Lib.hid (cmp_kind a b hv)
  obtain ⟨h, l, v⟩ := a
  obtain ⟨h', l', v'⟩ := b
  cases v <;> cases v'
  · exact absurd rfl hv
  · clear hv
    go_enter Tryz.func94, Tryz.ntmps94
    go_wp2
    go_ret
    exact ⟨ret_int hr.out.symm, by go_grown⟩
  · clear hv
    go_enter Tryz.func94, Tryz.ntmps94
    go_wp2
    go_ret
    exact ⟨ret_int hr.out.symm, by go_grown⟩
  · exact absurd rfl hv
theorem refCompare_any (a b : Ad) (w : World) :
    Calls Tryz.prog 94 #[.agg #[.int .u64 (u a.hi), .int .u64 (u a.lo), .bool a.v6], .agg #[.int .u64 (u b.hi), .int .u64 (u b.lo), .bool b.v6]] w fun e w' => e = .returned (.int .i64 (cmpv a b)) ∧ Below w.heap.size w w' := by
  by_cases hv : a.v6 = b.v6
  · exact refCompare_same a b w hv
  · exact refCompare_unlike a b w hv

end Go.Proofs.YtcbfppangiopeaaGreat
