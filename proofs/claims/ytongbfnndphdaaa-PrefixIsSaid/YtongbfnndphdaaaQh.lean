/-
  What Sibling, Join and Compare of the document's answer for layer 2 return. No condition.
-/
import Derived.Test.YtongbfnndphdaaaQg
namespace Go.Proofs.Ytongbfnndphdaaa
open Go.RowKit

set_option maxHeartbeats 1000000 in
theorem rpsib_any (p : Pf) (w : World) :
    Calls Try.prog 16 #[.agg #[.int .u64 (u p.a.hi), .int .u64 (u p.a.lo), .bool p.a.v6, .int .i64 p.n]] w fun e w' => e = .returned (.tuple #[.agg #[.int .u64 (u (psib p).1.a.hi), .int .u64 (u (psib p).1.a.lo), .bool (psib p).1.a.v6, .int .i64 (psib p).1.n], .bool (psib p).2]) ∧ Below w.heap.size w w' := by
  cases hs : psane p
  · have hv : psib p = (nilP, false) := by unfold psib pparent; rw [hs]; rfl
    rw [hv]
    have Hs := Lib.hid hs
    clear hv hs
    go_enter Try.func16, Try.ntmps16
    go_wp2_with fail
    refine (rpsane_any p _).mono ?_
    rintro e w1 ⟨rfl, hw1⟩
    have zw1 := hw1.size
    have bw1 := below_of (w := w) (by go_grown) hw1
    try simp at zw1
    rw [Hs.out]
    obtain ⟨pa, pb, pc, pg, pd, pe, pf, ph, pz⟩ := cells4 (b := w.heap.size) hw1 (by go_size) (by go_simp <;> rfl) (by go_simp <;> rfl) (by go_simp <;> rfl) (by go_simp <;> rfl) (by go_simp <;> rfl) (by go_simp <;> rfl) (by go_simp <;> rfl) (by go_simp <;> rfl)
    obtain ⟨qa, qb, qc, qg, qd, qe, qf, qh, qz⟩ := cells4 (b := w.heap.size + 1) hw1 (by go_size) (by go_simp <;> rfl) (by go_simp <;> rfl) (by go_simp <;> rfl) (by go_simp <;> rfl) (by go_simp <;> rfl) (by go_simp <;> rfl) (by go_simp <;> rfl) (by go_simp <;> rfl)
    clear hw1
    go_wp2
    refine bodyPost_ret (v := .tuple #[.agg #[.int .u64 0, .int .u64 0, .bool false, .int .i64 0], .bool false]) (by simp [*, results, Try.results16, go_sem] <;> rfl) rfl ⟨rfl, ?_⟩
    go_grown
  · obtain ⟨b0, b1⟩ := psane_bd hs
    have hw := wid_bd p.a.v6
    have Hs := Lib.hid hs
    by_cases hn : p.n = 0
    · have hv : psib p = (nilP, false) := by unfold psib pparent; rw [hs, if_pos rfl, if_pos hn]; rfl
      rw [hv]
      have hn' : (p.n == 0) = true := by simp [hn]
      clear hv hs hn
      go_enter Try.func16, Try.ntmps16
      go_wp2_with fail
      refine (rpsane_any p _).mono ?_
      rintro e w1 ⟨rfl, hw1⟩
      have zw1 := hw1.size
      have bw1 := below_of (w := w) (by go_grown) hw1
      try simp at zw1
      rw [Hs.out]
      obtain ⟨pa, pb, pc, pg, pd, pe, pf, ph, pz⟩ := cells4 (b := w.heap.size) hw1 (by go_size) (by go_simp <;> rfl) (by go_simp <;> rfl) (by go_simp <;> rfl) (by go_simp <;> rfl) (by go_simp <;> rfl) (by go_simp <;> rfl) (by go_simp <;> rfl) (by go_simp <;> rfl)
      obtain ⟨qa, qb, qc, qg, qd, qe, qf, qh, qz⟩ := cells4 (b := w.heap.size + 1) hw1 (by go_size) (by go_simp <;> rfl) (by go_simp <;> rfl) (by go_simp <;> rfl) (by go_simp <;> rfl) (by go_simp <;> rfl) (by go_simp <;> rfl) (by go_simp <;> rfl) (by go_simp <;> rfl)
      clear hw1
      go_wp2
      refine bodyPost_ret (v := .tuple #[.agg #[.int .u64 0, .int .u64 0, .bool false, .int .i64 0], .bool false]) (by simp [*, results, Try.results16, go_sem] <;> rfl) rfl ⟨rfl, ?_⟩
      go_grown
    · have hv := psib_eq p hs hn
      rw [hv]
      have hn' : (p.n == 0) = false := by simp [hn]
      have hbb : 0 ≤ bitv p.a (p.n - 1) ∧ bitv p.a (p.n - 1) ≤ 1 := by
        unfold bitv
        split
        · exact u_bit _
        · omega
      clear hv hs
      go_enter Try.func16, Try.ntmps16
      go_wp2_with fail
      refine (rpsane_any p _).mono ?_
      rintro e w1 ⟨rfl, hw1⟩
      have zw1 := hw1.size
      have bw1 := below_of (w := w) (by go_grown) hw1
      try simp at zw1
      rw [Hs.out]
      obtain ⟨pa, pb, pc, pg, pd, pe, pf, ph, pz⟩ := cells4 (b := w.heap.size) hw1 (by go_size) (by go_simp <;> rfl) (by go_simp <;> rfl) (by go_simp <;> rfl) (by go_simp <;> rfl) (by go_simp <;> rfl) (by go_simp <;> rfl) (by go_simp <;> rfl) (by go_simp <;> rfl)
      obtain ⟨qa, qb, qc, qg, qd, qe, qf, qh, qz⟩ := cells4 (b := w.heap.size + 1) hw1 (by go_size) (by go_simp <;> rfl) (by go_simp <;> rfl) (by go_simp <;> rfl) (by go_simp <;> rfl) (by go_simp <;> rfl) (by go_simp <;> rfl) (by go_simp <;> rfl) (by go_simp <;> rfl)
      clear hw1
      go_wp2_with fail
      obtain ⟨W, rfl⟩ : ∃ W, W = w1 := ⟨_, rfl⟩
      have hB := bw1
      have hz := bw1.size
      have Lpa := fun x : Later W.heap.size W => (x.cell pz).trans pa
      have Lpb := fun x : Later W.heap.size W => (x.cell pz).trans pb
      have Lpc := fun x : Later W.heap.size W => (x.cell pz).trans pc
      have Lpg := fun x : Later W.heap.size W => (x.cell pz).trans pg
      refine region_tail 16 W.heap.size (by kernel_rfl) (by kernel_rfl) ?_
      simp only [List.take_succ_cons, List.take_zero, List.drop_succ_cons, List.drop_zero]
      repeat (go_big_quiet_step (first | (go_at_call 44; exact later_of (Nat.le_refl _) (refBit_any p.a _ _)) | (go_at_call 42; exact later_of (Nat.le_refl _) (refSet_any p.a _ _ _))))
      refine wpQuiet_nil ?_
      intro x
      have hx : Below w.heap.size w x.at := hB.trans (x.below.mono hz)
      clear Lpa Lpb Lpc Lpg
      obtain ⟨q'a, q'b, q'c, q'g, q'd, q'e, q'f, q'h, q'z⟩ := cells4 x.below qz qa qb qc qg qd qe qf qh
      clear qa qb qc qd qe qf qg qh qz
      clear pa pb pc pd pe pf pg ph pz bw1 zw1
      generalize x.at = w2 at *
      clear x hB hz W
      go_wp2
      refine bodyPost_ret (v := .tuple #[.agg #[.int .u64 (u (Pf.mk (setv p.a (p.n - 1) (1 - bitv p.a (p.n - 1))) p.n).a.hi), .int .u64 (u (Pf.mk (setv p.a (p.n - 1) (1 - bitv p.a (p.n - 1))) p.n).a.lo), .bool (Pf.mk (setv p.a (p.n - 1) (1 - bitv p.a (p.n - 1))) p.n).a.v6, .int .i64 (Pf.mk (setv p.a (p.n - 1) (1 - bitv p.a (p.n - 1))) p.n).n], .bool true]) (by simp [*, results, Try.results16, go_sem] <;> rfl) rfl ⟨rfl, ?_⟩
      go_grown

set_option maxHeartbeats 400000 in
theorem rpcmp_any (p q : Pf) (w : World) :
    Calls Try.prog 34 #[.agg #[.int .u64 (u p.a.hi), .int .u64 (u p.a.lo), .bool p.a.v6, .int .i64 p.n], .agg #[.int .u64 (u q.a.hi), .int .u64 (u q.a.lo), .bool q.a.v6, .int .i64 q.n]] w fun e w' => e = .returned (.int .i64 (pcmp p q)) ∧ Below w.heap.size w w' := by
  by_cases h : cmpv p.a q.a = 0
  · have h' : (cmpv p.a q.a == 0) = true := by simp [h]
    have e0 := Lib.hid (show pcmp p q = cmpI p.n q.n from if_pos h)
    clear h
    by_cases h1 : p.n < q.n
    · have t1 : decide (p.n < q.n) = true := by simp [h1]
      have e1 := Lib.hid (show cmpI p.n q.n = -1 from if_pos h1)
      go_enter Try.func34, Try.ntmps34
      go_wp2_with fail
      refine (refCompare_any p.a q.a _).mono ?_
      rintro e w1 ⟨rfl, hw1⟩
      have zw1 := hw1.size
      have bw1 := below_of (w := w) (by go_grown) hw1
      try simp at zw1
      obtain ⟨pa, pb, pc, pg, pd, pe, pf, ph, pz⟩ := cells4 (b := w.heap.size) hw1 (by go_size) (by go_simp <;> rfl) (by go_simp <;> rfl) (by go_simp <;> rfl) (by go_simp <;> rfl) (by go_simp <;> rfl) (by go_simp <;> rfl) (by go_simp <;> rfl) (by go_simp <;> rfl)
      obtain ⟨qa, qb, qc, qg, qd, qe, qf, qh, qz⟩ := cells4 (b := w.heap.size + 1) hw1 (by go_size) (by go_simp <;> rfl) (by go_simp <;> rfl) (by go_simp <;> rfl) (by go_simp <;> rfl) (by go_simp <;> rfl) (by go_simp <;> rfl) (by go_simp <;> rfl) (by go_simp <;> rfl)
      clear hw1
      go_wp2
      go_ret
      exact ⟨ret_int (by rw [e0.out, e1.out]), bw1⟩
    · have t1 : decide (p.n < q.n) = false := by simp [h1]
      by_cases h2 : q.n < p.n
      · have t2 : decide (q.n < p.n) = true := by simp [h2]
        have e1 := Lib.hid (show cmpI p.n q.n = 1 from (if_neg h1).trans (if_pos h2))
        go_enter Try.func34, Try.ntmps34
        go_wp2_with fail
        refine (refCompare_any p.a q.a _).mono ?_
        rintro e w1 ⟨rfl, hw1⟩
        have zw1 := hw1.size
        have bw1 := below_of (w := w) (by go_grown) hw1
        try simp at zw1
        obtain ⟨pa, pb, pc, pg, pd, pe, pf, ph, pz⟩ := cells4 (b := w.heap.size) hw1 (by go_size) (by go_simp <;> rfl) (by go_simp <;> rfl) (by go_simp <;> rfl) (by go_simp <;> rfl) (by go_simp <;> rfl) (by go_simp <;> rfl) (by go_simp <;> rfl) (by go_simp <;> rfl)
        obtain ⟨qa, qb, qc, qg, qd, qe, qf, qh, qz⟩ := cells4 (b := w.heap.size + 1) hw1 (by go_size) (by go_simp <;> rfl) (by go_simp <;> rfl) (by go_simp <;> rfl) (by go_simp <;> rfl) (by go_simp <;> rfl) (by go_simp <;> rfl) (by go_simp <;> rfl) (by go_simp <;> rfl)
        clear hw1
        go_wp2
        go_ret
        exact ⟨ret_int (by rw [e0.out, e1.out]), bw1⟩
      · have t2 : decide (q.n < p.n) = false := by simp [h2]
        have e1 := Lib.hid (show cmpI p.n q.n = 0 from (if_neg h1).trans (if_neg h2))
        go_enter Try.func34, Try.ntmps34
        go_wp2_with fail
        refine (refCompare_any p.a q.a _).mono ?_
        rintro e w1 ⟨rfl, hw1⟩
        have zw1 := hw1.size
        have bw1 := below_of (w := w) (by go_grown) hw1
        try simp at zw1
        obtain ⟨pa, pb, pc, pg, pd, pe, pf, ph, pz⟩ := cells4 (b := w.heap.size) hw1 (by go_size) (by go_simp <;> rfl) (by go_simp <;> rfl) (by go_simp <;> rfl) (by go_simp <;> rfl) (by go_simp <;> rfl) (by go_simp <;> rfl) (by go_simp <;> rfl) (by go_simp <;> rfl)
        obtain ⟨qa, qb, qc, qg, qd, qe, qf, qh, qz⟩ := cells4 (b := w.heap.size + 1) hw1 (by go_size) (by go_simp <;> rfl) (by go_simp <;> rfl) (by go_simp <;> rfl) (by go_simp <;> rfl) (by go_simp <;> rfl) (by go_simp <;> rfl) (by go_simp <;> rfl) (by go_simp <;> rfl)
        clear hw1
        go_wp2
        go_ret
        exact ⟨ret_int (by rw [e0.out, e1.out]), bw1⟩
  · have h' : (cmpv p.a q.a == 0) = false := by simp [h]
    have e0 := Lib.hid (show pcmp p q = cmpv p.a q.a from if_neg h)
    clear h
    go_enter Try.func34, Try.ntmps34
    go_wp2_with fail
    refine (refCompare_any p.a q.a _).mono ?_
    rintro e w1 ⟨rfl, hw1⟩
    have zw1 := hw1.size
    have bw1 := below_of (w := w) (by go_grown) hw1
    try simp at zw1
    obtain ⟨pa, pb, pc, pg, pd, pe, pf, ph, pz⟩ := cells4 (b := w.heap.size) hw1 (by go_size) (by go_simp <;> rfl) (by go_simp <;> rfl) (by go_simp <;> rfl) (by go_simp <;> rfl) (by go_simp <;> rfl) (by go_simp <;> rfl) (by go_simp <;> rfl) (by go_simp <;> rfl)
    obtain ⟨qa, qb, qc, qg, qd, qe, qf, qh, qz⟩ := cells4 (b := w.heap.size + 1) hw1 (by go_size) (by go_simp <;> rfl) (by go_simp <;> rfl) (by go_simp <;> rfl) (by go_simp <;> rfl) (by go_simp <;> rfl) (by go_simp <;> rfl) (by go_simp <;> rfl) (by go_simp <;> rfl)
    clear hw1
    go_wp2
    go_ret
    exact ⟨ret_int e0.out.symm, bw1⟩

/-- The greatest number of first digits that covers both. -/
def jm (p q : Pf) : Int := min (min p.n q.n) (commonv p.a q.a)
theorem jm_step (p q : Pf) (hp : psane p = true) (hq : psane q = true) (hv : p.a.v6 = q.a.v6) : 0 ≤ jm p q ∧ ∀ m, jm p q ≤ m → m ≤ min p.n q.n → (pcov (pof p.a m) q = true ↔ m = jm p q) := by
  obtain ⟨s1, s2, s3, s4⟩ := (psane_iff p).1 hp
  obtain ⟨t1, t2, t3, t4⟩ := (psane_iff q).1 hq
  obtain ⟨k, hk, _⟩ := common_spec p.a q.a hv
  have h0 : 0 ≤ jm p q := by unfold jm; omega
  refine ⟨h0, fun m h1 h2 => ?_⟩
  rw [pcov_of p q hp hq hv m (by omega) (by omega)]
  unfold jm at *
  omega

set_option maxHeartbeats 2000000 in
theorem rpjoin_q (p q : Pf) (w : World) (h1 : psane p = true) (h2 : psane q = true) (hv6 : p.a.v6 = q.a.v6) (c1 : q.n < p.n) :
    Calls Try.prog 26 #[.agg #[.int .u64 (u p.a.hi), .int .u64 (u p.a.lo), .bool p.a.v6, .int .i64 p.n], .agg #[.int .u64 (u q.a.hi), .int .u64 (u q.a.lo), .bool q.a.v6, .int .i64 q.n]] w fun e w' => e = .returned (.tuple #[.agg #[.int .u64 (u (pof p.a (jm p q)).a.hi), .int .u64 (u (pof p.a (jm p q)).a.lo), .bool (pof p.a (jm p q)).a.v6, .int .i64 (pof p.a (jm p q)).n], .bool true]) ∧ Below w.heap.size w w' := by
  obtain ⟨j0, js⟩ := jm_step p q h1 h2 hv6
  have JS := Lib.hid js
  have jle : jm p q ≤ min p.n q.n := by unfold jm; omega
  obtain ⟨a0, a1⟩ := psane_bd h1
  obtain ⟨b0, b1⟩ := psane_bd h2
  have hw := wid_bd p.a.v6
  have H1 := Lib.hid h1
  have H2 := Lib.hid h2
  have hv' : (p.a.v6 == q.a.v6) = true := by simp [hv6]
  clear h1 h2 hv6 js
  go_enter Try.func26, Try.ntmps26
  go_wp2_with fail
  refine (rpsane_any p _).mono ?_
  rintro e w1 ⟨rfl, hw1⟩
  have zw1 := hw1.size
  have bw1 := below_of (w := w) (by go_grown) hw1
  try simp at zw1
  rw [H1.out]
  obtain ⟨pa, pb, pc, pg, pd, pe, pf, ph, pz⟩ := cells4 (b := w.heap.size) hw1 (by go_size) (by go_simp <;> rfl) (by go_simp <;> rfl) (by go_simp <;> rfl) (by go_simp <;> rfl) (by go_simp <;> rfl) (by go_simp <;> rfl) (by go_simp <;> rfl) (by go_simp <;> rfl)
  obtain ⟨qa, qb, qc, qg, qd, qe, qf, qh, qz⟩ := cells4 (b := w.heap.size + 1) hw1 (by go_size) (by go_simp <;> rfl) (by go_simp <;> rfl) (by go_simp <;> rfl) (by go_simp <;> rfl) (by go_simp <;> rfl) (by go_simp <;> rfl) (by go_simp <;> rfl) (by go_simp <;> rfl)
  obtain ⟨ra, rb, rc, rg, rd, re, rf, rh, rz⟩ := cells4 (b := w.heap.size + 1 + 1) hw1 (by go_size) (by go_simp <;> rfl) (by go_simp <;> rfl) (by go_simp <;> rfl) (by go_simp <;> rfl) (by go_simp <;> rfl) (by go_simp <;> rfl) (by go_simp <;> rfl) (by go_simp <;> rfl)
  clear hw1
  go_wp2_with fail
  refine (rpsane_any q _).mono ?_
  rintro e w2 ⟨rfl, hw2⟩
  have zw2 := hw2.size
  have bw2 := below_of (w := w) (by go_grown) hw2
  try simp at zw2
  rw [H2.out]
  obtain ⟨p'a, p'b, p'c, p'g, p'd, p'e, p'f, p'h, p'z⟩ := cells4 (b := w.heap.size) hw2 (by go_size) (by go_simp <;> rfl) (by go_simp <;> rfl) (by go_simp <;> rfl) (by go_simp <;> rfl) (by go_simp <;> rfl) (by go_simp <;> rfl) (by go_simp <;> rfl) (by go_simp <;> rfl)
  obtain ⟨q'a, q'b, q'c, q'g, q'd, q'e, q'f, q'h, q'z⟩ := cells4 (b := w.heap.size + 1) hw2 (by go_size) (by go_simp <;> rfl) (by go_simp <;> rfl) (by go_simp <;> rfl) (by go_simp <;> rfl) (by go_simp <;> rfl) (by go_simp <;> rfl) (by go_simp <;> rfl) (by go_simp <;> rfl)
  obtain ⟨r'a, r'b, r'c, r'g, r'd, r'e, r'f, r'h, r'z⟩ := cells4 (b := w.heap.size + 1 + 1) hw2 (by go_size) (by go_simp <;> rfl) (by go_simp <;> rfl) (by go_simp <;> rfl) (by go_simp <;> rfl) (by go_simp <;> rfl) (by go_simp <;> rfl) (by go_simp <;> rfl) (by go_simp <;> rfl)
  clear hw2 pa pb pc pd pe pf pg ph pz qa qb qc qd qe qf qg qh qz ra rb rc rd re rf rg rh rz
  go_wp2_with fail
  go_loopw [6] (fun v wr => ∃ m : Int, v = .int .i64 m ∧ jm p q ≤ m ∧ m ≤ min p.n q.n ∧ PBox wr w.heap.size p ∧ PBox wr (w.heap.size + 1) q ∧ PBox wr (w.heap.size + 1 + 1) nilP ∧ Below w.heap.size w wr) (fun v _ => (intOf v).toNat)
  case atStart =>
    exact ⟨q.n, rfl, by omega, by omega, ⟨p'a, p'b, p'c, p'g, p'd, p'e, p'f, p'h, p'z⟩, ⟨q'a, q'b, q'c, q'g, q'd, q'e, q'f, q'h, q'z⟩, ⟨r'a, r'b, r'c, r'g, r'd, r'e, r'f, r'h, r'z⟩, bw2⟩
  case round =>
    clear p'a p'b p'c p'd p'e p'f p'g p'h p'z q'a q'b q'c q'd q'e q'f q'g q'h q'z r'a r'b r'c r'd r'e r'f r'g r'h r'z bw2 zw2
    obtain ⟨m, rfl, h2, h3, ⟨pa, pb, pc, pg, pd, pe, pf, ph, pz⟩, ⟨qa, qb, qc, qg, qd, qe, qf, qh, qz⟩, ⟨ra, rb, rc, rg, rd, re, rf, rh, rz⟩, hB⟩ := hrel
    cases hc : pcov (pof p.a m) q
    · have hne : jm p q < m := by
        rcases (show jm p q < m ∨ m = jm p q by omega) with h | h
        · exact h
        · rw [(JS.out m h2 h3).2 h] at hc
          cases hc
      have hc' : (!pcov (pof p.a m) q) = true := by simp [hc]
      clear hc
      go_wp2_with fail
      obtain ⟨W, rfl⟩ : ∃ W, W = wr := ⟨_, rfl⟩
      have hz := hB.size
      have Lpa := fun x : Later W.heap.size W => (x.cell pz).trans pa
      have Lpb := fun x : Later W.heap.size W => (x.cell pz).trans pb
      have Lpc := fun x : Later W.heap.size W => (x.cell pz).trans pc
      have Lpg := fun x : Later W.heap.size W => (x.cell pz).trans pg
      have Lqa := fun x : Later W.heap.size W => (x.cell qz).trans qa
      have Lqb := fun x : Later W.heap.size W => (x.cell qz).trans qb
      have Lqc := fun x : Later W.heap.size W => (x.cell qz).trans qc
      have Lqg := fun x : Later W.heap.size W => (x.cell qz).trans qg
      refine region_later W.heap.size (by kernel_rfl) (by kernel_rfl) ?_
      repeat (go_big_quiet_step (first | (go_at_call 22; exact later_of (Nat.le_refl _) (rpof_any p.a _ _)) | (go_at_call 28; exact later_of (Nat.le_refl _) (rpcov_any (pof p.a m) q _))))
      refine wpQuiet_nil ?_
      intro x
      have hx : Below w.heap.size w x.at := hB.trans (x.below.mono hz)
      clear Lpa Lpb Lpc Lpg Lqa Lqb Lqc Lqg
      obtain ⟨p'a, p'b, p'c, p'g, p'd, p'e, p'f, p'h, p'z⟩ := cells4 x.below pz pa pb pc pg pd pe pf ph
      clear pa pb pc pd pe pf pg ph pz
      obtain ⟨q'a, q'b, q'c, q'g, q'd, q'e, q'f, q'h, q'z⟩ := cells4 x.below qz qa qb qc qg qd qe qf qh
      clear qa qb qc qd qe qf qg qh qz
      obtain ⟨r'a, r'b, r'c, r'g, r'd, r'e, r'f, r'h, r'z⟩ := cells4 x.below rz ra rb rc rg rd re rf rh
      clear ra rb rc rd re rf rg rh rz
      generalize x.at = w3 at *
      clear x hB hz W
      go_wp2_with fail
      exact ⟨⟨m - 1, rfl, by omega, by omega, ⟨p'a, p'b, p'c, p'g, p'd, p'e, p'f, p'h, p'z⟩, ⟨q'a, q'b, q'c, q'g, q'd, q'e, q'f, q'h, q'z⟩, ⟨r'a, r'b, r'c, r'g, r'd, r'e, r'f, r'h, r'z⟩, hx⟩, by simp [intOf]; omega⟩
    · have hm : m = jm p q := (JS.out m h2 h3).1 hc
      have hc' : (!pcov (pof p.a m) q) = false := by simp [hc]
      have Hm := Lib.hid hm
      clear hc hm
      go_wp2_with fail
      obtain ⟨W, rfl⟩ : ∃ W, W = wr := ⟨_, rfl⟩
      have hz := hB.size
      have Lpa := fun x : Later W.heap.size W => (x.cell pz).trans pa
      have Lpb := fun x : Later W.heap.size W => (x.cell pz).trans pb
      have Lpc := fun x : Later W.heap.size W => (x.cell pz).trans pc
      have Lpg := fun x : Later W.heap.size W => (x.cell pz).trans pg
      have Lqa := fun x : Later W.heap.size W => (x.cell qz).trans qa
      have Lqb := fun x : Later W.heap.size W => (x.cell qz).trans qb
      have Lqc := fun x : Later W.heap.size W => (x.cell qz).trans qc
      have Lqg := fun x : Later W.heap.size W => (x.cell qz).trans qg
      refine region_later W.heap.size (by kernel_rfl) (by kernel_rfl) ?_
      repeat (go_big_quiet_step (first | (go_at_call 22; exact later_of (Nat.le_refl _) (rpof_any p.a _ _)) | (go_at_call 28; exact later_of (Nat.le_refl _) (rpcov_any (pof p.a m) q _))))
      refine wpQuiet_nil ?_
      intro x
      have hx : Below w.heap.size w x.at := hB.trans (x.below.mono hz)
      clear Lpa Lpb Lpc Lpg Lqa Lqb Lqc Lqg
      obtain ⟨p'a, p'b, p'c, p'g, p'd, p'e, p'f, p'h, p'z⟩ := cells4 x.below pz pa pb pc pg pd pe pf ph
      clear pa pb pc pd pe pf pg ph pz
      obtain ⟨r'a, r'b, r'c, r'g, r'd, r'e, r'f, r'h, r'z⟩ := cells4 x.below rz ra rb rc rg rd re rf rh
      clear ra rb rc rd re rf rg rh rz
      clear qa qb qc qd qe qf qg qh qz
      generalize x.at = w3 at *
      clear x hB hz W
      go_wp2_with fail
      refine (rpof_any p.a m _).mono ?_
      rintro e w4 ⟨rfl, hw4⟩
      have zw4 := hw4.size
      have bw4 := below_of (w := w) (by go_grown) hw4
      try simp at zw4
      obtain ⟨ra, rb, rc, rg, rd, re, rf, rh, rz⟩ := cells4 (b := w.heap.size + 1 + 1) hw4 (by go_size) (by go_simp <;> rfl) (by go_simp <;> rfl) (by go_simp <;> rfl) (by go_simp <;> rfl) (by go_simp <;> rfl) (by go_simp <;> rfl) (by go_simp <;> rfl) (by go_simp <;> rfl)
      clear hw4
      go_wp2
      refine bodyPost_ret (v := .tuple #[.agg #[.int .u64 (u (pof p.a m).a.hi), .int .u64 (u (pof p.a m).a.lo), .bool (pof p.a m).a.v6, .int .i64 (pof p.a m).n], .bool true]) (by simp [*, results, Try.results26, go_sem] <;> rfl) rfl ⟨by rw [← Hm.out], ?_⟩
      go_grown

set_option maxHeartbeats 2000000 in
theorem rpjoin_p (p q : Pf) (w : World) (h1 : psane p = true) (h2 : psane q = true) (hv6 : p.a.v6 = q.a.v6) (c1 : ¬ q.n < p.n) :
    Calls Try.prog 26 #[.agg #[.int .u64 (u p.a.hi), .int .u64 (u p.a.lo), .bool p.a.v6, .int .i64 p.n], .agg #[.int .u64 (u q.a.hi), .int .u64 (u q.a.lo), .bool q.a.v6, .int .i64 q.n]] w fun e w' => e = .returned (.tuple #[.agg #[.int .u64 (u (pof p.a (jm p q)).a.hi), .int .u64 (u (pof p.a (jm p q)).a.lo), .bool (pof p.a (jm p q)).a.v6, .int .i64 (pof p.a (jm p q)).n], .bool true]) ∧ Below w.heap.size w w' := by
  obtain ⟨j0, js⟩ := jm_step p q h1 h2 hv6
  have JS := Lib.hid js
  have jle : jm p q ≤ min p.n q.n := by unfold jm; omega
  obtain ⟨a0, a1⟩ := psane_bd h1
  obtain ⟨b0, b1⟩ := psane_bd h2
  have hw := wid_bd p.a.v6
  have H1 := Lib.hid h1
  have H2 := Lib.hid h2
  have hv' : (p.a.v6 == q.a.v6) = true := by simp [hv6]
  clear h1 h2 hv6 js
  go_enter Try.func26, Try.ntmps26
  go_wp2_with fail
  refine (rpsane_any p _).mono ?_
  rintro e w1 ⟨rfl, hw1⟩
  have zw1 := hw1.size
  have bw1 := below_of (w := w) (by go_grown) hw1
  try simp at zw1
  rw [H1.out]
  obtain ⟨pa, pb, pc, pg, pd, pe, pf, ph, pz⟩ := cells4 (b := w.heap.size) hw1 (by go_size) (by go_simp <;> rfl) (by go_simp <;> rfl) (by go_simp <;> rfl) (by go_simp <;> rfl) (by go_simp <;> rfl) (by go_simp <;> rfl) (by go_simp <;> rfl) (by go_simp <;> rfl)
  obtain ⟨qa, qb, qc, qg, qd, qe, qf, qh, qz⟩ := cells4 (b := w.heap.size + 1) hw1 (by go_size) (by go_simp <;> rfl) (by go_simp <;> rfl) (by go_simp <;> rfl) (by go_simp <;> rfl) (by go_simp <;> rfl) (by go_simp <;> rfl) (by go_simp <;> rfl) (by go_simp <;> rfl)
  obtain ⟨ra, rb, rc, rg, rd, re, rf, rh, rz⟩ := cells4 (b := w.heap.size + 1 + 1) hw1 (by go_size) (by go_simp <;> rfl) (by go_simp <;> rfl) (by go_simp <;> rfl) (by go_simp <;> rfl) (by go_simp <;> rfl) (by go_simp <;> rfl) (by go_simp <;> rfl) (by go_simp <;> rfl)
  clear hw1
  go_wp2_with fail
  refine (rpsane_any q _).mono ?_
  rintro e w2 ⟨rfl, hw2⟩
  have zw2 := hw2.size
  have bw2 := below_of (w := w) (by go_grown) hw2
  try simp at zw2
  rw [H2.out]
  obtain ⟨p'a, p'b, p'c, p'g, p'd, p'e, p'f, p'h, p'z⟩ := cells4 (b := w.heap.size) hw2 (by go_size) (by go_simp <;> rfl) (by go_simp <;> rfl) (by go_simp <;> rfl) (by go_simp <;> rfl) (by go_simp <;> rfl) (by go_simp <;> rfl) (by go_simp <;> rfl) (by go_simp <;> rfl)
  obtain ⟨q'a, q'b, q'c, q'g, q'd, q'e, q'f, q'h, q'z⟩ := cells4 (b := w.heap.size + 1) hw2 (by go_size) (by go_simp <;> rfl) (by go_simp <;> rfl) (by go_simp <;> rfl) (by go_simp <;> rfl) (by go_simp <;> rfl) (by go_simp <;> rfl) (by go_simp <;> rfl) (by go_simp <;> rfl)
  obtain ⟨r'a, r'b, r'c, r'g, r'd, r'e, r'f, r'h, r'z⟩ := cells4 (b := w.heap.size + 1 + 1) hw2 (by go_size) (by go_simp <;> rfl) (by go_simp <;> rfl) (by go_simp <;> rfl) (by go_simp <;> rfl) (by go_simp <;> rfl) (by go_simp <;> rfl) (by go_simp <;> rfl) (by go_simp <;> rfl)
  clear hw2 pa pb pc pd pe pf pg ph pz qa qb qc qd qe qf qg qh qz ra rb rc rd re rf rg rh rz
  go_wp2_with fail
  go_loopw [6] (fun v wr => ∃ m : Int, v = .int .i64 m ∧ jm p q ≤ m ∧ m ≤ min p.n q.n ∧ PBox wr w.heap.size p ∧ PBox wr (w.heap.size + 1) q ∧ PBox wr (w.heap.size + 1 + 1) nilP ∧ Below w.heap.size w wr) (fun v _ => (intOf v).toNat)
  case atStart =>
    exact ⟨p.n, rfl, by omega, by omega, ⟨p'a, p'b, p'c, p'g, p'd, p'e, p'f, p'h, p'z⟩, ⟨q'a, q'b, q'c, q'g, q'd, q'e, q'f, q'h, q'z⟩, ⟨r'a, r'b, r'c, r'g, r'd, r'e, r'f, r'h, r'z⟩, bw2⟩
  case round =>
    clear p'a p'b p'c p'd p'e p'f p'g p'h p'z q'a q'b q'c q'd q'e q'f q'g q'h q'z r'a r'b r'c r'd r'e r'f r'g r'h r'z bw2 zw2
    obtain ⟨m, rfl, h2, h3, ⟨pa, pb, pc, pg, pd, pe, pf, ph, pz⟩, ⟨qa, qb, qc, qg, qd, qe, qf, qh, qz⟩, ⟨ra, rb, rc, rg, rd, re, rf, rh, rz⟩, hB⟩ := hrel
    cases hc : pcov (pof p.a m) q
    · have hne : jm p q < m := by
        rcases (show jm p q < m ∨ m = jm p q by omega) with h | h
        · exact h
        · rw [(JS.out m h2 h3).2 h] at hc
          cases hc
      have hc' : (!pcov (pof p.a m) q) = true := by simp [hc]
      clear hc
      go_wp2_with fail
      obtain ⟨W, rfl⟩ : ∃ W, W = wr := ⟨_, rfl⟩
      have hz := hB.size
      have Lpa := fun x : Later W.heap.size W => (x.cell pz).trans pa
      have Lpb := fun x : Later W.heap.size W => (x.cell pz).trans pb
      have Lpc := fun x : Later W.heap.size W => (x.cell pz).trans pc
      have Lpg := fun x : Later W.heap.size W => (x.cell pz).trans pg
      have Lqa := fun x : Later W.heap.size W => (x.cell qz).trans qa
      have Lqb := fun x : Later W.heap.size W => (x.cell qz).trans qb
      have Lqc := fun x : Later W.heap.size W => (x.cell qz).trans qc
      have Lqg := fun x : Later W.heap.size W => (x.cell qz).trans qg
      refine region_later W.heap.size (by kernel_rfl) (by kernel_rfl) ?_
      repeat (go_big_quiet_step (first | (go_at_call 22; exact later_of (Nat.le_refl _) (rpof_any p.a _ _)) | (go_at_call 28; exact later_of (Nat.le_refl _) (rpcov_any (pof p.a m) q _))))
      refine wpQuiet_nil ?_
      intro x
      have hx : Below w.heap.size w x.at := hB.trans (x.below.mono hz)
      clear Lpa Lpb Lpc Lpg Lqa Lqb Lqc Lqg
      obtain ⟨p'a, p'b, p'c, p'g, p'd, p'e, p'f, p'h, p'z⟩ := cells4 x.below pz pa pb pc pg pd pe pf ph
      clear pa pb pc pd pe pf pg ph pz
      obtain ⟨q'a, q'b, q'c, q'g, q'd, q'e, q'f, q'h, q'z⟩ := cells4 x.below qz qa qb qc qg qd qe qf qh
      clear qa qb qc qd qe qf qg qh qz
      obtain ⟨r'a, r'b, r'c, r'g, r'd, r'e, r'f, r'h, r'z⟩ := cells4 x.below rz ra rb rc rg rd re rf rh
      clear ra rb rc rd re rf rg rh rz
      generalize x.at = w3 at *
      clear x hB hz W
      go_wp2_with fail
      exact ⟨⟨m - 1, rfl, by omega, by omega, ⟨p'a, p'b, p'c, p'g, p'd, p'e, p'f, p'h, p'z⟩, ⟨q'a, q'b, q'c, q'g, q'd, q'e, q'f, q'h, q'z⟩, ⟨r'a, r'b, r'c, r'g, r'd, r'e, r'f, r'h, r'z⟩, hx⟩, by simp [intOf]; omega⟩
    · have hm : m = jm p q := (JS.out m h2 h3).1 hc
      have hc' : (!pcov (pof p.a m) q) = false := by simp [hc]
      have Hm := Lib.hid hm
      clear hc hm
      go_wp2_with fail
      obtain ⟨W, rfl⟩ : ∃ W, W = wr := ⟨_, rfl⟩
      have hz := hB.size
      have Lpa := fun x : Later W.heap.size W => (x.cell pz).trans pa
      have Lpb := fun x : Later W.heap.size W => (x.cell pz).trans pb
      have Lpc := fun x : Later W.heap.size W => (x.cell pz).trans pc
      have Lpg := fun x : Later W.heap.size W => (x.cell pz).trans pg
      have Lqa := fun x : Later W.heap.size W => (x.cell qz).trans qa
      have Lqb := fun x : Later W.heap.size W => (x.cell qz).trans qb
      have Lqc := fun x : Later W.heap.size W => (x.cell qz).trans qc
      have Lqg := fun x : Later W.heap.size W => (x.cell qz).trans qg
      refine region_later W.heap.size (by kernel_rfl) (by kernel_rfl) ?_
      repeat (go_big_quiet_step (first | (go_at_call 22; exact later_of (Nat.le_refl _) (rpof_any p.a _ _)) | (go_at_call 28; exact later_of (Nat.le_refl _) (rpcov_any (pof p.a m) q _))))
      refine wpQuiet_nil ?_
      intro x
      have hx : Below w.heap.size w x.at := hB.trans (x.below.mono hz)
      clear Lpa Lpb Lpc Lpg Lqa Lqb Lqc Lqg
      obtain ⟨p'a, p'b, p'c, p'g, p'd, p'e, p'f, p'h, p'z⟩ := cells4 x.below pz pa pb pc pg pd pe pf ph
      clear pa pb pc pd pe pf pg ph pz
      obtain ⟨r'a, r'b, r'c, r'g, r'd, r'e, r'f, r'h, r'z⟩ := cells4 x.below rz ra rb rc rg rd re rf rh
      clear ra rb rc rd re rf rg rh rz
      clear qa qb qc qd qe qf qg qh qz
      generalize x.at = w3 at *
      clear x hB hz W
      go_wp2_with fail
      refine (rpof_any p.a m _).mono ?_
      rintro e w4 ⟨rfl, hw4⟩
      have zw4 := hw4.size
      have bw4 := below_of (w := w) (by go_grown) hw4
      try simp at zw4
      obtain ⟨ra, rb, rc, rg, rd, re, rf, rh, rz⟩ := cells4 (b := w.heap.size + 1 + 1) hw4 (by go_size) (by go_simp <;> rfl) (by go_simp <;> rfl) (by go_simp <;> rfl) (by go_simp <;> rfl) (by go_simp <;> rfl) (by go_simp <;> rfl) (by go_simp <;> rfl) (by go_simp <;> rfl)
      clear hw4
      go_wp2
      refine bodyPost_ret (v := .tuple #[.agg #[.int .u64 (u (pof p.a m).a.hi), .int .u64 (u (pof p.a m).a.lo), .bool (pof p.a m).a.v6, .int .i64 (pof p.a m).n], .bool true]) (by simp [*, results, Try.results26, go_sem] <;> rfl) rfl ⟨by rw [← Hm.out], ?_⟩
      go_grown

set_option maxHeartbeats 1000000 in
theorem rpjoin_any (p q : Pf) (w : World) :
    Calls Try.prog 26 #[.agg #[.int .u64 (u p.a.hi), .int .u64 (u p.a.lo), .bool p.a.v6, .int .i64 p.n], .agg #[.int .u64 (u q.a.hi), .int .u64 (u q.a.lo), .bool q.a.v6, .int .i64 q.n]] w fun e w' => e = .returned (.tuple #[.agg #[.int .u64 (u (pjoin p q).1.a.hi), .int .u64 (u (pjoin p q).1.a.lo), .bool (pjoin p q).1.a.v6, .int .i64 (pjoin p q).1.n], .bool (pjoin p q).2]) ∧ Below w.heap.size w w' := by
  cases h1 : psane p
  · have hv : pjoin p q = (nilP, false) := by unfold pjoin; rw [if_neg]; simp [h1]
    rw [hv]
    have H1 := Lib.hid h1
    clear hv h1
    go_enter Try.func26, Try.ntmps26
    go_wp2_with fail
    refine (rpsane_any p _).mono ?_
    rintro e w1 ⟨rfl, hw1⟩
    have zw1 := hw1.size
    have bw1 := below_of (w := w) (by go_grown) hw1
    try simp at zw1
    rw [H1.out]
    obtain ⟨pa, pb, pc, pg, pd, pe, pf, ph, pz⟩ := cells4 (b := w.heap.size) hw1 (by go_size) (by go_simp <;> rfl) (by go_simp <;> rfl) (by go_simp <;> rfl) (by go_simp <;> rfl) (by go_simp <;> rfl) (by go_simp <;> rfl) (by go_simp <;> rfl) (by go_simp <;> rfl)
    obtain ⟨qa, qb, qc, qg, qd, qe, qf, qh, qz⟩ := cells4 (b := w.heap.size + 1) hw1 (by go_size) (by go_simp <;> rfl) (by go_simp <;> rfl) (by go_simp <;> rfl) (by go_simp <;> rfl) (by go_simp <;> rfl) (by go_simp <;> rfl) (by go_simp <;> rfl) (by go_simp <;> rfl)
    obtain ⟨ra, rb, rc, rg, rd, re, rf, rh, rz⟩ := cells4 (b := w.heap.size + 1 + 1) hw1 (by go_size) (by go_simp <;> rfl) (by go_simp <;> rfl) (by go_simp <;> rfl) (by go_simp <;> rfl) (by go_simp <;> rfl) (by go_simp <;> rfl) (by go_simp <;> rfl) (by go_simp <;> rfl)
    clear hw1
    go_wp2
    refine bodyPost_ret (v := .tuple #[.agg #[.int .u64 0, .int .u64 0, .bool false, .int .i64 0], .bool false]) (by simp [*, results, Try.results26, go_sem] <;> rfl) rfl ⟨rfl, ?_⟩
    go_grown
  · cases h2 : psane q
    · have hv : pjoin p q = (nilP, false) := by unfold pjoin; rw [if_neg]; simp [h2]
      rw [hv]
      have H1 := Lib.hid h1
      have H2 := Lib.hid h2
      clear hv h1 h2
      go_enter Try.func26, Try.ntmps26
      go_wp2_with fail
      refine (rpsane_any p _).mono ?_
      rintro e w1 ⟨rfl, hw1⟩
      have zw1 := hw1.size
      have bw1 := below_of (w := w) (by go_grown) hw1
      try simp at zw1
      rw [H1.out]
      obtain ⟨pa, pb, pc, pg, pd, pe, pf, ph, pz⟩ := cells4 (b := w.heap.size) hw1 (by go_size) (by go_simp <;> rfl) (by go_simp <;> rfl) (by go_simp <;> rfl) (by go_simp <;> rfl) (by go_simp <;> rfl) (by go_simp <;> rfl) (by go_simp <;> rfl) (by go_simp <;> rfl)
      obtain ⟨qa, qb, qc, qg, qd, qe, qf, qh, qz⟩ := cells4 (b := w.heap.size + 1) hw1 (by go_size) (by go_simp <;> rfl) (by go_simp <;> rfl) (by go_simp <;> rfl) (by go_simp <;> rfl) (by go_simp <;> rfl) (by go_simp <;> rfl) (by go_simp <;> rfl) (by go_simp <;> rfl)
      obtain ⟨ra, rb, rc, rg, rd, re, rf, rh, rz⟩ := cells4 (b := w.heap.size + 1 + 1) hw1 (by go_size) (by go_simp <;> rfl) (by go_simp <;> rfl) (by go_simp <;> rfl) (by go_simp <;> rfl) (by go_simp <;> rfl) (by go_simp <;> rfl) (by go_simp <;> rfl) (by go_simp <;> rfl)
      clear hw1
      go_wp2_with fail
      refine (rpsane_any q _).mono ?_
      rintro e w2 ⟨rfl, hw2⟩
      have zw2 := hw2.size
      have bw2 := below_of (w := w) (by go_grown) hw2
      try simp at zw2
      rw [H2.out]
      obtain ⟨p'a, p'b, p'c, p'g, p'd, p'e, p'f, p'h, p'z⟩ := cells4 (b := w.heap.size) hw2 (by go_size) (by go_simp <;> rfl) (by go_simp <;> rfl) (by go_simp <;> rfl) (by go_simp <;> rfl) (by go_simp <;> rfl) (by go_simp <;> rfl) (by go_simp <;> rfl) (by go_simp <;> rfl)
      obtain ⟨q'a, q'b, q'c, q'g, q'd, q'e, q'f, q'h, q'z⟩ := cells4 (b := w.heap.size + 1) hw2 (by go_size) (by go_simp <;> rfl) (by go_simp <;> rfl) (by go_simp <;> rfl) (by go_simp <;> rfl) (by go_simp <;> rfl) (by go_simp <;> rfl) (by go_simp <;> rfl) (by go_simp <;> rfl)
      obtain ⟨r'a, r'b, r'c, r'g, r'd, r'e, r'f, r'h, r'z⟩ := cells4 (b := w.heap.size + 1 + 1) hw2 (by go_size) (by go_simp <;> rfl) (by go_simp <;> rfl) (by go_simp <;> rfl) (by go_simp <;> rfl) (by go_simp <;> rfl) (by go_simp <;> rfl) (by go_simp <;> rfl) (by go_simp <;> rfl)
      clear hw2 pa pb pc pd pe pf pg ph pz qa qb qc qd qe qf qg qh qz ra rb rc rd re rf rg rh rz
      go_wp2
      refine bodyPost_ret (v := .tuple #[.agg #[.int .u64 0, .int .u64 0, .bool false, .int .i64 0], .bool false]) (by simp [*, results, Try.results26, go_sem] <;> rfl) rfl ⟨rfl, ?_⟩
      go_grown
    · by_cases hv6 : p.a.v6 = q.a.v6
      · have hv : pjoin p q = (pof p.a (jm p q), true) := by unfold pjoin; rw [if_pos ⟨h1, h2, hv6⟩]; rfl
        rw [hv]
        by_cases c1 : q.n < p.n
        · exact rpjoin_q p q w h1 h2 hv6 c1
        · exact rpjoin_p p q w h1 h2 hv6 c1
      · have hv : pjoin p q = (nilP, false) := by unfold pjoin; rw [if_neg]; simp [hv6]
        rw [hv]
        have H1 := Lib.hid h1
        have H2 := Lib.hid h2
        have hv' : (p.a.v6 == q.a.v6) = false := by simp [hv6]
        clear hv h1 h2 hv6
        go_enter Try.func26, Try.ntmps26
        go_wp2_with fail
        refine (rpsane_any p _).mono ?_
        rintro e w1 ⟨rfl, hw1⟩
        have zw1 := hw1.size
        have bw1 := below_of (w := w) (by go_grown) hw1
        try simp at zw1
        rw [H1.out]
        obtain ⟨pa, pb, pc, pg, pd, pe, pf, ph, pz⟩ := cells4 (b := w.heap.size) hw1 (by go_size) (by go_simp <;> rfl) (by go_simp <;> rfl) (by go_simp <;> rfl) (by go_simp <;> rfl) (by go_simp <;> rfl) (by go_simp <;> rfl) (by go_simp <;> rfl) (by go_simp <;> rfl)
        obtain ⟨qa, qb, qc, qg, qd, qe, qf, qh, qz⟩ := cells4 (b := w.heap.size + 1) hw1 (by go_size) (by go_simp <;> rfl) (by go_simp <;> rfl) (by go_simp <;> rfl) (by go_simp <;> rfl) (by go_simp <;> rfl) (by go_simp <;> rfl) (by go_simp <;> rfl) (by go_simp <;> rfl)
        obtain ⟨ra, rb, rc, rg, rd, re, rf, rh, rz⟩ := cells4 (b := w.heap.size + 1 + 1) hw1 (by go_size) (by go_simp <;> rfl) (by go_simp <;> rfl) (by go_simp <;> rfl) (by go_simp <;> rfl) (by go_simp <;> rfl) (by go_simp <;> rfl) (by go_simp <;> rfl) (by go_simp <;> rfl)
        clear hw1
        go_wp2_with fail
        refine (rpsane_any q _).mono ?_
        rintro e w2 ⟨rfl, hw2⟩
        have zw2 := hw2.size
        have bw2 := below_of (w := w) (by go_grown) hw2
        try simp at zw2
        rw [H2.out]
        obtain ⟨p'a, p'b, p'c, p'g, p'd, p'e, p'f, p'h, p'z⟩ := cells4 (b := w.heap.size) hw2 (by go_size) (by go_simp <;> rfl) (by go_simp <;> rfl) (by go_simp <;> rfl) (by go_simp <;> rfl) (by go_simp <;> rfl) (by go_simp <;> rfl) (by go_simp <;> rfl) (by go_simp <;> rfl)
        obtain ⟨q'a, q'b, q'c, q'g, q'd, q'e, q'f, q'h, q'z⟩ := cells4 (b := w.heap.size + 1) hw2 (by go_size) (by go_simp <;> rfl) (by go_simp <;> rfl) (by go_simp <;> rfl) (by go_simp <;> rfl) (by go_simp <;> rfl) (by go_simp <;> rfl) (by go_simp <;> rfl) (by go_simp <;> rfl)
        obtain ⟨r'a, r'b, r'c, r'g, r'd, r'e, r'f, r'h, r'z⟩ := cells4 (b := w.heap.size + 1 + 1) hw2 (by go_size) (by go_simp <;> rfl) (by go_simp <;> rfl) (by go_simp <;> rfl) (by go_simp <;> rfl) (by go_simp <;> rfl) (by go_simp <;> rfl) (by go_simp <;> rfl) (by go_simp <;> rfl)
        clear hw2 pa pb pc pd pe pf pg ph pz qa qb qc qd qe qf qg qh qz ra rb rc rd re rf rg rh rz
        go_wp2
        refine bodyPost_ret (v := .tuple #[.agg #[.int .u64 0, .int .u64 0, .bool false, .int .i64 0], .bool false]) (by simp [*, results, Try.results26, go_sem] <;> rfl) rfl ⟨rfl, ?_⟩
        go_grown

end Go.Proofs.Ytongbfnndphdaaa
