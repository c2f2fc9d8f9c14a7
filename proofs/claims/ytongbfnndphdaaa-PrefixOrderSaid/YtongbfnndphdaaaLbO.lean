/-
  PrefixOrder returns true, whatever three prefixes. No condition.
-/
import Derived.Test.YtongbfnndphdaaaMathR
import Derived.Test.YtongbfnndphdaaaPi
import Derived.Test.YtongbfnndphdaaaLbT
namespace Go.Proofs.Ytongbfnndphdaaa
open Go.RowKit

set_option maxHeartbeats 4000000 in
set_option maxRecDepth 100000 in
theorem porder_law (p q r : Pf) (w : World) :
    Calls Try.prog 8 #[.agg #[.int .u64 (u p.a.hi), .int .u64 (u p.a.lo), .bool p.a.v6, .int .i64 p.n], .agg #[.int .u64 (u q.a.hi), .int .u64 (u q.a.lo), .bool q.a.v6, .int .i64 q.n], .agg #[.int .u64 (u r.a.hi), .int .u64 (u r.a.lo), .bool r.a.v6, .int .i64 r.n]] w fun e w' => e = .returned (.bool true) ∧ Below w.heap.size w w' := by
  obtain ⟨x0, x1⟩ := pcmp_bd p q
  have hqp := fun W : World => pcmp_any q p W
  rw [pcmp_anti p q] at hqp
  have HQ := Lib.hid hqp
  have HT := Lib.hid (pcmp_trans p q r)
  clear hqp
  go_enter Try.func8, Try.ntmps8
  go_wp2_with fail
  refine (awake2_any _).mono ?_
  rintro e w1 ⟨rfl, hw1⟩
  have zw1 := hw1.size
  have bw1 := below_of (w := w) (by go_grown) hw1
  try simp at zw1
  obtain ⟨p1a, p1b, p1c, p1g, p1d, p1e, p1f, p1h, p1z⟩ := cells4 (b := w.heap.size) hw1 (by go_size) (by go_simp <;> rfl) (by go_simp <;> rfl) (by go_simp <;> rfl) (by go_simp <;> rfl) (by go_simp <;> rfl) (by go_simp <;> rfl) (by go_simp <;> rfl) (by go_simp <;> rfl)
  obtain ⟨q1a, q1b, q1c, q1g, q1d, q1e, q1f, q1h, q1z⟩ := cells4 (b := w.heap.size + 1) hw1 (by go_size) (by go_simp <;> rfl) (by go_simp <;> rfl) (by go_simp <;> rfl) (by go_simp <;> rfl) (by go_simp <;> rfl) (by go_simp <;> rfl) (by go_simp <;> rfl) (by go_simp <;> rfl)
  obtain ⟨r1a, r1b, r1c, r1g, r1d, r1e, r1f, r1h, r1z⟩ := cells4 (b := w.heap.size + 1 + 1) hw1 (by go_size) (by go_simp <;> rfl) (by go_simp <;> rfl) (by go_simp <;> rfl) (by go_simp <;> rfl) (by go_simp <;> rfl) (by go_simp <;> rfl) (by go_simp <;> rfl) (by go_simp <;> rfl)
  clear hw1
  go_wp2_with fail
  refine (pcmp_any p q _).mono ?_
  rintro e w2 ⟨rfl, hw2⟩
  have zw2 := hw2.size
  have bw2 := below_of (w := w) (by go_grown) hw2
  try simp at zw2
  obtain ⟨p2a, p2b, p2c, p2g, p2d, p2e, p2f, p2h, p2z⟩ := cells4 (b := w.heap.size) hw2 (by go_size) (by go_simp <;> rfl) (by go_simp <;> rfl) (by go_simp <;> rfl) (by go_simp <;> rfl) (by go_simp <;> rfl) (by go_simp <;> rfl) (by go_simp <;> rfl) (by go_simp <;> rfl)
  obtain ⟨q2a, q2b, q2c, q2g, q2d, q2e, q2f, q2h, q2z⟩ := cells4 (b := w.heap.size + 1) hw2 (by go_size) (by go_simp <;> rfl) (by go_simp <;> rfl) (by go_simp <;> rfl) (by go_simp <;> rfl) (by go_simp <;> rfl) (by go_simp <;> rfl) (by go_simp <;> rfl) (by go_simp <;> rfl)
  obtain ⟨r2a, r2b, r2c, r2g, r2d, r2e, r2f, r2h, r2z⟩ := cells4 (b := w.heap.size + 1 + 1) hw2 (by go_size) (by go_simp <;> rfl) (by go_simp <;> rfl) (by go_simp <;> rfl) (by go_simp <;> rfl) (by go_simp <;> rfl) (by go_simp <;> rfl) (by go_simp <;> rfl) (by go_simp <;> rfl)
  clear p1a p1b p1c p1g p1d p1e p1f p1h p1z q1a q1b q1c q1g q1d q1e q1f q1h q1z r1a r1b r1c r1g r1d r1e r1f r1h r1z hw2
  go_upto_region 3 with fail
  go_cut [34] (fun s wx => s = .bool false ∧ Three w p q r wx)
  case first =>
    go_wp2_with fail
    refine (HQ.out _).mono ?_
    rintro e w3 ⟨rfl, hw3⟩
    have zw3 := hw3.size
    have bw3 := below_of (w := w) (by go_grown) hw3
    try simp at zw3
    obtain ⟨p3a, p3b, p3c, p3g, p3d, p3e, p3f, p3h, p3z⟩ := cells4 (b := w.heap.size) hw3 (by go_size) (by go_simp <;> rfl) (by go_simp <;> rfl) (by go_simp <;> rfl) (by go_simp <;> rfl) (by go_simp <;> rfl) (by go_simp <;> rfl) (by go_simp <;> rfl) (by go_simp <;> rfl)
    obtain ⟨q3a, q3b, q3c, q3g, q3d, q3e, q3f, q3h, q3z⟩ := cells4 (b := w.heap.size + 1) hw3 (by go_size) (by go_simp <;> rfl) (by go_simp <;> rfl) (by go_simp <;> rfl) (by go_simp <;> rfl) (by go_simp <;> rfl) (by go_simp <;> rfl) (by go_simp <;> rfl) (by go_simp <;> rfl)
    obtain ⟨r3a, r3b, r3c, r3g, r3d, r3e, r3f, r3h, r3z⟩ := cells4 (b := w.heap.size + 1 + 1) hw3 (by go_size) (by go_simp <;> rfl) (by go_simp <;> rfl) (by go_simp <;> rfl) (by go_simp <;> rfl) (by go_simp <;> rfl) (by go_simp <;> rfl) (by go_simp <;> rfl) (by go_simp <;> rfl)
    clear p2a p2b p2c p2g p2d p2e p2f p2h p2z q2a q2b q2c q2g q2d q2e q2f q2h q2z r2a r2b r2c r2g r2d r2e r2f r2h r2z hw3
    by_cases h1 : pcmp p q ≤ 0
    · have d1 : decide (pcmp p q ≤ 0) = true := by simp [h1]
      go_wp2_with fail
      refine (pcmp_any q r _).mono ?_
      rintro e w4 ⟨rfl, hw4⟩
      have zw4 := hw4.size
      have bw4 := below_of (w := w) (by go_grown) hw4
      try simp at zw4
      obtain ⟨p4a, p4b, p4c, p4g, p4d, p4e, p4f, p4h, p4z⟩ := cells4 (b := w.heap.size) hw4 (by go_size) (by go_simp <;> rfl) (by go_simp <;> rfl) (by go_simp <;> rfl) (by go_simp <;> rfl) (by go_simp <;> rfl) (by go_simp <;> rfl) (by go_simp <;> rfl) (by go_simp <;> rfl)
      obtain ⟨q4a, q4b, q4c, q4g, q4d, q4e, q4f, q4h, q4z⟩ := cells4 (b := w.heap.size + 1) hw4 (by go_size) (by go_simp <;> rfl) (by go_simp <;> rfl) (by go_simp <;> rfl) (by go_simp <;> rfl) (by go_simp <;> rfl) (by go_simp <;> rfl) (by go_simp <;> rfl) (by go_simp <;> rfl)
      obtain ⟨r4a, r4b, r4c, r4g, r4d, r4e, r4f, r4h, r4z⟩ := cells4 (b := w.heap.size + 1 + 1) hw4 (by go_size) (by go_simp <;> rfl) (by go_simp <;> rfl) (by go_simp <;> rfl) (by go_simp <;> rfl) (by go_simp <;> rfl) (by go_simp <;> rfl) (by go_simp <;> rfl) (by go_simp <;> rfl)
      clear p3a p3b p3c p3g p3d p3e p3f p3h p3z q3a q3b q3c q3g q3d q3e q3f q3h q3z r3a r3b r3c r3g r3d r3e r3f r3h r3z hw4
      by_cases h2 : pcmp q r ≤ 0
      · have d2 : decide (pcmp q r ≤ 0) = true := by simp [h2]
        have h3 := HT.out h1 h2
        have d3 : decide (0 < pcmp p r) = false := by simp; omega
        go_wp2_with fail
        refine (pcmp_any p r _).mono ?_
        rintro e w5 ⟨rfl, hw5⟩
        have zw5 := hw5.size
        have bw5 := below_of (w := w) (by go_grown) hw5
        try simp at zw5
        obtain ⟨p5a, p5b, p5c, p5g, p5d, p5e, p5f, p5h, p5z⟩ := cells4 (b := w.heap.size) hw5 (by go_size) (by go_simp <;> rfl) (by go_simp <;> rfl) (by go_simp <;> rfl) (by go_simp <;> rfl) (by go_simp <;> rfl) (by go_simp <;> rfl) (by go_simp <;> rfl) (by go_simp <;> rfl)
        obtain ⟨q5a, q5b, q5c, q5g, q5d, q5e, q5f, q5h, q5z⟩ := cells4 (b := w.heap.size + 1) hw5 (by go_size) (by go_simp <;> rfl) (by go_simp <;> rfl) (by go_simp <;> rfl) (by go_simp <;> rfl) (by go_simp <;> rfl) (by go_simp <;> rfl) (by go_simp <;> rfl) (by go_simp <;> rfl)
        obtain ⟨r5a, r5b, r5c, r5g, r5d, r5e, r5f, r5h, r5z⟩ := cells4 (b := w.heap.size + 1 + 1) hw5 (by go_size) (by go_simp <;> rfl) (by go_simp <;> rfl) (by go_simp <;> rfl) (by go_simp <;> rfl) (by go_simp <;> rfl) (by go_simp <;> rfl) (by go_simp <;> rfl) (by go_simp <;> rfl)
        clear p4a p4b p4c p4g p4d p4e p4f p4h p4z q4a q4b q4c q4g q4d q4e q4f q4h q4z r4a r4b r4c r4g r4d r4e r4f r4h r4z hw5
        go_wp2_with fail
        go_meet
        exact ⟨rfl, ⟨p5a, p5b, p5c, p5g, p5d, p5e, p5f, p5h, p5z⟩, ⟨q5a, q5b, q5c, q5g, q5d, q5e, q5f, q5h, q5z⟩, ⟨r5a, r5b, r5c, r5g, r5d, r5e, r5f, r5h, r5z⟩, bw5⟩
      · have d2 : decide (pcmp q r ≤ 0) = false := by simp [h2]
        go_wp2_with fail
        go_meet
        exact ⟨rfl, ⟨p4a, p4b, p4c, p4g, p4d, p4e, p4f, p4h, p4z⟩, ⟨q4a, q4b, q4c, q4g, q4d, q4e, q4f, q4h, q4z⟩, ⟨r4a, r4b, r4c, r4g, r4d, r4e, r4f, r4h, r4z⟩, bw4⟩
    · have d1 : decide (pcmp p q ≤ 0) = false := by simp [h1]
      go_wp2_with fail
      go_meet
      exact ⟨rfl, ⟨p3a, p3b, p3c, p3g, p3d, p3e, p3f, p3h, p3z⟩, ⟨q3a, q3b, q3c, q3g, q3d, q3e, q3f, q3h, q3z⟩, ⟨r3a, r3b, r3c, r3g, r3d, r3e, r3f, r3h, r3z⟩, bw3⟩
  case rest =>
    clear p2a p2b p2c p2g p2d p2e p2f p2h p2z q2a q2b q2c q2g q2d q2e q2f q2h q2z r2a r2b r2c r2g r2d r2e r2f r2h r2z
    obtain ⟨rfl, ⟨p6a, p6b, p6c, p6g, p6d, p6e, p6f, p6h, p6z⟩, ⟨q6a, q6b, q6c, q6g, q6d, q6e, q6f, q6h, q6z⟩, ⟨r6a, r6b, r6c, r6g, r6d, r6e, r6f, r6h, r6z⟩, hB⟩ := hcut
    clear bw1 bw2 zw1 zw2 HQ
    obtain ⟨w6, rfl⟩ : ∃ w6, w6 = wc := ⟨_, rfl⟩
    have zc := hB.size
    go_upto_region 5 with fail
    go_cut [55] (fun s wx => s = .bool false ∧ Three w p q r wx)
    case first =>
      go_wp2_with fail
      refine (pcov_any p q _).mono ?_
      rintro e w3 ⟨rfl, hw3⟩
      have zw3 := hw3.size
      have bw3 := below_of (w := w) (by go_grown) hw3
      try simp at zw3
      obtain ⟨p7a, p7b, p7c, p7g, p7d, p7e, p7f, p7h, p7z⟩ := cells4 (b := w.heap.size) hw3 (by go_size) (by go_simp <;> rfl) (by go_simp <;> rfl) (by go_simp <;> rfl) (by go_simp <;> rfl) (by go_simp <;> rfl) (by go_simp <;> rfl) (by go_simp <;> rfl) (by go_simp <;> rfl)
      obtain ⟨q7a, q7b, q7c, q7g, q7d, q7e, q7f, q7h, q7z⟩ := cells4 (b := w.heap.size + 1) hw3 (by go_size) (by go_simp <;> rfl) (by go_simp <;> rfl) (by go_simp <;> rfl) (by go_simp <;> rfl) (by go_simp <;> rfl) (by go_simp <;> rfl) (by go_simp <;> rfl) (by go_simp <;> rfl)
      obtain ⟨r7a, r7b, r7c, r7g, r7d, r7e, r7f, r7h, r7z⟩ := cells4 (b := w.heap.size + 1 + 1) hw3 (by go_size) (by go_simp <;> rfl) (by go_simp <;> rfl) (by go_simp <;> rfl) (by go_simp <;> rfl) (by go_simp <;> rfl) (by go_simp <;> rfl) (by go_simp <;> rfl) (by go_simp <;> rfl)
      clear p6a p6b p6c p6g p6d p6e p6f p6h p6z q6a q6b q6c q6g q6d q6e q6f q6h q6z r6a r6b r6c r6g r6d r6e r6f r6h r6z hw3
      cases cA : pcov p q
      · go_wp2_with fail
        refine (papa_any p q _).mono ?_
        rintro e w4 ⟨rfl, hw4⟩
        have zw4 := hw4.size
        have bw4 := below_of (w := w) (by go_grown) hw4
        try simp at zw4
        obtain ⟨p8a, p8b, p8c, p8g, p8d, p8e, p8f, p8h, p8z⟩ := cells4 (b := w.heap.size) hw4 (by go_size) (by go_simp <;> rfl) (by go_simp <;> rfl) (by go_simp <;> rfl) (by go_simp <;> rfl) (by go_simp <;> rfl) (by go_simp <;> rfl) (by go_simp <;> rfl) (by go_simp <;> rfl)
        obtain ⟨q8a, q8b, q8c, q8g, q8d, q8e, q8f, q8h, q8z⟩ := cells4 (b := w.heap.size + 1) hw4 (by go_size) (by go_simp <;> rfl) (by go_simp <;> rfl) (by go_simp <;> rfl) (by go_simp <;> rfl) (by go_simp <;> rfl) (by go_simp <;> rfl) (by go_simp <;> rfl) (by go_simp <;> rfl)
        obtain ⟨r8a, r8b, r8c, r8g, r8d, r8e, r8f, r8h, r8z⟩ := cells4 (b := w.heap.size + 1 + 1) hw4 (by go_size) (by go_simp <;> rfl) (by go_simp <;> rfl) (by go_simp <;> rfl) (by go_simp <;> rfl) (by go_simp <;> rfl) (by go_simp <;> rfl) (by go_simp <;> rfl) (by go_simp <;> rfl)
        clear p7a p7b p7c p7g p7d p7e p7f p7h p7z q7a q7b q7c q7g q7d q7e q7f q7h q7z r7a r7b r7c r7g r7d r7e r7f r7h r7z hw4
        cases cB : papa p q
        · go_wp2_with fail
          go_meet
          exact ⟨rfl, ⟨p8a, p8b, p8c, p8g, p8d, p8e, p8f, p8h, p8z⟩, ⟨q8a, q8b, q8c, q8g, q8d, q8e, q8f, q8h, q8z⟩, ⟨r8a, r8b, r8c, r8g, r8d, r8e, r8f, r8h, r8z⟩, bw4⟩
        · have hcc := fun W : World => cmp_any p.a q.a W
          rw [← apa_cmp cB] at hcc
          have HC := Lib.hid hcc
          clear hcc
          go_wp2_with fail
          refine (HC.out _).mono ?_
          rintro e w5 ⟨rfl, hw5⟩
          have zw5 := hw5.size
          have bw5 := below_of (w := w) (by go_grown) hw5
          try simp at zw5
          obtain ⟨p9a, p9b, p9c, p9g, p9d, p9e, p9f, p9h, p9z⟩ := cells4 (b := w.heap.size) hw5 (by go_size) (by go_simp <;> rfl) (by go_simp <;> rfl) (by go_simp <;> rfl) (by go_simp <;> rfl) (by go_simp <;> rfl) (by go_simp <;> rfl) (by go_simp <;> rfl) (by go_simp <;> rfl)
          obtain ⟨q9a, q9b, q9c, q9g, q9d, q9e, q9f, q9h, q9z⟩ := cells4 (b := w.heap.size + 1) hw5 (by go_size) (by go_simp <;> rfl) (by go_simp <;> rfl) (by go_simp <;> rfl) (by go_simp <;> rfl) (by go_simp <;> rfl) (by go_simp <;> rfl) (by go_simp <;> rfl) (by go_simp <;> rfl)
          obtain ⟨r9a, r9b, r9c, r9g, r9d, r9e, r9f, r9h, r9z⟩ := cells4 (b := w.heap.size + 1 + 1) hw5 (by go_size) (by go_simp <;> rfl) (by go_simp <;> rfl) (by go_simp <;> rfl) (by go_simp <;> rfl) (by go_simp <;> rfl) (by go_simp <;> rfl) (by go_simp <;> rfl) (by go_simp <;> rfl)
          clear p8a p8b p8c p8g p8d p8e p8f p8h p8z q8a q8b q8c q8g q8d q8e q8f q8h q8z r8a r8b r8c r8g r8d r8e r8f r8h r8z hw5
          go_wp2_with fail
          go_meet
          exact ⟨rfl, ⟨p9a, p9b, p9c, p9g, p9d, p9e, p9f, p9h, p9z⟩, ⟨q9a, q9b, q9c, q9g, q9d, q9e, q9f, q9h, q9z⟩, ⟨r9a, r9b, r9c, r9g, r9d, r9e, r9f, r9h, r9z⟩, bw5⟩
      · have h1 := cov_cmp cA
        have d1 : decide (0 < pcmp p q) = false := by simp; omega
        have cB := cov_apa cA
        go_wp2_with fail
        refine (papa_any p q _).mono ?_
        rintro e w4 ⟨rfl, hw4⟩
        have zw4 := hw4.size
        have bw4 := below_of (w := w) (by go_grown) hw4
        try simp at zw4
        obtain ⟨p10a, p10b, p10c, p10g, p10d, p10e, p10f, p10h, p10z⟩ := cells4 (b := w.heap.size) hw4 (by go_size) (by go_simp <;> rfl) (by go_simp <;> rfl) (by go_simp <;> rfl) (by go_simp <;> rfl) (by go_simp <;> rfl) (by go_simp <;> rfl) (by go_simp <;> rfl) (by go_simp <;> rfl)
        obtain ⟨q10a, q10b, q10c, q10g, q10d, q10e, q10f, q10h, q10z⟩ := cells4 (b := w.heap.size + 1) hw4 (by go_size) (by go_simp <;> rfl) (by go_simp <;> rfl) (by go_simp <;> rfl) (by go_simp <;> rfl) (by go_simp <;> rfl) (by go_simp <;> rfl) (by go_simp <;> rfl) (by go_simp <;> rfl)
        obtain ⟨r10a, r10b, r10c, r10g, r10d, r10e, r10f, r10h, r10z⟩ := cells4 (b := w.heap.size + 1 + 1) hw4 (by go_size) (by go_simp <;> rfl) (by go_simp <;> rfl) (by go_simp <;> rfl) (by go_simp <;> rfl) (by go_simp <;> rfl) (by go_simp <;> rfl) (by go_simp <;> rfl) (by go_simp <;> rfl)
        clear p7a p7b p7c p7g p7d p7e p7f p7h p7z q7a q7b q7c q7g q7d q7e q7f q7h q7z r7a r7b r7c r7g r7d r7e r7f r7h r7z hw4
        go_wp2_with fail
        go_meet
        exact ⟨rfl, ⟨p10a, p10b, p10c, p10g, p10d, p10e, p10f, p10h, p10z⟩, ⟨q10a, q10b, q10c, q10g, q10d, q10e, q10f, q10h, q10z⟩, ⟨r10a, r10b, r10c, r10g, r10d, r10e, r10f, r10h, r10z⟩, bw4⟩
    case rest =>
      clear p6a p6b p6c p6g p6d p6e p6f p6h p6z q6a q6b q6c q6g q6d q6e q6f q6h q6z r6a r6b r6c r6g r6d r6e r6f r6h r6z hB zc
      obtain ⟨rfl, ⟨p11a, p11b, p11c, p11g, p11d, p11e, p11f, p11h, p11z⟩, ⟨q11a, q11b, q11c, q11g, q11d, q11e, q11f, q11h, q11z⟩, ⟨r11a, r11b, r11c, r11g, r11d, r11e, r11f, r11h, r11z⟩, hB⟩ := hcut
      obtain ⟨w7, rfl⟩ : ∃ w7, w7 = wc := ⟨_, rfl⟩
      have zc := hB.size
      go_wp2_with fail
      refine (psane_any p _).mono ?_
      rintro e w8 ⟨rfl, hw8⟩
      have zw8 := hw8.size
      have bw8 := below_of (w := w) (by go_grown) hw8
      try simp at zw8
      obtain ⟨p12a, p12b, p12c, p12g, p12d, p12e, p12f, p12h, p12z⟩ := cells4 (b := w.heap.size) hw8 (by go_size) (by go_simp <;> rfl) (by go_simp <;> rfl) (by go_simp <;> rfl) (by go_simp <;> rfl) (by go_simp <;> rfl) (by go_simp <;> rfl) (by go_simp <;> rfl) (by go_simp <;> rfl)
      obtain ⟨q12a, q12b, q12c, q12g, q12d, q12e, q12f, q12h, q12z⟩ := cells4 (b := w.heap.size + 1) hw8 (by go_size) (by go_simp <;> rfl) (by go_simp <;> rfl) (by go_simp <;> rfl) (by go_simp <;> rfl) (by go_simp <;> rfl) (by go_simp <;> rfl) (by go_simp <;> rfl) (by go_simp <;> rfl)
      obtain ⟨r12a, r12b, r12c, r12g, r12d, r12e, r12f, r12h, r12z⟩ := cells4 (b := w.heap.size + 1 + 1) hw8 (by go_size) (by go_simp <;> rfl) (by go_simp <;> rfl) (by go_simp <;> rfl) (by go_simp <;> rfl) (by go_simp <;> rfl) (by go_simp <;> rfl) (by go_simp <;> rfl) (by go_simp <;> rfl)
      clear p11a p11b p11c p11g p11d p11e p11f p11h p11z q11a q11b q11c q11g q11d q11e q11f q11h q11z r11a r11b r11c r11g r11d r11e r11f r11h r11z hw8
      cases s1 : psane p
      · go_wp2
        go_ret
        exact ⟨rfl, bw8⟩
      · go_wp2_with fail
        refine (psane_any q _).mono ?_
        rintro e w9 ⟨rfl, hw9⟩
        have zw9 := hw9.size
        have bw9 := below_of (w := w) (by go_grown) hw9
        try simp at zw9
        obtain ⟨p13a, p13b, p13c, p13g, p13d, p13e, p13f, p13h, p13z⟩ := cells4 (b := w.heap.size) hw9 (by go_size) (by go_simp <;> rfl) (by go_simp <;> rfl) (by go_simp <;> rfl) (by go_simp <;> rfl) (by go_simp <;> rfl) (by go_simp <;> rfl) (by go_simp <;> rfl) (by go_simp <;> rfl)
        obtain ⟨q13a, q13b, q13c, q13g, q13d, q13e, q13f, q13h, q13z⟩ := cells4 (b := w.heap.size + 1) hw9 (by go_size) (by go_simp <;> rfl) (by go_simp <;> rfl) (by go_simp <;> rfl) (by go_simp <;> rfl) (by go_simp <;> rfl) (by go_simp <;> rfl) (by go_simp <;> rfl) (by go_simp <;> rfl)
        obtain ⟨r13a, r13b, r13c, r13g, r13d, r13e, r13f, r13h, r13z⟩ := cells4 (b := w.heap.size + 1 + 1) hw9 (by go_size) (by go_simp <;> rfl) (by go_simp <;> rfl) (by go_simp <;> rfl) (by go_simp <;> rfl) (by go_simp <;> rfl) (by go_simp <;> rfl) (by go_simp <;> rfl) (by go_simp <;> rfl)
        clear p12a p12b p12c p12g p12d p12e p12f p12h p12z q12a q12b q12c q12g q12d q12e q12f q12h q12z r12a r12b r12c r12g r12d r12e r12f r12h r12z hw9
        cases s2 : psane q
        · go_wp2
          go_ret
          exact ⟨rfl, bw9⟩
        · have hz : (pcmp p q == 0) = pfB (u p.a.hi) (u p.a.lo) p.a.v6 p.n (u q.a.hi) (u q.a.lo) q.a.v6 q.n := pcmp_zero s1 s2
          go_wp2
          go_ret
          exact ⟨rfl, bw9⟩

end Go.Proofs.Ytongbfnndphdaaa
