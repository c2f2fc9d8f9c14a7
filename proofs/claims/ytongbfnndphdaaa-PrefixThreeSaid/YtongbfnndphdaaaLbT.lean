/-
  PrefixThree returns true, whatever three prefixes. No condition.
-/
import Derived.Test.YtongbfnndphdaaaMathQ
import Derived.Test.YtongbfnndphdaaaPj
import Derived.Test.YtongbfnndphdaaaPbx
namespace Go.Proofs.Ytongbfnndphdaaa
open Go.RowKit

/-- Three prefixes lie in the first three blocks. -/
def Three (w : World) (p q r : Pf) (wx : World) : Prop := PBox wx w.heap.size p ∧ PBox wx (w.heap.size + 1) q ∧ PBox wx (w.heap.size + 1 + 1) r ∧ Below w.heap.size w wx

set_option maxHeartbeats 2000000 in
set_option maxRecDepth 100000 in
theorem pthree_not (p q r : Pf) (w : World) (h : ¬ (psane p = true ∧ psane q = true ∧ psane r = true)) :
    Calls Try.prog 5 #[.agg #[.int .u64 (u p.a.hi), .int .u64 (u p.a.lo), .bool p.a.v6, .int .i64 p.n], .agg #[.int .u64 (u q.a.hi), .int .u64 (u q.a.lo), .bool q.a.v6, .int .i64 q.n], .agg #[.int .u64 (u r.a.hi), .int .u64 (u r.a.lo), .bool r.a.v6, .int .i64 r.n]] w fun e w' => e = .returned (.bool true) ∧ Below w.heap.size w w' := by
  cases s1 : psane p
  · clear h
    go_enter Try.func5, Try.ntmps5
    go_wp2_with fail
    refine (awake2_any _).mono ?_
    rintro e w1 ⟨rfl, hw1⟩
    have zw1 := hw1.size
    have bw1 := below_of (w := w) (by go_grown) hw1
    try simp at zw1
    obtain ⟨p1a, p1b, p1c, p1g, p1d, p1e, p1f, p1h, p1z⟩ := cells4 (b := w.heap.size) hw1 (by go_size) (by go_simp <;> rfl) (by go_simp <;> rfl) (by go_simp <;> rfl) (by go_simp <;> rfl) (by go_simp <;> rfl) (by go_simp <;> rfl) (by go_simp <;> rfl) (by go_simp <;> rfl)
    obtain ⟨q1a, q1b, q1c, q1g, q1d, q1e, q1f, q1h, q1z⟩ := cells4 (b := w.heap.size + 1) hw1 (by go_size) (by go_simp <;> rfl) (by go_simp <;> rfl) (by go_simp <;> rfl) (by go_simp <;> rfl) (by go_simp <;> rfl) (by go_simp <;> rfl) (by go_simp <;> rfl) (by go_simp <;> rfl)
    obtain ⟨r1a, r1b, r1c, r1g, r1d, r1e, r1f, r1h, r1z⟩ := cells4 (b := w.heap.size + 1 + 1) hw1 (by go_size) (by go_simp <;> rfl) (by go_simp <;> rfl) (by go_simp <;> rfl) (by go_simp <;> rfl) (by go_simp <;> rfl) (by go_simp <;> rfl) (by go_simp <;> rfl) (by go_simp <;> rfl)
    clear hw1
    go_wp2_with fail
    refine (psane_any p _).mono ?_
    rintro e w2 ⟨rfl, hw2⟩
    have zw2 := hw2.size
    have bw2 := below_of (w := w) (by go_grown) hw2
    try simp at zw2
    obtain ⟨p2a, p2b, p2c, p2g, p2d, p2e, p2f, p2h, p2z⟩ := cells4 (b := w.heap.size) hw2 (by go_size) (by go_simp <;> rfl) (by go_simp <;> rfl) (by go_simp <;> rfl) (by go_simp <;> rfl) (by go_simp <;> rfl) (by go_simp <;> rfl) (by go_simp <;> rfl) (by go_simp <;> rfl)
    obtain ⟨q2a, q2b, q2c, q2g, q2d, q2e, q2f, q2h, q2z⟩ := cells4 (b := w.heap.size + 1) hw2 (by go_size) (by go_simp <;> rfl) (by go_simp <;> rfl) (by go_simp <;> rfl) (by go_simp <;> rfl) (by go_simp <;> rfl) (by go_simp <;> rfl) (by go_simp <;> rfl) (by go_simp <;> rfl)
    obtain ⟨r2a, r2b, r2c, r2g, r2d, r2e, r2f, r2h, r2z⟩ := cells4 (b := w.heap.size + 1 + 1) hw2 (by go_size) (by go_simp <;> rfl) (by go_simp <;> rfl) (by go_simp <;> rfl) (by go_simp <;> rfl) (by go_simp <;> rfl) (by go_simp <;> rfl) (by go_simp <;> rfl) (by go_simp <;> rfl)
    clear p1a p1b p1c p1g p1d p1e p1f p1h p1z q1a q1b q1c q1g q1d q1e q1f q1h q1z r1a r1b r1c r1g r1d r1e r1f r1h r1z hw2
    go_wp2
    go_ret
    exact ⟨rfl, bw2⟩
  · cases s2 : psane q
    · clear h
      go_enter Try.func5, Try.ntmps5
      go_wp2_with fail
      refine (awake2_any _).mono ?_
      rintro e w1 ⟨rfl, hw1⟩
      have zw1 := hw1.size
      have bw1 := below_of (w := w) (by go_grown) hw1
      try simp at zw1
      obtain ⟨p3a, p3b, p3c, p3g, p3d, p3e, p3f, p3h, p3z⟩ := cells4 (b := w.heap.size) hw1 (by go_size) (by go_simp <;> rfl) (by go_simp <;> rfl) (by go_simp <;> rfl) (by go_simp <;> rfl) (by go_simp <;> rfl) (by go_simp <;> rfl) (by go_simp <;> rfl) (by go_simp <;> rfl)
      obtain ⟨q3a, q3b, q3c, q3g, q3d, q3e, q3f, q3h, q3z⟩ := cells4 (b := w.heap.size + 1) hw1 (by go_size) (by go_simp <;> rfl) (by go_simp <;> rfl) (by go_simp <;> rfl) (by go_simp <;> rfl) (by go_simp <;> rfl) (by go_simp <;> rfl) (by go_simp <;> rfl) (by go_simp <;> rfl)
      obtain ⟨r3a, r3b, r3c, r3g, r3d, r3e, r3f, r3h, r3z⟩ := cells4 (b := w.heap.size + 1 + 1) hw1 (by go_size) (by go_simp <;> rfl) (by go_simp <;> rfl) (by go_simp <;> rfl) (by go_simp <;> rfl) (by go_simp <;> rfl) (by go_simp <;> rfl) (by go_simp <;> rfl) (by go_simp <;> rfl)
      clear hw1
      go_wp2_with fail
      refine (psane_any p _).mono ?_
      rintro e w2 ⟨rfl, hw2⟩
      have zw2 := hw2.size
      have bw2 := below_of (w := w) (by go_grown) hw2
      try simp at zw2
      obtain ⟨p4a, p4b, p4c, p4g, p4d, p4e, p4f, p4h, p4z⟩ := cells4 (b := w.heap.size) hw2 (by go_size) (by go_simp <;> rfl) (by go_simp <;> rfl) (by go_simp <;> rfl) (by go_simp <;> rfl) (by go_simp <;> rfl) (by go_simp <;> rfl) (by go_simp <;> rfl) (by go_simp <;> rfl)
      obtain ⟨q4a, q4b, q4c, q4g, q4d, q4e, q4f, q4h, q4z⟩ := cells4 (b := w.heap.size + 1) hw2 (by go_size) (by go_simp <;> rfl) (by go_simp <;> rfl) (by go_simp <;> rfl) (by go_simp <;> rfl) (by go_simp <;> rfl) (by go_simp <;> rfl) (by go_simp <;> rfl) (by go_simp <;> rfl)
      obtain ⟨r4a, r4b, r4c, r4g, r4d, r4e, r4f, r4h, r4z⟩ := cells4 (b := w.heap.size + 1 + 1) hw2 (by go_size) (by go_simp <;> rfl) (by go_simp <;> rfl) (by go_simp <;> rfl) (by go_simp <;> rfl) (by go_simp <;> rfl) (by go_simp <;> rfl) (by go_simp <;> rfl) (by go_simp <;> rfl)
      clear p3a p3b p3c p3g p3d p3e p3f p3h p3z q3a q3b q3c q3g q3d q3e q3f q3h q3z r3a r3b r3c r3g r3d r3e r3f r3h r3z hw2
      go_wp2_with fail
      refine (psane_any q _).mono ?_
      rintro e w3 ⟨rfl, hw3⟩
      have zw3 := hw3.size
      have bw3 := below_of (w := w) (by go_grown) hw3
      try simp at zw3
      obtain ⟨p5a, p5b, p5c, p5g, p5d, p5e, p5f, p5h, p5z⟩ := cells4 (b := w.heap.size) hw3 (by go_size) (by go_simp <;> rfl) (by go_simp <;> rfl) (by go_simp <;> rfl) (by go_simp <;> rfl) (by go_simp <;> rfl) (by go_simp <;> rfl) (by go_simp <;> rfl) (by go_simp <;> rfl)
      obtain ⟨q5a, q5b, q5c, q5g, q5d, q5e, q5f, q5h, q5z⟩ := cells4 (b := w.heap.size + 1) hw3 (by go_size) (by go_simp <;> rfl) (by go_simp <;> rfl) (by go_simp <;> rfl) (by go_simp <;> rfl) (by go_simp <;> rfl) (by go_simp <;> rfl) (by go_simp <;> rfl) (by go_simp <;> rfl)
      obtain ⟨r5a, r5b, r5c, r5g, r5d, r5e, r5f, r5h, r5z⟩ := cells4 (b := w.heap.size + 1 + 1) hw3 (by go_size) (by go_simp <;> rfl) (by go_simp <;> rfl) (by go_simp <;> rfl) (by go_simp <;> rfl) (by go_simp <;> rfl) (by go_simp <;> rfl) (by go_simp <;> rfl) (by go_simp <;> rfl)
      clear p4a p4b p4c p4g p4d p4e p4f p4h p4z q4a q4b q4c q4g q4d q4e q4f q4h q4z r4a r4b r4c r4g r4d r4e r4f r4h r4z hw3
      go_wp2
      go_ret
      exact ⟨rfl, bw3⟩
    · have s3 : psane r = false := bool_not fun h3 => h ⟨s1, s2, h3⟩
      clear h
      go_enter Try.func5, Try.ntmps5
      go_wp2_with fail
      refine (awake2_any _).mono ?_
      rintro e w1 ⟨rfl, hw1⟩
      have zw1 := hw1.size
      have bw1 := below_of (w := w) (by go_grown) hw1
      try simp at zw1
      obtain ⟨p6a, p6b, p6c, p6g, p6d, p6e, p6f, p6h, p6z⟩ := cells4 (b := w.heap.size) hw1 (by go_size) (by go_simp <;> rfl) (by go_simp <;> rfl) (by go_simp <;> rfl) (by go_simp <;> rfl) (by go_simp <;> rfl) (by go_simp <;> rfl) (by go_simp <;> rfl) (by go_simp <;> rfl)
      obtain ⟨q6a, q6b, q6c, q6g, q6d, q6e, q6f, q6h, q6z⟩ := cells4 (b := w.heap.size + 1) hw1 (by go_size) (by go_simp <;> rfl) (by go_simp <;> rfl) (by go_simp <;> rfl) (by go_simp <;> rfl) (by go_simp <;> rfl) (by go_simp <;> rfl) (by go_simp <;> rfl) (by go_simp <;> rfl)
      obtain ⟨r6a, r6b, r6c, r6g, r6d, r6e, r6f, r6h, r6z⟩ := cells4 (b := w.heap.size + 1 + 1) hw1 (by go_size) (by go_simp <;> rfl) (by go_simp <;> rfl) (by go_simp <;> rfl) (by go_simp <;> rfl) (by go_simp <;> rfl) (by go_simp <;> rfl) (by go_simp <;> rfl) (by go_simp <;> rfl)
      clear hw1
      go_wp2_with fail
      refine (psane_any p _).mono ?_
      rintro e w2 ⟨rfl, hw2⟩
      have zw2 := hw2.size
      have bw2 := below_of (w := w) (by go_grown) hw2
      try simp at zw2
      obtain ⟨p7a, p7b, p7c, p7g, p7d, p7e, p7f, p7h, p7z⟩ := cells4 (b := w.heap.size) hw2 (by go_size) (by go_simp <;> rfl) (by go_simp <;> rfl) (by go_simp <;> rfl) (by go_simp <;> rfl) (by go_simp <;> rfl) (by go_simp <;> rfl) (by go_simp <;> rfl) (by go_simp <;> rfl)
      obtain ⟨q7a, q7b, q7c, q7g, q7d, q7e, q7f, q7h, q7z⟩ := cells4 (b := w.heap.size + 1) hw2 (by go_size) (by go_simp <;> rfl) (by go_simp <;> rfl) (by go_simp <;> rfl) (by go_simp <;> rfl) (by go_simp <;> rfl) (by go_simp <;> rfl) (by go_simp <;> rfl) (by go_simp <;> rfl)
      obtain ⟨r7a, r7b, r7c, r7g, r7d, r7e, r7f, r7h, r7z⟩ := cells4 (b := w.heap.size + 1 + 1) hw2 (by go_size) (by go_simp <;> rfl) (by go_simp <;> rfl) (by go_simp <;> rfl) (by go_simp <;> rfl) (by go_simp <;> rfl) (by go_simp <;> rfl) (by go_simp <;> rfl) (by go_simp <;> rfl)
      clear p6a p6b p6c p6g p6d p6e p6f p6h p6z q6a q6b q6c q6g q6d q6e q6f q6h q6z r6a r6b r6c r6g r6d r6e r6f r6h r6z hw2
      go_wp2_with fail
      refine (psane_any q _).mono ?_
      rintro e w3 ⟨rfl, hw3⟩
      have zw3 := hw3.size
      have bw3 := below_of (w := w) (by go_grown) hw3
      try simp at zw3
      obtain ⟨p8a, p8b, p8c, p8g, p8d, p8e, p8f, p8h, p8z⟩ := cells4 (b := w.heap.size) hw3 (by go_size) (by go_simp <;> rfl) (by go_simp <;> rfl) (by go_simp <;> rfl) (by go_simp <;> rfl) (by go_simp <;> rfl) (by go_simp <;> rfl) (by go_simp <;> rfl) (by go_simp <;> rfl)
      obtain ⟨q8a, q8b, q8c, q8g, q8d, q8e, q8f, q8h, q8z⟩ := cells4 (b := w.heap.size + 1) hw3 (by go_size) (by go_simp <;> rfl) (by go_simp <;> rfl) (by go_simp <;> rfl) (by go_simp <;> rfl) (by go_simp <;> rfl) (by go_simp <;> rfl) (by go_simp <;> rfl) (by go_simp <;> rfl)
      obtain ⟨r8a, r8b, r8c, r8g, r8d, r8e, r8f, r8h, r8z⟩ := cells4 (b := w.heap.size + 1 + 1) hw3 (by go_size) (by go_simp <;> rfl) (by go_simp <;> rfl) (by go_simp <;> rfl) (by go_simp <;> rfl) (by go_simp <;> rfl) (by go_simp <;> rfl) (by go_simp <;> rfl) (by go_simp <;> rfl)
      clear p7a p7b p7c p7g p7d p7e p7f p7h p7z q7a q7b q7c q7g q7d q7e q7f q7h q7z r7a r7b r7c r7g r7d r7e r7f r7h r7z hw3
      go_wp2_with fail
      refine (psane_any r _).mono ?_
      rintro e w4 ⟨rfl, hw4⟩
      have zw4 := hw4.size
      have bw4 := below_of (w := w) (by go_grown) hw4
      try simp at zw4
      obtain ⟨p9a, p9b, p9c, p9g, p9d, p9e, p9f, p9h, p9z⟩ := cells4 (b := w.heap.size) hw4 (by go_size) (by go_simp <;> rfl) (by go_simp <;> rfl) (by go_simp <;> rfl) (by go_simp <;> rfl) (by go_simp <;> rfl) (by go_simp <;> rfl) (by go_simp <;> rfl) (by go_simp <;> rfl)
      obtain ⟨q9a, q9b, q9c, q9g, q9d, q9e, q9f, q9h, q9z⟩ := cells4 (b := w.heap.size + 1) hw4 (by go_size) (by go_simp <;> rfl) (by go_simp <;> rfl) (by go_simp <;> rfl) (by go_simp <;> rfl) (by go_simp <;> rfl) (by go_simp <;> rfl) (by go_simp <;> rfl) (by go_simp <;> rfl)
      obtain ⟨r9a, r9b, r9c, r9g, r9d, r9e, r9f, r9h, r9z⟩ := cells4 (b := w.heap.size + 1 + 1) hw4 (by go_size) (by go_simp <;> rfl) (by go_simp <;> rfl) (by go_simp <;> rfl) (by go_simp <;> rfl) (by go_simp <;> rfl) (by go_simp <;> rfl) (by go_simp <;> rfl) (by go_simp <;> rfl)
      clear p8a p8b p8c p8g p8d p8e p8f p8h p8z q8a q8b q8c q8g q8d q8e q8f q8h q8z r8a r8b r8c r8g r8d r8e r8f r8h r8z hw4
      go_wp2
      go_ret
      exact ⟨rfl, bw4⟩

set_option maxHeartbeats 4000000 in
set_option maxRecDepth 100000 in
theorem pthree_yes (p q r : Pf) (w : World) (s1 : psane p = true) (s2 : psane q = true) (s3 : psane r = true) :
    Calls Try.prog 5 #[.agg #[.int .u64 (u p.a.hi), .int .u64 (u p.a.lo), .bool p.a.v6, .int .i64 p.n], .agg #[.int .u64 (u q.a.hi), .int .u64 (u q.a.lo), .bool q.a.v6, .int .i64 q.n], .agg #[.int .u64 (u r.a.hi), .int .u64 (u r.a.lo), .bool r.a.v6, .int .i64 r.n]] w fun e w' => e = .returned (.bool true) ∧ Below w.heap.size w w' := by
  have hpp := cov_refl p s1
  have hip := ins_self p
  have HA := Lib.hid (@apa_eq p q s1 s2)
  have HJ := Lib.hid (@join_ok p q s1 s2)
  have HC := Lib.hid (@join_cov p q s1 s2)
  have HL := Lib.hid (@join_least p q s1 s2)
  go_enter Try.func5, Try.ntmps5
  go_wp2_with fail
  refine (awake2_any _).mono ?_
  rintro e w1 ⟨rfl, hw1⟩
  have zw1 := hw1.size
  have bw1 := below_of (w := w) (by go_grown) hw1
  try simp at zw1
  obtain ⟨p10a, p10b, p10c, p10g, p10d, p10e, p10f, p10h, p10z⟩ := cells4 (b := w.heap.size) hw1 (by go_size) (by go_simp <;> rfl) (by go_simp <;> rfl) (by go_simp <;> rfl) (by go_simp <;> rfl) (by go_simp <;> rfl) (by go_simp <;> rfl) (by go_simp <;> rfl) (by go_simp <;> rfl)
  obtain ⟨q10a, q10b, q10c, q10g, q10d, q10e, q10f, q10h, q10z⟩ := cells4 (b := w.heap.size + 1) hw1 (by go_size) (by go_simp <;> rfl) (by go_simp <;> rfl) (by go_simp <;> rfl) (by go_simp <;> rfl) (by go_simp <;> rfl) (by go_simp <;> rfl) (by go_simp <;> rfl) (by go_simp <;> rfl)
  obtain ⟨r10a, r10b, r10c, r10g, r10d, r10e, r10f, r10h, r10z⟩ := cells4 (b := w.heap.size + 1 + 1) hw1 (by go_size) (by go_simp <;> rfl) (by go_simp <;> rfl) (by go_simp <;> rfl) (by go_simp <;> rfl) (by go_simp <;> rfl) (by go_simp <;> rfl) (by go_simp <;> rfl) (by go_simp <;> rfl)
  clear hw1
  go_wp2_with fail
  refine (psane_any p _).mono ?_
  rintro e w2 ⟨rfl, hw2⟩
  have zw2 := hw2.size
  have bw2 := below_of (w := w) (by go_grown) hw2
  try simp at zw2
  obtain ⟨p11a, p11b, p11c, p11g, p11d, p11e, p11f, p11h, p11z⟩ := cells4 (b := w.heap.size) hw2 (by go_size) (by go_simp <;> rfl) (by go_simp <;> rfl) (by go_simp <;> rfl) (by go_simp <;> rfl) (by go_simp <;> rfl) (by go_simp <;> rfl) (by go_simp <;> rfl) (by go_simp <;> rfl)
  obtain ⟨q11a, q11b, q11c, q11g, q11d, q11e, q11f, q11h, q11z⟩ := cells4 (b := w.heap.size + 1) hw2 (by go_size) (by go_simp <;> rfl) (by go_simp <;> rfl) (by go_simp <;> rfl) (by go_simp <;> rfl) (by go_simp <;> rfl) (by go_simp <;> rfl) (by go_simp <;> rfl) (by go_simp <;> rfl)
  obtain ⟨r11a, r11b, r11c, r11g, r11d, r11e, r11f, r11h, r11z⟩ := cells4 (b := w.heap.size + 1 + 1) hw2 (by go_size) (by go_simp <;> rfl) (by go_simp <;> rfl) (by go_simp <;> rfl) (by go_simp <;> rfl) (by go_simp <;> rfl) (by go_simp <;> rfl) (by go_simp <;> rfl) (by go_simp <;> rfl)
  clear p10a p10b p10c p10g p10d p10e p10f p10h p10z q10a q10b q10c q10g q10d q10e q10f q10h q10z r10a r10b r10c r10g r10d r10e r10f r10h r10z hw2
  go_wp2_with fail
  refine (psane_any q _).mono ?_
  rintro e w3 ⟨rfl, hw3⟩
  have zw3 := hw3.size
  have bw3 := below_of (w := w) (by go_grown) hw3
  try simp at zw3
  obtain ⟨p12a, p12b, p12c, p12g, p12d, p12e, p12f, p12h, p12z⟩ := cells4 (b := w.heap.size) hw3 (by go_size) (by go_simp <;> rfl) (by go_simp <;> rfl) (by go_simp <;> rfl) (by go_simp <;> rfl) (by go_simp <;> rfl) (by go_simp <;> rfl) (by go_simp <;> rfl) (by go_simp <;> rfl)
  obtain ⟨q12a, q12b, q12c, q12g, q12d, q12e, q12f, q12h, q12z⟩ := cells4 (b := w.heap.size + 1) hw3 (by go_size) (by go_simp <;> rfl) (by go_simp <;> rfl) (by go_simp <;> rfl) (by go_simp <;> rfl) (by go_simp <;> rfl) (by go_simp <;> rfl) (by go_simp <;> rfl) (by go_simp <;> rfl)
  obtain ⟨r12a, r12b, r12c, r12g, r12d, r12e, r12f, r12h, r12z⟩ := cells4 (b := w.heap.size + 1 + 1) hw3 (by go_size) (by go_simp <;> rfl) (by go_simp <;> rfl) (by go_simp <;> rfl) (by go_simp <;> rfl) (by go_simp <;> rfl) (by go_simp <;> rfl) (by go_simp <;> rfl) (by go_simp <;> rfl)
  clear p11a p11b p11c p11g p11d p11e p11f p11h p11z q11a q11b q11c q11g q11d q11e q11f q11h q11z r11a r11b r11c r11g r11d r11e r11f r11h r11z hw3
  go_wp2_with fail
  refine (psane_any r _).mono ?_
  rintro e w4 ⟨rfl, hw4⟩
  have zw4 := hw4.size
  have bw4 := below_of (w := w) (by go_grown) hw4
  try simp at zw4
  obtain ⟨p13a, p13b, p13c, p13g, p13d, p13e, p13f, p13h, p13z⟩ := cells4 (b := w.heap.size) hw4 (by go_size) (by go_simp <;> rfl) (by go_simp <;> rfl) (by go_simp <;> rfl) (by go_simp <;> rfl) (by go_simp <;> rfl) (by go_simp <;> rfl) (by go_simp <;> rfl) (by go_simp <;> rfl)
  obtain ⟨q13a, q13b, q13c, q13g, q13d, q13e, q13f, q13h, q13z⟩ := cells4 (b := w.heap.size + 1) hw4 (by go_size) (by go_simp <;> rfl) (by go_simp <;> rfl) (by go_simp <;> rfl) (by go_simp <;> rfl) (by go_simp <;> rfl) (by go_simp <;> rfl) (by go_simp <;> rfl) (by go_simp <;> rfl)
  obtain ⟨r13a, r13b, r13c, r13g, r13d, r13e, r13f, r13h, r13z⟩ := cells4 (b := w.heap.size + 1 + 1) hw4 (by go_size) (by go_simp <;> rfl) (by go_simp <;> rfl) (by go_simp <;> rfl) (by go_simp <;> rfl) (by go_simp <;> rfl) (by go_simp <;> rfl) (by go_simp <;> rfl) (by go_simp <;> rfl)
  clear p12a p12b p12c p12g p12d p12e p12f p12h p12z q12a q12b q12c q12g q12d q12e q12f q12h q12z r12a r12b r12c r12g r12d r12e r12f r12h r12z hw4
  go_wp2_with fail
  refine (pcov_any p q _).mono ?_
  rintro e w5 ⟨rfl, hw5⟩
  have zw5 := hw5.size
  have bw5 := below_of (w := w) (by go_grown) hw5
  try simp at zw5
  obtain ⟨p14a, p14b, p14c, p14g, p14d, p14e, p14f, p14h, p14z⟩ := cells4 (b := w.heap.size) hw5 (by go_size) (by go_simp <;> rfl) (by go_simp <;> rfl) (by go_simp <;> rfl) (by go_simp <;> rfl) (by go_simp <;> rfl) (by go_simp <;> rfl) (by go_simp <;> rfl) (by go_simp <;> rfl)
  obtain ⟨q14a, q14b, q14c, q14g, q14d, q14e, q14f, q14h, q14z⟩ := cells4 (b := w.heap.size + 1) hw5 (by go_size) (by go_simp <;> rfl) (by go_simp <;> rfl) (by go_simp <;> rfl) (by go_simp <;> rfl) (by go_simp <;> rfl) (by go_simp <;> rfl) (by go_simp <;> rfl) (by go_simp <;> rfl)
  obtain ⟨r14a, r14b, r14c, r14g, r14d, r14e, r14f, r14h, r14z⟩ := cells4 (b := w.heap.size + 1 + 1) hw5 (by go_size) (by go_simp <;> rfl) (by go_simp <;> rfl) (by go_simp <;> rfl) (by go_simp <;> rfl) (by go_simp <;> rfl) (by go_simp <;> rfl) (by go_simp <;> rfl) (by go_simp <;> rfl)
  clear p13a p13b p13c p13g p13d p13e p13f p13h p13z q13a q13b q13c q13g q13d q13e q13f q13h q13z r13a r13b r13c r13g r13d r13e r13f r13h r13z hw5
  go_wp2_with fail
  refine (pcov_any q p _).mono ?_
  rintro e w6 ⟨rfl, hw6⟩
  have zw6 := hw6.size
  have bw6 := below_of (w := w) (by go_grown) hw6
  try simp at zw6
  obtain ⟨p15a, p15b, p15c, p15g, p15d, p15e, p15f, p15h, p15z⟩ := cells4 (b := w.heap.size) hw6 (by go_size) (by go_simp <;> rfl) (by go_simp <;> rfl) (by go_simp <;> rfl) (by go_simp <;> rfl) (by go_simp <;> rfl) (by go_simp <;> rfl) (by go_simp <;> rfl) (by go_simp <;> rfl)
  obtain ⟨q15a, q15b, q15c, q15g, q15d, q15e, q15f, q15h, q15z⟩ := cells4 (b := w.heap.size + 1) hw6 (by go_size) (by go_simp <;> rfl) (by go_simp <;> rfl) (by go_simp <;> rfl) (by go_simp <;> rfl) (by go_simp <;> rfl) (by go_simp <;> rfl) (by go_simp <;> rfl) (by go_simp <;> rfl)
  obtain ⟨r15a, r15b, r15c, r15g, r15d, r15e, r15f, r15h, r15z⟩ := cells4 (b := w.heap.size + 1 + 1) hw6 (by go_size) (by go_simp <;> rfl) (by go_simp <;> rfl) (by go_simp <;> rfl) (by go_simp <;> rfl) (by go_simp <;> rfl) (by go_simp <;> rfl) (by go_simp <;> rfl) (by go_simp <;> rfl)
  clear p14a p14b p14c p14g p14d p14e p14f p14h p14z q14a q14b q14c q14g q14d q14e q14f q14h q14z r14a r14b r14c r14g r14d r14e r14f r14h r14z hw6
  go_upto_region 6 with fail
  go_cut [8, 9, 94] (fun _ _ s wx => s = .bool false ∧ Three w p q r wx)
  case first =>
    cases cA : pcov p q
    · cases cB : pcov q p
      · have hap : papa p q = true := by rw [HA.out, cA, cB]; rfl
        have hin : pins p q = false := by unfold pins; rw [cA]; rfl
        go_wp2_with fail
        refine (papa_any p q _).mono ?_
        rintro e w7 ⟨rfl, hw7⟩
        have zw7 := hw7.size
        have bw7 := below_of (w := w) (by go_grown) hw7
        try simp at zw7
        obtain ⟨p16a, p16b, p16c, p16g, p16d, p16e, p16f, p16h, p16z⟩ := cells4 (b := w.heap.size) hw7 (by go_size) (by go_simp <;> rfl) (by go_simp <;> rfl) (by go_simp <;> rfl) (by go_simp <;> rfl) (by go_simp <;> rfl) (by go_simp <;> rfl) (by go_simp <;> rfl) (by go_simp <;> rfl)
        obtain ⟨q16a, q16b, q16c, q16g, q16d, q16e, q16f, q16h, q16z⟩ := cells4 (b := w.heap.size + 1) hw7 (by go_size) (by go_simp <;> rfl) (by go_simp <;> rfl) (by go_simp <;> rfl) (by go_simp <;> rfl) (by go_simp <;> rfl) (by go_simp <;> rfl) (by go_simp <;> rfl) (by go_simp <;> rfl)
        obtain ⟨r16a, r16b, r16c, r16g, r16d, r16e, r16f, r16h, r16z⟩ := cells4 (b := w.heap.size + 1 + 1) hw7 (by go_size) (by go_simp <;> rfl) (by go_simp <;> rfl) (by go_simp <;> rfl) (by go_simp <;> rfl) (by go_simp <;> rfl) (by go_simp <;> rfl) (by go_simp <;> rfl) (by go_simp <;> rfl)
        clear p15a p15b p15c p15g p15d p15e p15f p15h p15z q15a q15b q15c q15g q15d q15e q15f q15h q15z r15a r15b r15c r15g r15d r15e r15f r15h r15z hw7
        go_wp2_with fail
        refine (pcov_any p p _).mono ?_
        rintro e w10 ⟨rfl, hw10⟩
        have zw10 := hw10.size
        have bw10 := below_of (w := w) (by go_grown) hw10
        try simp at zw10
        obtain ⟨p17a, p17b, p17c, p17g, p17d, p17e, p17f, p17h, p17z⟩ := cells4 (b := w.heap.size) hw10 (by go_size) (by go_simp <;> rfl) (by go_simp <;> rfl) (by go_simp <;> rfl) (by go_simp <;> rfl) (by go_simp <;> rfl) (by go_simp <;> rfl) (by go_simp <;> rfl) (by go_simp <;> rfl)
        obtain ⟨q17a, q17b, q17c, q17g, q17d, q17e, q17f, q17h, q17z⟩ := cells4 (b := w.heap.size + 1) hw10 (by go_size) (by go_simp <;> rfl) (by go_simp <;> rfl) (by go_simp <;> rfl) (by go_simp <;> rfl) (by go_simp <;> rfl) (by go_simp <;> rfl) (by go_simp <;> rfl) (by go_simp <;> rfl)
        obtain ⟨r17a, r17b, r17c, r17g, r17d, r17e, r17f, r17h, r17z⟩ := cells4 (b := w.heap.size + 1 + 1) hw10 (by go_size) (by go_simp <;> rfl) (by go_simp <;> rfl) (by go_simp <;> rfl) (by go_simp <;> rfl) (by go_simp <;> rfl) (by go_simp <;> rfl) (by go_simp <;> rfl) (by go_simp <;> rfl)
        clear p16a p16b p16c p16g p16d p16e p16f p16h p16z q16a q16b q16c q16g q16d q16e q16f q16h q16z r16a r16b r16c r16g r16d r16e r16f r16h r16z hw10
        go_wp2_with fail
        refine (pins_any p p _).mono ?_
        rintro e w11 ⟨rfl, hw11⟩
        have zw11 := hw11.size
        have bw11 := below_of (w := w) (by go_grown) hw11
        try simp at zw11
        obtain ⟨p18a, p18b, p18c, p18g, p18d, p18e, p18f, p18h, p18z⟩ := cells4 (b := w.heap.size) hw11 (by go_size) (by go_simp <;> rfl) (by go_simp <;> rfl) (by go_simp <;> rfl) (by go_simp <;> rfl) (by go_simp <;> rfl) (by go_simp <;> rfl) (by go_simp <;> rfl) (by go_simp <;> rfl)
        obtain ⟨q18a, q18b, q18c, q18g, q18d, q18e, q18f, q18h, q18z⟩ := cells4 (b := w.heap.size + 1) hw11 (by go_size) (by go_simp <;> rfl) (by go_simp <;> rfl) (by go_simp <;> rfl) (by go_simp <;> rfl) (by go_simp <;> rfl) (by go_simp <;> rfl) (by go_simp <;> rfl) (by go_simp <;> rfl)
        obtain ⟨r18a, r18b, r18c, r18g, r18d, r18e, r18f, r18h, r18z⟩ := cells4 (b := w.heap.size + 1 + 1) hw11 (by go_size) (by go_simp <;> rfl) (by go_simp <;> rfl) (by go_simp <;> rfl) (by go_simp <;> rfl) (by go_simp <;> rfl) (by go_simp <;> rfl) (by go_simp <;> rfl) (by go_simp <;> rfl)
        clear p17a p17b p17c p17g p17d p17e p17f p17h p17z q17a q17b q17c q17g q17d q17e q17f q17h q17z r17a r17b r17c r17g r17d r17e r17f r17h r17z hw11
        go_wp2_with fail
        refine (pins_any p q _).mono ?_
        rintro e w12 ⟨rfl, hw12⟩
        have zw12 := hw12.size
        have bw12 := below_of (w := w) (by go_grown) hw12
        try simp at zw12
        obtain ⟨p19a, p19b, p19c, p19g, p19d, p19e, p19f, p19h, p19z⟩ := cells4 (b := w.heap.size) hw12 (by go_size) (by go_simp <;> rfl) (by go_simp <;> rfl) (by go_simp <;> rfl) (by go_simp <;> rfl) (by go_simp <;> rfl) (by go_simp <;> rfl) (by go_simp <;> rfl) (by go_simp <;> rfl)
        obtain ⟨q19a, q19b, q19c, q19g, q19d, q19e, q19f, q19h, q19z⟩ := cells4 (b := w.heap.size + 1) hw12 (by go_size) (by go_simp <;> rfl) (by go_simp <;> rfl) (by go_simp <;> rfl) (by go_simp <;> rfl) (by go_simp <;> rfl) (by go_simp <;> rfl) (by go_simp <;> rfl) (by go_simp <;> rfl)
        obtain ⟨r19a, r19b, r19c, r19g, r19d, r19e, r19f, r19h, r19z⟩ := cells4 (b := w.heap.size + 1 + 1) hw12 (by go_size) (by go_simp <;> rfl) (by go_simp <;> rfl) (by go_simp <;> rfl) (by go_simp <;> rfl) (by go_simp <;> rfl) (by go_simp <;> rfl) (by go_simp <;> rfl) (by go_simp <;> rfl)
        clear p18a p18b p18c p18g p18d p18e p18f p18h p18z q18a q18b q18c q18g q18d q18e q18f q18h q18z r18a r18b r18c r18g r18d r18e r18f r18h r18z hw12
        go_wp2_with fail
        go_meet
        exact ⟨rfl, ⟨p19a, p19b, p19c, p19g, p19d, p19e, p19f, p19h, p19z⟩, ⟨q19a, q19b, q19c, q19g, q19d, q19e, q19f, q19h, q19z⟩, ⟨r19a, r19b, r19c, r19g, r19d, r19e, r19f, r19h, r19z⟩, bw12⟩
      · have hap : papa p q = false := by rw [HA.out, cA, cB]; rfl
        have hin : pins p q = false := by unfold pins; rw [cA]; rfl
        go_wp2_with fail
        refine (papa_any p q _).mono ?_
        rintro e w7 ⟨rfl, hw7⟩
        have zw7 := hw7.size
        have bw7 := below_of (w := w) (by go_grown) hw7
        try simp at zw7
        obtain ⟨p20a, p20b, p20c, p20g, p20d, p20e, p20f, p20h, p20z⟩ := cells4 (b := w.heap.size) hw7 (by go_size) (by go_simp <;> rfl) (by go_simp <;> rfl) (by go_simp <;> rfl) (by go_simp <;> rfl) (by go_simp <;> rfl) (by go_simp <;> rfl) (by go_simp <;> rfl) (by go_simp <;> rfl)
        obtain ⟨q20a, q20b, q20c, q20g, q20d, q20e, q20f, q20h, q20z⟩ := cells4 (b := w.heap.size + 1) hw7 (by go_size) (by go_simp <;> rfl) (by go_simp <;> rfl) (by go_simp <;> rfl) (by go_simp <;> rfl) (by go_simp <;> rfl) (by go_simp <;> rfl) (by go_simp <;> rfl) (by go_simp <;> rfl)
        obtain ⟨r20a, r20b, r20c, r20g, r20d, r20e, r20f, r20h, r20z⟩ := cells4 (b := w.heap.size + 1 + 1) hw7 (by go_size) (by go_simp <;> rfl) (by go_simp <;> rfl) (by go_simp <;> rfl) (by go_simp <;> rfl) (by go_simp <;> rfl) (by go_simp <;> rfl) (by go_simp <;> rfl) (by go_simp <;> rfl)
        clear p15a p15b p15c p15g p15d p15e p15f p15h p15z q15a q15b q15c q15g q15d q15e q15f q15h q15z r15a r15b r15c r15g r15d r15e r15f r15h r15z hw7
        go_wp2_with fail
        refine (pcov_any p p _).mono ?_
        rintro e w10 ⟨rfl, hw10⟩
        have zw10 := hw10.size
        have bw10 := below_of (w := w) (by go_grown) hw10
        try simp at zw10
        obtain ⟨p21a, p21b, p21c, p21g, p21d, p21e, p21f, p21h, p21z⟩ := cells4 (b := w.heap.size) hw10 (by go_size) (by go_simp <;> rfl) (by go_simp <;> rfl) (by go_simp <;> rfl) (by go_simp <;> rfl) (by go_simp <;> rfl) (by go_simp <;> rfl) (by go_simp <;> rfl) (by go_simp <;> rfl)
        obtain ⟨q21a, q21b, q21c, q21g, q21d, q21e, q21f, q21h, q21z⟩ := cells4 (b := w.heap.size + 1) hw10 (by go_size) (by go_simp <;> rfl) (by go_simp <;> rfl) (by go_simp <;> rfl) (by go_simp <;> rfl) (by go_simp <;> rfl) (by go_simp <;> rfl) (by go_simp <;> rfl) (by go_simp <;> rfl)
        obtain ⟨r21a, r21b, r21c, r21g, r21d, r21e, r21f, r21h, r21z⟩ := cells4 (b := w.heap.size + 1 + 1) hw10 (by go_size) (by go_simp <;> rfl) (by go_simp <;> rfl) (by go_simp <;> rfl) (by go_simp <;> rfl) (by go_simp <;> rfl) (by go_simp <;> rfl) (by go_simp <;> rfl) (by go_simp <;> rfl)
        clear p20a p20b p20c p20g p20d p20e p20f p20h p20z q20a q20b q20c q20g q20d q20e q20f q20h q20z r20a r20b r20c r20g r20d r20e r20f r20h r20z hw10
        go_wp2_with fail
        refine (pins_any p p _).mono ?_
        rintro e w11 ⟨rfl, hw11⟩
        have zw11 := hw11.size
        have bw11 := below_of (w := w) (by go_grown) hw11
        try simp at zw11
        obtain ⟨p22a, p22b, p22c, p22g, p22d, p22e, p22f, p22h, p22z⟩ := cells4 (b := w.heap.size) hw11 (by go_size) (by go_simp <;> rfl) (by go_simp <;> rfl) (by go_simp <;> rfl) (by go_simp <;> rfl) (by go_simp <;> rfl) (by go_simp <;> rfl) (by go_simp <;> rfl) (by go_simp <;> rfl)
        obtain ⟨q22a, q22b, q22c, q22g, q22d, q22e, q22f, q22h, q22z⟩ := cells4 (b := w.heap.size + 1) hw11 (by go_size) (by go_simp <;> rfl) (by go_simp <;> rfl) (by go_simp <;> rfl) (by go_simp <;> rfl) (by go_simp <;> rfl) (by go_simp <;> rfl) (by go_simp <;> rfl) (by go_simp <;> rfl)
        obtain ⟨r22a, r22b, r22c, r22g, r22d, r22e, r22f, r22h, r22z⟩ := cells4 (b := w.heap.size + 1 + 1) hw11 (by go_size) (by go_simp <;> rfl) (by go_simp <;> rfl) (by go_simp <;> rfl) (by go_simp <;> rfl) (by go_simp <;> rfl) (by go_simp <;> rfl) (by go_simp <;> rfl) (by go_simp <;> rfl)
        clear p21a p21b p21c p21g p21d p21e p21f p21h p21z q21a q21b q21c q21g q21d q21e q21f q21h q21z r21a r21b r21c r21g r21d r21e r21f r21h r21z hw11
        go_wp2_with fail
        refine (pins_any p q _).mono ?_
        rintro e w12 ⟨rfl, hw12⟩
        have zw12 := hw12.size
        have bw12 := below_of (w := w) (by go_grown) hw12
        try simp at zw12
        obtain ⟨p23a, p23b, p23c, p23g, p23d, p23e, p23f, p23h, p23z⟩ := cells4 (b := w.heap.size) hw12 (by go_size) (by go_simp <;> rfl) (by go_simp <;> rfl) (by go_simp <;> rfl) (by go_simp <;> rfl) (by go_simp <;> rfl) (by go_simp <;> rfl) (by go_simp <;> rfl) (by go_simp <;> rfl)
        obtain ⟨q23a, q23b, q23c, q23g, q23d, q23e, q23f, q23h, q23z⟩ := cells4 (b := w.heap.size + 1) hw12 (by go_size) (by go_simp <;> rfl) (by go_simp <;> rfl) (by go_simp <;> rfl) (by go_simp <;> rfl) (by go_simp <;> rfl) (by go_simp <;> rfl) (by go_simp <;> rfl) (by go_simp <;> rfl)
        obtain ⟨r23a, r23b, r23c, r23g, r23d, r23e, r23f, r23h, r23z⟩ := cells4 (b := w.heap.size + 1 + 1) hw12 (by go_size) (by go_simp <;> rfl) (by go_simp <;> rfl) (by go_simp <;> rfl) (by go_simp <;> rfl) (by go_simp <;> rfl) (by go_simp <;> rfl) (by go_simp <;> rfl) (by go_simp <;> rfl)
        clear p22a p22b p22c p22g p22d p22e p22f p22h p22z q22a q22b q22c q22g q22d q22e q22f q22h q22z r22a r22b r22c r22g r22d r22e r22f r22h r22z hw12
        go_wp2_with fail
        go_meet
        exact ⟨rfl, ⟨p23a, p23b, p23c, p23g, p23d, p23e, p23f, p23h, p23z⟩, ⟨q23a, q23b, q23c, q23g, q23d, q23e, q23f, q23h, q23z⟩, ⟨r23a, r23b, r23c, r23g, r23d, r23e, r23f, r23h, r23z⟩, bw12⟩
    · cases cB : pcov q p
      · have hap : papa p q = false := by rw [HA.out, cA, cB]; rfl
        have hne : pfB (u p.a.hi) (u p.a.lo) p.a.v6 p.n (u q.a.hi) (u q.a.lo) q.a.v6 q.n = false := bool_not fun h => by
          have e := (pfEq_iff p q).1 h
          subst e
          rw [cA] at cB
          cases cB
        have hin : pins p q = true := by rw [ins_eq cA, show pfEq p q = false from hne]; rfl
        cases cC : pcov q r
        · go_wp2_with fail
          refine (papa_any p q _).mono ?_
          rintro e w7 ⟨rfl, hw7⟩
          have zw7 := hw7.size
          have bw7 := below_of (w := w) (by go_grown) hw7
          try simp at zw7
          obtain ⟨p24a, p24b, p24c, p24g, p24d, p24e, p24f, p24h, p24z⟩ := cells4 (b := w.heap.size) hw7 (by go_size) (by go_simp <;> rfl) (by go_simp <;> rfl) (by go_simp <;> rfl) (by go_simp <;> rfl) (by go_simp <;> rfl) (by go_simp <;> rfl) (by go_simp <;> rfl) (by go_simp <;> rfl)
          obtain ⟨q24a, q24b, q24c, q24g, q24d, q24e, q24f, q24h, q24z⟩ := cells4 (b := w.heap.size + 1) hw7 (by go_size) (by go_simp <;> rfl) (by go_simp <;> rfl) (by go_simp <;> rfl) (by go_simp <;> rfl) (by go_simp <;> rfl) (by go_simp <;> rfl) (by go_simp <;> rfl) (by go_simp <;> rfl)
          obtain ⟨r24a, r24b, r24c, r24g, r24d, r24e, r24f, r24h, r24z⟩ := cells4 (b := w.heap.size + 1 + 1) hw7 (by go_size) (by go_simp <;> rfl) (by go_simp <;> rfl) (by go_simp <;> rfl) (by go_simp <;> rfl) (by go_simp <;> rfl) (by go_simp <;> rfl) (by go_simp <;> rfl) (by go_simp <;> rfl)
          clear p15a p15b p15c p15g p15d p15e p15f p15h p15z q15a q15b q15c q15g q15d q15e q15f q15h q15z r15a r15b r15c r15g r15d r15e r15f r15h r15z hw7
          go_wp2_with fail
          refine (pcov_any q r _).mono ?_
          rintro e w8 ⟨rfl, hw8⟩
          have zw8 := hw8.size
          have bw8 := below_of (w := w) (by go_grown) hw8
          try simp at zw8
          obtain ⟨p25a, p25b, p25c, p25g, p25d, p25e, p25f, p25h, p25z⟩ := cells4 (b := w.heap.size) hw8 (by go_size) (by go_simp <;> rfl) (by go_simp <;> rfl) (by go_simp <;> rfl) (by go_simp <;> rfl) (by go_simp <;> rfl) (by go_simp <;> rfl) (by go_simp <;> rfl) (by go_simp <;> rfl)
          obtain ⟨q25a, q25b, q25c, q25g, q25d, q25e, q25f, q25h, q25z⟩ := cells4 (b := w.heap.size + 1) hw8 (by go_size) (by go_simp <;> rfl) (by go_simp <;> rfl) (by go_simp <;> rfl) (by go_simp <;> rfl) (by go_simp <;> rfl) (by go_simp <;> rfl) (by go_simp <;> rfl) (by go_simp <;> rfl)
          obtain ⟨r25a, r25b, r25c, r25g, r25d, r25e, r25f, r25h, r25z⟩ := cells4 (b := w.heap.size + 1 + 1) hw8 (by go_size) (by go_simp <;> rfl) (by go_simp <;> rfl) (by go_simp <;> rfl) (by go_simp <;> rfl) (by go_simp <;> rfl) (by go_simp <;> rfl) (by go_simp <;> rfl) (by go_simp <;> rfl)
          clear p24a p24b p24c p24g p24d p24e p24f p24h p24z q24a q24b q24c q24g q24d q24e q24f q24h q24z r24a r24b r24c r24g r24d r24e r24f r24h r24z hw8
          go_wp2_with fail
          refine (pcov_any p p _).mono ?_
          rintro e w10 ⟨rfl, hw10⟩
          have zw10 := hw10.size
          have bw10 := below_of (w := w) (by go_grown) hw10
          try simp at zw10
          obtain ⟨p26a, p26b, p26c, p26g, p26d, p26e, p26f, p26h, p26z⟩ := cells4 (b := w.heap.size) hw10 (by go_size) (by go_simp <;> rfl) (by go_simp <;> rfl) (by go_simp <;> rfl) (by go_simp <;> rfl) (by go_simp <;> rfl) (by go_simp <;> rfl) (by go_simp <;> rfl) (by go_simp <;> rfl)
          obtain ⟨q26a, q26b, q26c, q26g, q26d, q26e, q26f, q26h, q26z⟩ := cells4 (b := w.heap.size + 1) hw10 (by go_size) (by go_simp <;> rfl) (by go_simp <;> rfl) (by go_simp <;> rfl) (by go_simp <;> rfl) (by go_simp <;> rfl) (by go_simp <;> rfl) (by go_simp <;> rfl) (by go_simp <;> rfl)
          obtain ⟨r26a, r26b, r26c, r26g, r26d, r26e, r26f, r26h, r26z⟩ := cells4 (b := w.heap.size + 1 + 1) hw10 (by go_size) (by go_simp <;> rfl) (by go_simp <;> rfl) (by go_simp <;> rfl) (by go_simp <;> rfl) (by go_simp <;> rfl) (by go_simp <;> rfl) (by go_simp <;> rfl) (by go_simp <;> rfl)
          clear p25a p25b p25c p25g p25d p25e p25f p25h p25z q25a q25b q25c q25g q25d q25e q25f q25h q25z r25a r25b r25c r25g r25d r25e r25f r25h r25z hw10
          go_wp2_with fail
          refine (pins_any p p _).mono ?_
          rintro e w11 ⟨rfl, hw11⟩
          have zw11 := hw11.size
          have bw11 := below_of (w := w) (by go_grown) hw11
          try simp at zw11
          obtain ⟨p27a, p27b, p27c, p27g, p27d, p27e, p27f, p27h, p27z⟩ := cells4 (b := w.heap.size) hw11 (by go_size) (by go_simp <;> rfl) (by go_simp <;> rfl) (by go_simp <;> rfl) (by go_simp <;> rfl) (by go_simp <;> rfl) (by go_simp <;> rfl) (by go_simp <;> rfl) (by go_simp <;> rfl)
          obtain ⟨q27a, q27b, q27c, q27g, q27d, q27e, q27f, q27h, q27z⟩ := cells4 (b := w.heap.size + 1) hw11 (by go_size) (by go_simp <;> rfl) (by go_simp <;> rfl) (by go_simp <;> rfl) (by go_simp <;> rfl) (by go_simp <;> rfl) (by go_simp <;> rfl) (by go_simp <;> rfl) (by go_simp <;> rfl)
          obtain ⟨r27a, r27b, r27c, r27g, r27d, r27e, r27f, r27h, r27z⟩ := cells4 (b := w.heap.size + 1 + 1) hw11 (by go_size) (by go_simp <;> rfl) (by go_simp <;> rfl) (by go_simp <;> rfl) (by go_simp <;> rfl) (by go_simp <;> rfl) (by go_simp <;> rfl) (by go_simp <;> rfl) (by go_simp <;> rfl)
          clear p26a p26b p26c p26g p26d p26e p26f p26h p26z q26a q26b q26c q26g q26d q26e q26f q26h q26z r26a r26b r26c r26g r26d r26e r26f r26h r26z hw11
          go_wp2_with fail
          refine (pins_any p q _).mono ?_
          rintro e w12 ⟨rfl, hw12⟩
          have zw12 := hw12.size
          have bw12 := below_of (w := w) (by go_grown) hw12
          try simp at zw12
          obtain ⟨p28a, p28b, p28c, p28g, p28d, p28e, p28f, p28h, p28z⟩ := cells4 (b := w.heap.size) hw12 (by go_size) (by go_simp <;> rfl) (by go_simp <;> rfl) (by go_simp <;> rfl) (by go_simp <;> rfl) (by go_simp <;> rfl) (by go_simp <;> rfl) (by go_simp <;> rfl) (by go_simp <;> rfl)
          obtain ⟨q28a, q28b, q28c, q28g, q28d, q28e, q28f, q28h, q28z⟩ := cells4 (b := w.heap.size + 1) hw12 (by go_size) (by go_simp <;> rfl) (by go_simp <;> rfl) (by go_simp <;> rfl) (by go_simp <;> rfl) (by go_simp <;> rfl) (by go_simp <;> rfl) (by go_simp <;> rfl) (by go_simp <;> rfl)
          obtain ⟨r28a, r28b, r28c, r28g, r28d, r28e, r28f, r28h, r28z⟩ := cells4 (b := w.heap.size + 1 + 1) hw12 (by go_size) (by go_simp <;> rfl) (by go_simp <;> rfl) (by go_simp <;> rfl) (by go_simp <;> rfl) (by go_simp <;> rfl) (by go_simp <;> rfl) (by go_simp <;> rfl) (by go_simp <;> rfl)
          clear p27a p27b p27c p27g p27d p27e p27f p27h p27z q27a q27b q27c q27g q27d q27e q27f q27h q27z r27a r27b r27c r27g r27d r27e r27f r27h r27z hw12
          go_wp2_with fail
          go_meet
          exact ⟨rfl, ⟨p28a, p28b, p28c, p28g, p28d, p28e, p28f, p28h, p28z⟩, ⟨q28a, q28b, q28c, q28g, q28d, q28e, q28f, q28h, q28z⟩, ⟨r28a, r28b, r28c, r28g, r28d, r28e, r28f, r28h, r28z⟩, bw12⟩
        · have cD : pcov p r = true := cov_trans cA cC
          go_wp2_with fail
          refine (papa_any p q _).mono ?_
          rintro e w7 ⟨rfl, hw7⟩
          have zw7 := hw7.size
          have bw7 := below_of (w := w) (by go_grown) hw7
          try simp at zw7
          obtain ⟨p29a, p29b, p29c, p29g, p29d, p29e, p29f, p29h, p29z⟩ := cells4 (b := w.heap.size) hw7 (by go_size) (by go_simp <;> rfl) (by go_simp <;> rfl) (by go_simp <;> rfl) (by go_simp <;> rfl) (by go_simp <;> rfl) (by go_simp <;> rfl) (by go_simp <;> rfl) (by go_simp <;> rfl)
          obtain ⟨q29a, q29b, q29c, q29g, q29d, q29e, q29f, q29h, q29z⟩ := cells4 (b := w.heap.size + 1) hw7 (by go_size) (by go_simp <;> rfl) (by go_simp <;> rfl) (by go_simp <;> rfl) (by go_simp <;> rfl) (by go_simp <;> rfl) (by go_simp <;> rfl) (by go_simp <;> rfl) (by go_simp <;> rfl)
          obtain ⟨r29a, r29b, r29c, r29g, r29d, r29e, r29f, r29h, r29z⟩ := cells4 (b := w.heap.size + 1 + 1) hw7 (by go_size) (by go_simp <;> rfl) (by go_simp <;> rfl) (by go_simp <;> rfl) (by go_simp <;> rfl) (by go_simp <;> rfl) (by go_simp <;> rfl) (by go_simp <;> rfl) (by go_simp <;> rfl)
          clear p15a p15b p15c p15g p15d p15e p15f p15h p15z q15a q15b q15c q15g q15d q15e q15f q15h q15z r15a r15b r15c r15g r15d r15e r15f r15h r15z hw7
          go_wp2_with fail
          refine (pcov_any q r _).mono ?_
          rintro e w8 ⟨rfl, hw8⟩
          have zw8 := hw8.size
          have bw8 := below_of (w := w) (by go_grown) hw8
          try simp at zw8
          obtain ⟨p30a, p30b, p30c, p30g, p30d, p30e, p30f, p30h, p30z⟩ := cells4 (b := w.heap.size) hw8 (by go_size) (by go_simp <;> rfl) (by go_simp <;> rfl) (by go_simp <;> rfl) (by go_simp <;> rfl) (by go_simp <;> rfl) (by go_simp <;> rfl) (by go_simp <;> rfl) (by go_simp <;> rfl)
          obtain ⟨q30a, q30b, q30c, q30g, q30d, q30e, q30f, q30h, q30z⟩ := cells4 (b := w.heap.size + 1) hw8 (by go_size) (by go_simp <;> rfl) (by go_simp <;> rfl) (by go_simp <;> rfl) (by go_simp <;> rfl) (by go_simp <;> rfl) (by go_simp <;> rfl) (by go_simp <;> rfl) (by go_simp <;> rfl)
          obtain ⟨r30a, r30b, r30c, r30g, r30d, r30e, r30f, r30h, r30z⟩ := cells4 (b := w.heap.size + 1 + 1) hw8 (by go_size) (by go_simp <;> rfl) (by go_simp <;> rfl) (by go_simp <;> rfl) (by go_simp <;> rfl) (by go_simp <;> rfl) (by go_simp <;> rfl) (by go_simp <;> rfl) (by go_simp <;> rfl)
          clear p29a p29b p29c p29g p29d p29e p29f p29h p29z q29a q29b q29c q29g q29d q29e q29f q29h q29z r29a r29b r29c r29g r29d r29e r29f r29h r29z hw8
          go_wp2_with fail
          refine (pcov_any p r _).mono ?_
          rintro e w9 ⟨rfl, hw9⟩
          have zw9 := hw9.size
          have bw9 := below_of (w := w) (by go_grown) hw9
          try simp at zw9
          obtain ⟨p31a, p31b, p31c, p31g, p31d, p31e, p31f, p31h, p31z⟩ := cells4 (b := w.heap.size) hw9 (by go_size) (by go_simp <;> rfl) (by go_simp <;> rfl) (by go_simp <;> rfl) (by go_simp <;> rfl) (by go_simp <;> rfl) (by go_simp <;> rfl) (by go_simp <;> rfl) (by go_simp <;> rfl)
          obtain ⟨q31a, q31b, q31c, q31g, q31d, q31e, q31f, q31h, q31z⟩ := cells4 (b := w.heap.size + 1) hw9 (by go_size) (by go_simp <;> rfl) (by go_simp <;> rfl) (by go_simp <;> rfl) (by go_simp <;> rfl) (by go_simp <;> rfl) (by go_simp <;> rfl) (by go_simp <;> rfl) (by go_simp <;> rfl)
          obtain ⟨r31a, r31b, r31c, r31g, r31d, r31e, r31f, r31h, r31z⟩ := cells4 (b := w.heap.size + 1 + 1) hw9 (by go_size) (by go_simp <;> rfl) (by go_simp <;> rfl) (by go_simp <;> rfl) (by go_simp <;> rfl) (by go_simp <;> rfl) (by go_simp <;> rfl) (by go_simp <;> rfl) (by go_simp <;> rfl)
          clear p30a p30b p30c p30g p30d p30e p30f p30h p30z q30a q30b q30c q30g q30d q30e q30f q30h q30z r30a r30b r30c r30g r30d r30e r30f r30h r30z hw9
          go_wp2_with fail
          refine (pcov_any p p _).mono ?_
          rintro e w10 ⟨rfl, hw10⟩
          have zw10 := hw10.size
          have bw10 := below_of (w := w) (by go_grown) hw10
          try simp at zw10
          obtain ⟨p32a, p32b, p32c, p32g, p32d, p32e, p32f, p32h, p32z⟩ := cells4 (b := w.heap.size) hw10 (by go_size) (by go_simp <;> rfl) (by go_simp <;> rfl) (by go_simp <;> rfl) (by go_simp <;> rfl) (by go_simp <;> rfl) (by go_simp <;> rfl) (by go_simp <;> rfl) (by go_simp <;> rfl)
          obtain ⟨q32a, q32b, q32c, q32g, q32d, q32e, q32f, q32h, q32z⟩ := cells4 (b := w.heap.size + 1) hw10 (by go_size) (by go_simp <;> rfl) (by go_simp <;> rfl) (by go_simp <;> rfl) (by go_simp <;> rfl) (by go_simp <;> rfl) (by go_simp <;> rfl) (by go_simp <;> rfl) (by go_simp <;> rfl)
          obtain ⟨r32a, r32b, r32c, r32g, r32d, r32e, r32f, r32h, r32z⟩ := cells4 (b := w.heap.size + 1 + 1) hw10 (by go_size) (by go_simp <;> rfl) (by go_simp <;> rfl) (by go_simp <;> rfl) (by go_simp <;> rfl) (by go_simp <;> rfl) (by go_simp <;> rfl) (by go_simp <;> rfl) (by go_simp <;> rfl)
          clear p31a p31b p31c p31g p31d p31e p31f p31h p31z q31a q31b q31c q31g q31d q31e q31f q31h q31z r31a r31b r31c r31g r31d r31e r31f r31h r31z hw10
          go_wp2_with fail
          refine (pins_any p p _).mono ?_
          rintro e w11 ⟨rfl, hw11⟩
          have zw11 := hw11.size
          have bw11 := below_of (w := w) (by go_grown) hw11
          try simp at zw11
          obtain ⟨p33a, p33b, p33c, p33g, p33d, p33e, p33f, p33h, p33z⟩ := cells4 (b := w.heap.size) hw11 (by go_size) (by go_simp <;> rfl) (by go_simp <;> rfl) (by go_simp <;> rfl) (by go_simp <;> rfl) (by go_simp <;> rfl) (by go_simp <;> rfl) (by go_simp <;> rfl) (by go_simp <;> rfl)
          obtain ⟨q33a, q33b, q33c, q33g, q33d, q33e, q33f, q33h, q33z⟩ := cells4 (b := w.heap.size + 1) hw11 (by go_size) (by go_simp <;> rfl) (by go_simp <;> rfl) (by go_simp <;> rfl) (by go_simp <;> rfl) (by go_simp <;> rfl) (by go_simp <;> rfl) (by go_simp <;> rfl) (by go_simp <;> rfl)
          obtain ⟨r33a, r33b, r33c, r33g, r33d, r33e, r33f, r33h, r33z⟩ := cells4 (b := w.heap.size + 1 + 1) hw11 (by go_size) (by go_simp <;> rfl) (by go_simp <;> rfl) (by go_simp <;> rfl) (by go_simp <;> rfl) (by go_simp <;> rfl) (by go_simp <;> rfl) (by go_simp <;> rfl) (by go_simp <;> rfl)
          clear p32a p32b p32c p32g p32d p32e p32f p32h p32z q32a q32b q32c q32g q32d q32e q32f q32h q32z r32a r32b r32c r32g r32d r32e r32f r32h r32z hw11
          go_wp2_with fail
          refine (pins_any p q _).mono ?_
          rintro e w12 ⟨rfl, hw12⟩
          have zw12 := hw12.size
          have bw12 := below_of (w := w) (by go_grown) hw12
          try simp at zw12
          obtain ⟨p34a, p34b, p34c, p34g, p34d, p34e, p34f, p34h, p34z⟩ := cells4 (b := w.heap.size) hw12 (by go_size) (by go_simp <;> rfl) (by go_simp <;> rfl) (by go_simp <;> rfl) (by go_simp <;> rfl) (by go_simp <;> rfl) (by go_simp <;> rfl) (by go_simp <;> rfl) (by go_simp <;> rfl)
          obtain ⟨q34a, q34b, q34c, q34g, q34d, q34e, q34f, q34h, q34z⟩ := cells4 (b := w.heap.size + 1) hw12 (by go_size) (by go_simp <;> rfl) (by go_simp <;> rfl) (by go_simp <;> rfl) (by go_simp <;> rfl) (by go_simp <;> rfl) (by go_simp <;> rfl) (by go_simp <;> rfl) (by go_simp <;> rfl)
          obtain ⟨r34a, r34b, r34c, r34g, r34d, r34e, r34f, r34h, r34z⟩ := cells4 (b := w.heap.size + 1 + 1) hw12 (by go_size) (by go_simp <;> rfl) (by go_simp <;> rfl) (by go_simp <;> rfl) (by go_simp <;> rfl) (by go_simp <;> rfl) (by go_simp <;> rfl) (by go_simp <;> rfl) (by go_simp <;> rfl)
          clear p33a p33b p33c p33g p33d p33e p33f p33h p33z q33a q33b q33c q33g q33d q33e q33f q33h q33z r33a r33b r33c r33g r33d r33e r33f r33h r33z hw12
          go_wp2_with fail
          go_meet
          exact ⟨rfl, ⟨p34a, p34b, p34c, p34g, p34d, p34e, p34f, p34h, p34z⟩, ⟨q34a, q34b, q34c, q34g, q34d, q34e, q34f, q34h, q34z⟩, ⟨r34a, r34b, r34c, r34g, r34d, r34e, r34f, r34h, r34z⟩, bw12⟩
      · have hap : papa p q = false := by rw [HA.out, cA, cB]; rfl
        have hne : pfB (u p.a.hi) (u p.a.lo) p.a.v6 p.n (u q.a.hi) (u q.a.lo) q.a.v6 q.n = true := (pfEq_iff p q).2 (cov_anti cA cB)
        have hin : pins p q = false := by rw [ins_eq cA, show pfEq p q = true from hne]; rfl
        cases cC : pcov q r
        · go_wp2_with fail
          refine (papa_any p q _).mono ?_
          rintro e w7 ⟨rfl, hw7⟩
          have zw7 := hw7.size
          have bw7 := below_of (w := w) (by go_grown) hw7
          try simp at zw7
          obtain ⟨p35a, p35b, p35c, p35g, p35d, p35e, p35f, p35h, p35z⟩ := cells4 (b := w.heap.size) hw7 (by go_size) (by go_simp <;> rfl) (by go_simp <;> rfl) (by go_simp <;> rfl) (by go_simp <;> rfl) (by go_simp <;> rfl) (by go_simp <;> rfl) (by go_simp <;> rfl) (by go_simp <;> rfl)
          obtain ⟨q35a, q35b, q35c, q35g, q35d, q35e, q35f, q35h, q35z⟩ := cells4 (b := w.heap.size + 1) hw7 (by go_size) (by go_simp <;> rfl) (by go_simp <;> rfl) (by go_simp <;> rfl) (by go_simp <;> rfl) (by go_simp <;> rfl) (by go_simp <;> rfl) (by go_simp <;> rfl) (by go_simp <;> rfl)
          obtain ⟨r35a, r35b, r35c, r35g, r35d, r35e, r35f, r35h, r35z⟩ := cells4 (b := w.heap.size + 1 + 1) hw7 (by go_size) (by go_simp <;> rfl) (by go_simp <;> rfl) (by go_simp <;> rfl) (by go_simp <;> rfl) (by go_simp <;> rfl) (by go_simp <;> rfl) (by go_simp <;> rfl) (by go_simp <;> rfl)
          clear p15a p15b p15c p15g p15d p15e p15f p15h p15z q15a q15b q15c q15g q15d q15e q15f q15h q15z r15a r15b r15c r15g r15d r15e r15f r15h r15z hw7
          go_wp2_with fail
          refine (pcov_any q r _).mono ?_
          rintro e w8 ⟨rfl, hw8⟩
          have zw8 := hw8.size
          have bw8 := below_of (w := w) (by go_grown) hw8
          try simp at zw8
          obtain ⟨p36a, p36b, p36c, p36g, p36d, p36e, p36f, p36h, p36z⟩ := cells4 (b := w.heap.size) hw8 (by go_size) (by go_simp <;> rfl) (by go_simp <;> rfl) (by go_simp <;> rfl) (by go_simp <;> rfl) (by go_simp <;> rfl) (by go_simp <;> rfl) (by go_simp <;> rfl) (by go_simp <;> rfl)
          obtain ⟨q36a, q36b, q36c, q36g, q36d, q36e, q36f, q36h, q36z⟩ := cells4 (b := w.heap.size + 1) hw8 (by go_size) (by go_simp <;> rfl) (by go_simp <;> rfl) (by go_simp <;> rfl) (by go_simp <;> rfl) (by go_simp <;> rfl) (by go_simp <;> rfl) (by go_simp <;> rfl) (by go_simp <;> rfl)
          obtain ⟨r36a, r36b, r36c, r36g, r36d, r36e, r36f, r36h, r36z⟩ := cells4 (b := w.heap.size + 1 + 1) hw8 (by go_size) (by go_simp <;> rfl) (by go_simp <;> rfl) (by go_simp <;> rfl) (by go_simp <;> rfl) (by go_simp <;> rfl) (by go_simp <;> rfl) (by go_simp <;> rfl) (by go_simp <;> rfl)
          clear p35a p35b p35c p35g p35d p35e p35f p35h p35z q35a q35b q35c q35g q35d q35e q35f q35h q35z r35a r35b r35c r35g r35d r35e r35f r35h r35z hw8
          go_wp2_with fail
          refine (pcov_any p p _).mono ?_
          rintro e w10 ⟨rfl, hw10⟩
          have zw10 := hw10.size
          have bw10 := below_of (w := w) (by go_grown) hw10
          try simp at zw10
          obtain ⟨p37a, p37b, p37c, p37g, p37d, p37e, p37f, p37h, p37z⟩ := cells4 (b := w.heap.size) hw10 (by go_size) (by go_simp <;> rfl) (by go_simp <;> rfl) (by go_simp <;> rfl) (by go_simp <;> rfl) (by go_simp <;> rfl) (by go_simp <;> rfl) (by go_simp <;> rfl) (by go_simp <;> rfl)
          obtain ⟨q37a, q37b, q37c, q37g, q37d, q37e, q37f, q37h, q37z⟩ := cells4 (b := w.heap.size + 1) hw10 (by go_size) (by go_simp <;> rfl) (by go_simp <;> rfl) (by go_simp <;> rfl) (by go_simp <;> rfl) (by go_simp <;> rfl) (by go_simp <;> rfl) (by go_simp <;> rfl) (by go_simp <;> rfl)
          obtain ⟨r37a, r37b, r37c, r37g, r37d, r37e, r37f, r37h, r37z⟩ := cells4 (b := w.heap.size + 1 + 1) hw10 (by go_size) (by go_simp <;> rfl) (by go_simp <;> rfl) (by go_simp <;> rfl) (by go_simp <;> rfl) (by go_simp <;> rfl) (by go_simp <;> rfl) (by go_simp <;> rfl) (by go_simp <;> rfl)
          clear p36a p36b p36c p36g p36d p36e p36f p36h p36z q36a q36b q36c q36g q36d q36e q36f q36h q36z r36a r36b r36c r36g r36d r36e r36f r36h r36z hw10
          go_wp2_with fail
          refine (pins_any p p _).mono ?_
          rintro e w11 ⟨rfl, hw11⟩
          have zw11 := hw11.size
          have bw11 := below_of (w := w) (by go_grown) hw11
          try simp at zw11
          obtain ⟨p38a, p38b, p38c, p38g, p38d, p38e, p38f, p38h, p38z⟩ := cells4 (b := w.heap.size) hw11 (by go_size) (by go_simp <;> rfl) (by go_simp <;> rfl) (by go_simp <;> rfl) (by go_simp <;> rfl) (by go_simp <;> rfl) (by go_simp <;> rfl) (by go_simp <;> rfl) (by go_simp <;> rfl)
          obtain ⟨q38a, q38b, q38c, q38g, q38d, q38e, q38f, q38h, q38z⟩ := cells4 (b := w.heap.size + 1) hw11 (by go_size) (by go_simp <;> rfl) (by go_simp <;> rfl) (by go_simp <;> rfl) (by go_simp <;> rfl) (by go_simp <;> rfl) (by go_simp <;> rfl) (by go_simp <;> rfl) (by go_simp <;> rfl)
          obtain ⟨r38a, r38b, r38c, r38g, r38d, r38e, r38f, r38h, r38z⟩ := cells4 (b := w.heap.size + 1 + 1) hw11 (by go_size) (by go_simp <;> rfl) (by go_simp <;> rfl) (by go_simp <;> rfl) (by go_simp <;> rfl) (by go_simp <;> rfl) (by go_simp <;> rfl) (by go_simp <;> rfl) (by go_simp <;> rfl)
          clear p37a p37b p37c p37g p37d p37e p37f p37h p37z q37a q37b q37c q37g q37d q37e q37f q37h q37z r37a r37b r37c r37g r37d r37e r37f r37h r37z hw11
          go_wp2_with fail
          refine (pins_any p q _).mono ?_
          rintro e w12 ⟨rfl, hw12⟩
          have zw12 := hw12.size
          have bw12 := below_of (w := w) (by go_grown) hw12
          try simp at zw12
          obtain ⟨p39a, p39b, p39c, p39g, p39d, p39e, p39f, p39h, p39z⟩ := cells4 (b := w.heap.size) hw12 (by go_size) (by go_simp <;> rfl) (by go_simp <;> rfl) (by go_simp <;> rfl) (by go_simp <;> rfl) (by go_simp <;> rfl) (by go_simp <;> rfl) (by go_simp <;> rfl) (by go_simp <;> rfl)
          obtain ⟨q39a, q39b, q39c, q39g, q39d, q39e, q39f, q39h, q39z⟩ := cells4 (b := w.heap.size + 1) hw12 (by go_size) (by go_simp <;> rfl) (by go_simp <;> rfl) (by go_simp <;> rfl) (by go_simp <;> rfl) (by go_simp <;> rfl) (by go_simp <;> rfl) (by go_simp <;> rfl) (by go_simp <;> rfl)
          obtain ⟨r39a, r39b, r39c, r39g, r39d, r39e, r39f, r39h, r39z⟩ := cells4 (b := w.heap.size + 1 + 1) hw12 (by go_size) (by go_simp <;> rfl) (by go_simp <;> rfl) (by go_simp <;> rfl) (by go_simp <;> rfl) (by go_simp <;> rfl) (by go_simp <;> rfl) (by go_simp <;> rfl) (by go_simp <;> rfl)
          clear p38a p38b p38c p38g p38d p38e p38f p38h p38z q38a q38b q38c q38g q38d q38e q38f q38h q38z r38a r38b r38c r38g r38d r38e r38f r38h r38z hw12
          go_wp2_with fail
          go_meet
          exact ⟨rfl, ⟨p39a, p39b, p39c, p39g, p39d, p39e, p39f, p39h, p39z⟩, ⟨q39a, q39b, q39c, q39g, q39d, q39e, q39f, q39h, q39z⟩, ⟨r39a, r39b, r39c, r39g, r39d, r39e, r39f, r39h, r39z⟩, bw12⟩
        · have cD : pcov p r = true := cov_trans cA cC
          go_wp2_with fail
          refine (papa_any p q _).mono ?_
          rintro e w7 ⟨rfl, hw7⟩
          have zw7 := hw7.size
          have bw7 := below_of (w := w) (by go_grown) hw7
          try simp at zw7
          obtain ⟨p40a, p40b, p40c, p40g, p40d, p40e, p40f, p40h, p40z⟩ := cells4 (b := w.heap.size) hw7 (by go_size) (by go_simp <;> rfl) (by go_simp <;> rfl) (by go_simp <;> rfl) (by go_simp <;> rfl) (by go_simp <;> rfl) (by go_simp <;> rfl) (by go_simp <;> rfl) (by go_simp <;> rfl)
          obtain ⟨q40a, q40b, q40c, q40g, q40d, q40e, q40f, q40h, q40z⟩ := cells4 (b := w.heap.size + 1) hw7 (by go_size) (by go_simp <;> rfl) (by go_simp <;> rfl) (by go_simp <;> rfl) (by go_simp <;> rfl) (by go_simp <;> rfl) (by go_simp <;> rfl) (by go_simp <;> rfl) (by go_simp <;> rfl)
          obtain ⟨r40a, r40b, r40c, r40g, r40d, r40e, r40f, r40h, r40z⟩ := cells4 (b := w.heap.size + 1 + 1) hw7 (by go_size) (by go_simp <;> rfl) (by go_simp <;> rfl) (by go_simp <;> rfl) (by go_simp <;> rfl) (by go_simp <;> rfl) (by go_simp <;> rfl) (by go_simp <;> rfl) (by go_simp <;> rfl)
          clear p15a p15b p15c p15g p15d p15e p15f p15h p15z q15a q15b q15c q15g q15d q15e q15f q15h q15z r15a r15b r15c r15g r15d r15e r15f r15h r15z hw7
          go_wp2_with fail
          refine (pcov_any q r _).mono ?_
          rintro e w8 ⟨rfl, hw8⟩
          have zw8 := hw8.size
          have bw8 := below_of (w := w) (by go_grown) hw8
          try simp at zw8
          obtain ⟨p41a, p41b, p41c, p41g, p41d, p41e, p41f, p41h, p41z⟩ := cells4 (b := w.heap.size) hw8 (by go_size) (by go_simp <;> rfl) (by go_simp <;> rfl) (by go_simp <;> rfl) (by go_simp <;> rfl) (by go_simp <;> rfl) (by go_simp <;> rfl) (by go_simp <;> rfl) (by go_simp <;> rfl)
          obtain ⟨q41a, q41b, q41c, q41g, q41d, q41e, q41f, q41h, q41z⟩ := cells4 (b := w.heap.size + 1) hw8 (by go_size) (by go_simp <;> rfl) (by go_simp <;> rfl) (by go_simp <;> rfl) (by go_simp <;> rfl) (by go_simp <;> rfl) (by go_simp <;> rfl) (by go_simp <;> rfl) (by go_simp <;> rfl)
          obtain ⟨r41a, r41b, r41c, r41g, r41d, r41e, r41f, r41h, r41z⟩ := cells4 (b := w.heap.size + 1 + 1) hw8 (by go_size) (by go_simp <;> rfl) (by go_simp <;> rfl) (by go_simp <;> rfl) (by go_simp <;> rfl) (by go_simp <;> rfl) (by go_simp <;> rfl) (by go_simp <;> rfl) (by go_simp <;> rfl)
          clear p40a p40b p40c p40g p40d p40e p40f p40h p40z q40a q40b q40c q40g q40d q40e q40f q40h q40z r40a r40b r40c r40g r40d r40e r40f r40h r40z hw8
          go_wp2_with fail
          refine (pcov_any p r _).mono ?_
          rintro e w9 ⟨rfl, hw9⟩
          have zw9 := hw9.size
          have bw9 := below_of (w := w) (by go_grown) hw9
          try simp at zw9
          obtain ⟨p42a, p42b, p42c, p42g, p42d, p42e, p42f, p42h, p42z⟩ := cells4 (b := w.heap.size) hw9 (by go_size) (by go_simp <;> rfl) (by go_simp <;> rfl) (by go_simp <;> rfl) (by go_simp <;> rfl) (by go_simp <;> rfl) (by go_simp <;> rfl) (by go_simp <;> rfl) (by go_simp <;> rfl)
          obtain ⟨q42a, q42b, q42c, q42g, q42d, q42e, q42f, q42h, q42z⟩ := cells4 (b := w.heap.size + 1) hw9 (by go_size) (by go_simp <;> rfl) (by go_simp <;> rfl) (by go_simp <;> rfl) (by go_simp <;> rfl) (by go_simp <;> rfl) (by go_simp <;> rfl) (by go_simp <;> rfl) (by go_simp <;> rfl)
          obtain ⟨r42a, r42b, r42c, r42g, r42d, r42e, r42f, r42h, r42z⟩ := cells4 (b := w.heap.size + 1 + 1) hw9 (by go_size) (by go_simp <;> rfl) (by go_simp <;> rfl) (by go_simp <;> rfl) (by go_simp <;> rfl) (by go_simp <;> rfl) (by go_simp <;> rfl) (by go_simp <;> rfl) (by go_simp <;> rfl)
          clear p41a p41b p41c p41g p41d p41e p41f p41h p41z q41a q41b q41c q41g q41d q41e q41f q41h q41z r41a r41b r41c r41g r41d r41e r41f r41h r41z hw9
          go_wp2_with fail
          refine (pcov_any p p _).mono ?_
          rintro e w10 ⟨rfl, hw10⟩
          have zw10 := hw10.size
          have bw10 := below_of (w := w) (by go_grown) hw10
          try simp at zw10
          obtain ⟨p43a, p43b, p43c, p43g, p43d, p43e, p43f, p43h, p43z⟩ := cells4 (b := w.heap.size) hw10 (by go_size) (by go_simp <;> rfl) (by go_simp <;> rfl) (by go_simp <;> rfl) (by go_simp <;> rfl) (by go_simp <;> rfl) (by go_simp <;> rfl) (by go_simp <;> rfl) (by go_simp <;> rfl)
          obtain ⟨q43a, q43b, q43c, q43g, q43d, q43e, q43f, q43h, q43z⟩ := cells4 (b := w.heap.size + 1) hw10 (by go_size) (by go_simp <;> rfl) (by go_simp <;> rfl) (by go_simp <;> rfl) (by go_simp <;> rfl) (by go_simp <;> rfl) (by go_simp <;> rfl) (by go_simp <;> rfl) (by go_simp <;> rfl)
          obtain ⟨r43a, r43b, r43c, r43g, r43d, r43e, r43f, r43h, r43z⟩ := cells4 (b := w.heap.size + 1 + 1) hw10 (by go_size) (by go_simp <;> rfl) (by go_simp <;> rfl) (by go_simp <;> rfl) (by go_simp <;> rfl) (by go_simp <;> rfl) (by go_simp <;> rfl) (by go_simp <;> rfl) (by go_simp <;> rfl)
          clear p42a p42b p42c p42g p42d p42e p42f p42h p42z q42a q42b q42c q42g q42d q42e q42f q42h q42z r42a r42b r42c r42g r42d r42e r42f r42h r42z hw10
          go_wp2_with fail
          refine (pins_any p p _).mono ?_
          rintro e w11 ⟨rfl, hw11⟩
          have zw11 := hw11.size
          have bw11 := below_of (w := w) (by go_grown) hw11
          try simp at zw11
          obtain ⟨p44a, p44b, p44c, p44g, p44d, p44e, p44f, p44h, p44z⟩ := cells4 (b := w.heap.size) hw11 (by go_size) (by go_simp <;> rfl) (by go_simp <;> rfl) (by go_simp <;> rfl) (by go_simp <;> rfl) (by go_simp <;> rfl) (by go_simp <;> rfl) (by go_simp <;> rfl) (by go_simp <;> rfl)
          obtain ⟨q44a, q44b, q44c, q44g, q44d, q44e, q44f, q44h, q44z⟩ := cells4 (b := w.heap.size + 1) hw11 (by go_size) (by go_simp <;> rfl) (by go_simp <;> rfl) (by go_simp <;> rfl) (by go_simp <;> rfl) (by go_simp <;> rfl) (by go_simp <;> rfl) (by go_simp <;> rfl) (by go_simp <;> rfl)
          obtain ⟨r44a, r44b, r44c, r44g, r44d, r44e, r44f, r44h, r44z⟩ := cells4 (b := w.heap.size + 1 + 1) hw11 (by go_size) (by go_simp <;> rfl) (by go_simp <;> rfl) (by go_simp <;> rfl) (by go_simp <;> rfl) (by go_simp <;> rfl) (by go_simp <;> rfl) (by go_simp <;> rfl) (by go_simp <;> rfl)
          clear p43a p43b p43c p43g p43d p43e p43f p43h p43z q43a q43b q43c q43g q43d q43e q43f q43h q43z r43a r43b r43c r43g r43d r43e r43f r43h r43z hw11
          go_wp2_with fail
          refine (pins_any p q _).mono ?_
          rintro e w12 ⟨rfl, hw12⟩
          have zw12 := hw12.size
          have bw12 := below_of (w := w) (by go_grown) hw12
          try simp at zw12
          obtain ⟨p45a, p45b, p45c, p45g, p45d, p45e, p45f, p45h, p45z⟩ := cells4 (b := w.heap.size) hw12 (by go_size) (by go_simp <;> rfl) (by go_simp <;> rfl) (by go_simp <;> rfl) (by go_simp <;> rfl) (by go_simp <;> rfl) (by go_simp <;> rfl) (by go_simp <;> rfl) (by go_simp <;> rfl)
          obtain ⟨q45a, q45b, q45c, q45g, q45d, q45e, q45f, q45h, q45z⟩ := cells4 (b := w.heap.size + 1) hw12 (by go_size) (by go_simp <;> rfl) (by go_simp <;> rfl) (by go_simp <;> rfl) (by go_simp <;> rfl) (by go_simp <;> rfl) (by go_simp <;> rfl) (by go_simp <;> rfl) (by go_simp <;> rfl)
          obtain ⟨r45a, r45b, r45c, r45g, r45d, r45e, r45f, r45h, r45z⟩ := cells4 (b := w.heap.size + 1 + 1) hw12 (by go_size) (by go_simp <;> rfl) (by go_simp <;> rfl) (by go_simp <;> rfl) (by go_simp <;> rfl) (by go_simp <;> rfl) (by go_simp <;> rfl) (by go_simp <;> rfl) (by go_simp <;> rfl)
          clear p44a p44b p44c p44g p44d p44e p44f p44h p44z q44a q44b q44c q44g q44d q44e q44f q44h q44z r44a r44b r44c r44g r44d r44e r44f r44h r44z hw12
          go_wp2_with fail
          go_meet
          exact ⟨rfl, ⟨p45a, p45b, p45c, p45g, p45d, p45e, p45f, p45h, p45z⟩, ⟨q45a, q45b, q45c, q45g, q45d, q45e, q45f, q45h, q45z⟩, ⟨r45a, r45b, r45c, r45g, r45d, r45e, r45f, r45h, r45z⟩, bw12⟩
  case rest =>
    clear p15a p15b p15c p15g p15d p15e p15f p15h p15z q15a q15b q15c q15g q15d q15e q15f q15h q15z r15a r15b r15c r15g r15d r15e r15f r15h r15z
    obtain ⟨rfl, ⟨p46a, p46b, p46c, p46g, p46d, p46e, p46f, p46h, p46z⟩, ⟨q46a, q46b, q46c, q46g, q46d, q46e, q46f, q46h, q46z⟩, ⟨r46a, r46b, r46c, r46g, r46d, r46e, r46f, r46h, r46z⟩, hB⟩ := hcut
    clear bw1 bw2 bw3 bw4 bw5 bw6 zw1 zw2 zw3 zw4 zw5 zw6
    have zc := hB.size
    by_cases hv : p.a.v6 = q.a.v6
    · have j2 : (pjoin p q).2 = true := by rw [HJ.out hv]
      obtain ⟨k1, k2⟩ := HC.out hv
      have L0 := Lib.hid (HL.out hv 0)
      have L1 := Lib.hid (HL.out hv 1)
      have hch := child_two (pjoin p q).1
      clear hv HL HC HJ HA
      go_wp2_with fail
      refine (pjoin_any p q _).mono ?_
      rintro e w7 ⟨rfl, hw7⟩
      have zw7 := hw7.size
      have bw7 := below_of (w := w) (by go_grown) hw7
      try simp at zw7
      obtain ⟨p47a, p47b, p47c, p47g, p47d, p47e, p47f, p47h, p47z⟩ := cells4 (b := w.heap.size) hw7 (by go_size) (by go_simp <;> rfl) (by go_simp <;> rfl) (by go_simp <;> rfl) (by go_simp <;> rfl) (by go_simp <;> rfl) (by go_simp <;> rfl) (by go_simp <;> rfl) (by go_simp <;> rfl)
      obtain ⟨q47a, q47b, q47c, q47g, q47d, q47e, q47f, q47h, q47z⟩ := cells4 (b := w.heap.size + 1) hw7 (by go_size) (by go_simp <;> rfl) (by go_simp <;> rfl) (by go_simp <;> rfl) (by go_simp <;> rfl) (by go_simp <;> rfl) (by go_simp <;> rfl) (by go_simp <;> rfl) (by go_simp <;> rfl)
      obtain ⟨r47a, r47b, r47c, r47g, r47d, r47e, r47f, r47h, r47z⟩ := cells4 (b := w.heap.size + 1 + 1) hw7 (by go_size) (by go_simp <;> rfl) (by go_simp <;> rfl) (by go_simp <;> rfl) (by go_simp <;> rfl) (by go_simp <;> rfl) (by go_simp <;> rfl) (by go_simp <;> rfl) (by go_simp <;> rfl)
      clear p46a p46b p46c p46g p46d p46e p46f p46h p46z q46a q46b q46c q46g q46d q46e q46f q46h q46z r46a r46b r46c r46g r46d r46e r46f r46h r46z hw7
      go_wp2_with fail
      refine (pchild_any (pjoin p q).1 0 _).mono ?_
      rintro e w8 ⟨rfl, hw8⟩
      have zw8 := hw8.size
      have bw8 := below_of (w := w) (by go_grown) hw8
      try simp at zw8
      obtain ⟨p48a, p48b, p48c, p48g, p48d, p48e, p48f, p48h, p48z⟩ := cells4 (b := w.heap.size) hw8 (by go_size) (by go_simp <;> rfl) (by go_simp <;> rfl) (by go_simp <;> rfl) (by go_simp <;> rfl) (by go_simp <;> rfl) (by go_simp <;> rfl) (by go_simp <;> rfl) (by go_simp <;> rfl)
      obtain ⟨q48a, q48b, q48c, q48g, q48d, q48e, q48f, q48h, q48z⟩ := cells4 (b := w.heap.size + 1) hw8 (by go_size) (by go_simp <;> rfl) (by go_simp <;> rfl) (by go_simp <;> rfl) (by go_simp <;> rfl) (by go_simp <;> rfl) (by go_simp <;> rfl) (by go_simp <;> rfl) (by go_simp <;> rfl)
      obtain ⟨r48a, r48b, r48c, r48g, r48d, r48e, r48f, r48h, r48z⟩ := cells4 (b := w.heap.size + 1 + 1) hw8 (by go_size) (by go_simp <;> rfl) (by go_simp <;> rfl) (by go_simp <;> rfl) (by go_simp <;> rfl) (by go_simp <;> rfl) (by go_simp <;> rfl) (by go_simp <;> rfl) (by go_simp <;> rfl)
      obtain ⟨j48a, j48b, j48c, j48g, j48d, j48e, j48f, j48h, j48z⟩ := cells4 (b := w7.heap.size) hw8 (by go_size) (by go_simp <;> rfl) (by go_simp <;> rfl) (by go_simp <;> rfl) (by go_simp <;> rfl) (by go_simp <;> rfl) (by go_simp <;> rfl) (by go_simp <;> rfl) (by go_simp <;> rfl)
      clear p47a p47b p47c p47g p47d p47e p47f p47h p47z q47a q47b q47c q47g q47d q47e q47f q47h q47z r47a r47b r47c r47g r47d r47e r47f r47h r47z hw8
      go_wp2_with fail
      refine (pchild_any (pjoin p q).1 1 _).mono ?_
      rintro e w9 ⟨rfl, hw9⟩
      have zw9 := hw9.size
      have bw9 := below_of (w := w) (by go_grown) hw9
      try simp at zw9
      obtain ⟨p49a, p49b, p49c, p49g, p49d, p49e, p49f, p49h, p49z⟩ := cells4 (b := w.heap.size) hw9 (by go_size) (by go_simp <;> rfl) (by go_simp <;> rfl) (by go_simp <;> rfl) (by go_simp <;> rfl) (by go_simp <;> rfl) (by go_simp <;> rfl) (by go_simp <;> rfl) (by go_simp <;> rfl)
      obtain ⟨q49a, q49b, q49c, q49g, q49d, q49e, q49f, q49h, q49z⟩ := cells4 (b := w.heap.size + 1) hw9 (by go_size) (by go_simp <;> rfl) (by go_simp <;> rfl) (by go_simp <;> rfl) (by go_simp <;> rfl) (by go_simp <;> rfl) (by go_simp <;> rfl) (by go_simp <;> rfl) (by go_simp <;> rfl)
      obtain ⟨r49a, r49b, r49c, r49g, r49d, r49e, r49f, r49h, r49z⟩ := cells4 (b := w.heap.size + 1 + 1) hw9 (by go_size) (by go_simp <;> rfl) (by go_simp <;> rfl) (by go_simp <;> rfl) (by go_simp <;> rfl) (by go_simp <;> rfl) (by go_simp <;> rfl) (by go_simp <;> rfl) (by go_simp <;> rfl)
      obtain ⟨j49a, j49b, j49c, j49g, j49d, j49e, j49f, j49h, j49z⟩ := cells4 (b := w7.heap.size) hw9 (by go_size) (by go_simp <;> rfl) (by go_simp <;> rfl) (by go_simp <;> rfl) (by go_simp <;> rfl) (by go_simp <;> rfl) (by go_simp <;> rfl) (by go_simp <;> rfl) (by go_simp <;> rfl)
      obtain ⟨c49a, c49b, c49c, c49g, c49d, c49e, c49f, c49h, c49z⟩ := cells4 (b := w8.heap.size) hw9 (by go_size) (by go_simp <;> rfl) (by go_simp <;> rfl) (by go_simp <;> rfl) (by go_simp <;> rfl) (by go_simp <;> rfl) (by go_simp <;> rfl) (by go_simp <;> rfl) (by go_simp <;> rfl)
      clear p48a p48b p48c p48g p48d p48e p48f p48h p48z q48a q48b q48c q48g q48d q48e q48f q48h q48z r48a r48b r48c r48g r48d r48e r48f r48h r48z j48a j48b j48c j48g j48d j48e j48f j48h j48z hw9
      go_wp2_with fail
      refine (pcov_any (pjoin p q).1 p _).mono ?_
      rintro e w10 ⟨rfl, hw10⟩
      have zw10 := hw10.size
      have bw10 := below_of (w := w) (by go_grown) hw10
      try simp at zw10
      obtain ⟨p50a, p50b, p50c, p50g, p50d, p50e, p50f, p50h, p50z⟩ := cells4 (b := w.heap.size) hw10 (by go_size) (by go_simp <;> rfl) (by go_simp <;> rfl) (by go_simp <;> rfl) (by go_simp <;> rfl) (by go_simp <;> rfl) (by go_simp <;> rfl) (by go_simp <;> rfl) (by go_simp <;> rfl)
      obtain ⟨q50a, q50b, q50c, q50g, q50d, q50e, q50f, q50h, q50z⟩ := cells4 (b := w.heap.size + 1) hw10 (by go_size) (by go_simp <;> rfl) (by go_simp <;> rfl) (by go_simp <;> rfl) (by go_simp <;> rfl) (by go_simp <;> rfl) (by go_simp <;> rfl) (by go_simp <;> rfl) (by go_simp <;> rfl)
      obtain ⟨r50a, r50b, r50c, r50g, r50d, r50e, r50f, r50h, r50z⟩ := cells4 (b := w.heap.size + 1 + 1) hw10 (by go_size) (by go_simp <;> rfl) (by go_simp <;> rfl) (by go_simp <;> rfl) (by go_simp <;> rfl) (by go_simp <;> rfl) (by go_simp <;> rfl) (by go_simp <;> rfl) (by go_simp <;> rfl)
      obtain ⟨j50a, j50b, j50c, j50g, j50d, j50e, j50f, j50h, j50z⟩ := cells4 (b := w7.heap.size) hw10 (by go_size) (by go_simp <;> rfl) (by go_simp <;> rfl) (by go_simp <;> rfl) (by go_simp <;> rfl) (by go_simp <;> rfl) (by go_simp <;> rfl) (by go_simp <;> rfl) (by go_simp <;> rfl)
      obtain ⟨c50a, c50b, c50c, c50g, c50d, c50e, c50f, c50h, c50z⟩ := cells4 (b := w8.heap.size) hw10 (by go_size) (by go_simp <;> rfl) (by go_simp <;> rfl) (by go_simp <;> rfl) (by go_simp <;> rfl) (by go_simp <;> rfl) (by go_simp <;> rfl) (by go_simp <;> rfl) (by go_simp <;> rfl)
      obtain ⟨d50a, d50b, d50c, d50g, d50d, d50e, d50f, d50h, d50z⟩ := cells4 (b := w9.heap.size) hw10 (by go_size) (by go_simp <;> rfl) (by go_simp <;> rfl) (by go_simp <;> rfl) (by go_simp <;> rfl) (by go_simp <;> rfl) (by go_simp <;> rfl) (by go_simp <;> rfl) (by go_simp <;> rfl)
      clear p49a p49b p49c p49g p49d p49e p49f p49h p49z q49a q49b q49c q49g q49d q49e q49f q49h q49z r49a r49b r49c r49g r49d r49e r49f r49h r49z j49a j49b j49c j49g j49d j49e j49f j49h j49z c49a c49b c49c c49g c49d c49e c49f c49h c49z hw10
      go_wp2_with fail
      refine (pcov_any (pjoin p q).1 q _).mono ?_
      rintro e w11 ⟨rfl, hw11⟩
      have zw11 := hw11.size
      have bw11 := below_of (w := w) (by go_grown) hw11
      try simp at zw11
      obtain ⟨p51a, p51b, p51c, p51g, p51d, p51e, p51f, p51h, p51z⟩ := cells4 (b := w.heap.size) hw11 (by go_size) (by go_simp <;> rfl) (by go_simp <;> rfl) (by go_simp <;> rfl) (by go_simp <;> rfl) (by go_simp <;> rfl) (by go_simp <;> rfl) (by go_simp <;> rfl) (by go_simp <;> rfl)
      obtain ⟨q51a, q51b, q51c, q51g, q51d, q51e, q51f, q51h, q51z⟩ := cells4 (b := w.heap.size + 1) hw11 (by go_size) (by go_simp <;> rfl) (by go_simp <;> rfl) (by go_simp <;> rfl) (by go_simp <;> rfl) (by go_simp <;> rfl) (by go_simp <;> rfl) (by go_simp <;> rfl) (by go_simp <;> rfl)
      obtain ⟨r51a, r51b, r51c, r51g, r51d, r51e, r51f, r51h, r51z⟩ := cells4 (b := w.heap.size + 1 + 1) hw11 (by go_size) (by go_simp <;> rfl) (by go_simp <;> rfl) (by go_simp <;> rfl) (by go_simp <;> rfl) (by go_simp <;> rfl) (by go_simp <;> rfl) (by go_simp <;> rfl) (by go_simp <;> rfl)
      obtain ⟨j51a, j51b, j51c, j51g, j51d, j51e, j51f, j51h, j51z⟩ := cells4 (b := w7.heap.size) hw11 (by go_size) (by go_simp <;> rfl) (by go_simp <;> rfl) (by go_simp <;> rfl) (by go_simp <;> rfl) (by go_simp <;> rfl) (by go_simp <;> rfl) (by go_simp <;> rfl) (by go_simp <;> rfl)
      obtain ⟨c51a, c51b, c51c, c51g, c51d, c51e, c51f, c51h, c51z⟩ := cells4 (b := w8.heap.size) hw11 (by go_size) (by go_simp <;> rfl) (by go_simp <;> rfl) (by go_simp <;> rfl) (by go_simp <;> rfl) (by go_simp <;> rfl) (by go_simp <;> rfl) (by go_simp <;> rfl) (by go_simp <;> rfl)
      obtain ⟨d51a, d51b, d51c, d51g, d51d, d51e, d51f, d51h, d51z⟩ := cells4 (b := w9.heap.size) hw11 (by go_size) (by go_simp <;> rfl) (by go_simp <;> rfl) (by go_simp <;> rfl) (by go_simp <;> rfl) (by go_simp <;> rfl) (by go_simp <;> rfl) (by go_simp <;> rfl) (by go_simp <;> rfl)
      clear p50a p50b p50c p50g p50d p50e p50f p50h p50z q50a q50b q50c q50g q50d q50e q50f q50h q50z r50a r50b r50c r50g r50d r50e r50f r50h r50z j50a j50b j50c j50g j50d j50e j50f j50h j50z c50a c50b c50c c50g c50d c50e c50f c50h c50z d50a d50b d50c d50g d50d d50e d50f d50h d50z hw11
      cases h0 : (pchild (pjoin p q).1 0).2
      · have h1 : (pchild (pjoin p q).1 1).2 = false := by rw [← hch]; exact h0
        clear hch
        go_wp2
        go_ret
        exact ⟨rfl, bw11⟩
      · have h1 : (pchild (pjoin p q).1 1).2 = true := by rw [← hch]; exact h0
        clear hch
        go_wp2_with fail
        refine (pcov_any (pchild (pjoin p q).1 0).1 p _).mono ?_
        rintro e w12 ⟨rfl, hw12⟩
        have zw12 := hw12.size
        have bw12 := below_of (w := w) (by go_grown) hw12
        try simp at zw12
        obtain ⟨p52a, p52b, p52c, p52g, p52d, p52e, p52f, p52h, p52z⟩ := cells4 (b := w.heap.size) hw12 (by go_size) (by go_simp <;> rfl) (by go_simp <;> rfl) (by go_simp <;> rfl) (by go_simp <;> rfl) (by go_simp <;> rfl) (by go_simp <;> rfl) (by go_simp <;> rfl) (by go_simp <;> rfl)
        obtain ⟨q52a, q52b, q52c, q52g, q52d, q52e, q52f, q52h, q52z⟩ := cells4 (b := w.heap.size + 1) hw12 (by go_size) (by go_simp <;> rfl) (by go_simp <;> rfl) (by go_simp <;> rfl) (by go_simp <;> rfl) (by go_simp <;> rfl) (by go_simp <;> rfl) (by go_simp <;> rfl) (by go_simp <;> rfl)
        obtain ⟨r52a, r52b, r52c, r52g, r52d, r52e, r52f, r52h, r52z⟩ := cells4 (b := w.heap.size + 1 + 1) hw12 (by go_size) (by go_simp <;> rfl) (by go_simp <;> rfl) (by go_simp <;> rfl) (by go_simp <;> rfl) (by go_simp <;> rfl) (by go_simp <;> rfl) (by go_simp <;> rfl) (by go_simp <;> rfl)
        obtain ⟨j52a, j52b, j52c, j52g, j52d, j52e, j52f, j52h, j52z⟩ := cells4 (b := w7.heap.size) hw12 (by go_size) (by go_simp <;> rfl) (by go_simp <;> rfl) (by go_simp <;> rfl) (by go_simp <;> rfl) (by go_simp <;> rfl) (by go_simp <;> rfl) (by go_simp <;> rfl) (by go_simp <;> rfl)
        obtain ⟨c52a, c52b, c52c, c52g, c52d, c52e, c52f, c52h, c52z⟩ := cells4 (b := w8.heap.size) hw12 (by go_size) (by go_simp <;> rfl) (by go_simp <;> rfl) (by go_simp <;> rfl) (by go_simp <;> rfl) (by go_simp <;> rfl) (by go_simp <;> rfl) (by go_simp <;> rfl) (by go_simp <;> rfl)
        obtain ⟨d52a, d52b, d52c, d52g, d52d, d52e, d52f, d52h, d52z⟩ := cells4 (b := w9.heap.size) hw12 (by go_size) (by go_simp <;> rfl) (by go_simp <;> rfl) (by go_simp <;> rfl) (by go_simp <;> rfl) (by go_simp <;> rfl) (by go_simp <;> rfl) (by go_simp <;> rfl) (by go_simp <;> rfl)
        clear p51a p51b p51c p51g p51d p51e p51f p51h p51z q51a q51b q51c q51g q51d q51e q51f q51h q51z r51a r51b r51c r51g r51d r51e r51f r51h r51z j51a j51b j51c j51g j51d j51e j51f j51h j51z c51a c51b c51c c51g c51d c51e c51f c51h c51z d51a d51b d51c d51g d51d d51e d51f d51h d51z hw12
        cases c1 : pcov (pchild (pjoin p q).1 0).1 p
        · go_wp2_with fail
          refine (pcov_any (pchild (pjoin p q).1 1).1 p _).mono ?_
          rintro e w13 ⟨rfl, hw13⟩
          have zw13 := hw13.size
          have bw13 := below_of (w := w) (by go_grown) hw13
          try simp at zw13
          obtain ⟨p53a, p53b, p53c, p53g, p53d, p53e, p53f, p53h, p53z⟩ := cells4 (b := w.heap.size) hw13 (by go_size) (by go_simp <;> rfl) (by go_simp <;> rfl) (by go_simp <;> rfl) (by go_simp <;> rfl) (by go_simp <;> rfl) (by go_simp <;> rfl) (by go_simp <;> rfl) (by go_simp <;> rfl)
          obtain ⟨q53a, q53b, q53c, q53g, q53d, q53e, q53f, q53h, q53z⟩ := cells4 (b := w.heap.size + 1) hw13 (by go_size) (by go_simp <;> rfl) (by go_simp <;> rfl) (by go_simp <;> rfl) (by go_simp <;> rfl) (by go_simp <;> rfl) (by go_simp <;> rfl) (by go_simp <;> rfl) (by go_simp <;> rfl)
          obtain ⟨r53a, r53b, r53c, r53g, r53d, r53e, r53f, r53h, r53z⟩ := cells4 (b := w.heap.size + 1 + 1) hw13 (by go_size) (by go_simp <;> rfl) (by go_simp <;> rfl) (by go_simp <;> rfl) (by go_simp <;> rfl) (by go_simp <;> rfl) (by go_simp <;> rfl) (by go_simp <;> rfl) (by go_simp <;> rfl)
          obtain ⟨j53a, j53b, j53c, j53g, j53d, j53e, j53f, j53h, j53z⟩ := cells4 (b := w7.heap.size) hw13 (by go_size) (by go_simp <;> rfl) (by go_simp <;> rfl) (by go_simp <;> rfl) (by go_simp <;> rfl) (by go_simp <;> rfl) (by go_simp <;> rfl) (by go_simp <;> rfl) (by go_simp <;> rfl)
          obtain ⟨c53a, c53b, c53c, c53g, c53d, c53e, c53f, c53h, c53z⟩ := cells4 (b := w8.heap.size) hw13 (by go_size) (by go_simp <;> rfl) (by go_simp <;> rfl) (by go_simp <;> rfl) (by go_simp <;> rfl) (by go_simp <;> rfl) (by go_simp <;> rfl) (by go_simp <;> rfl) (by go_simp <;> rfl)
          obtain ⟨d53a, d53b, d53c, d53g, d53d, d53e, d53f, d53h, d53z⟩ := cells4 (b := w9.heap.size) hw13 (by go_size) (by go_simp <;> rfl) (by go_simp <;> rfl) (by go_simp <;> rfl) (by go_simp <;> rfl) (by go_simp <;> rfl) (by go_simp <;> rfl) (by go_simp <;> rfl) (by go_simp <;> rfl)
          clear p52a p52b p52c p52g p52d p52e p52f p52h p52z q52a q52b q52c q52g q52d q52e q52f q52h q52z r52a r52b r52c r52g r52d r52e r52f r52h r52z j52a j52b j52c j52g j52d j52e j52f j52h j52z c52a c52b c52c c52g c52d c52e c52f c52h c52z d52a d52b d52c d52g d52d d52e d52f d52h d52z hw13
          cases d1 : pcov (pchild (pjoin p q).1 1).1 p
          · go_wp2
            go_ret
            exact ⟨rfl, bw13⟩
          · have d2 : pcov (pchild (pjoin p q).1 1).1 q = false := bool_not fun h => L1.out h1 ⟨d1, h⟩
            go_wp2_with fail
            refine (pcov_any (pchild (pjoin p q).1 1).1 q _).mono ?_
            rintro e w15 ⟨rfl, hw15⟩
            have zw15 := hw15.size
            have bw15 := below_of (w := w) (by go_grown) hw15
            try simp at zw15
            obtain ⟨p54a, p54b, p54c, p54g, p54d, p54e, p54f, p54h, p54z⟩ := cells4 (b := w.heap.size) hw15 (by go_size) (by go_simp <;> rfl) (by go_simp <;> rfl) (by go_simp <;> rfl) (by go_simp <;> rfl) (by go_simp <;> rfl) (by go_simp <;> rfl) (by go_simp <;> rfl) (by go_simp <;> rfl)
            obtain ⟨q54a, q54b, q54c, q54g, q54d, q54e, q54f, q54h, q54z⟩ := cells4 (b := w.heap.size + 1) hw15 (by go_size) (by go_simp <;> rfl) (by go_simp <;> rfl) (by go_simp <;> rfl) (by go_simp <;> rfl) (by go_simp <;> rfl) (by go_simp <;> rfl) (by go_simp <;> rfl) (by go_simp <;> rfl)
            obtain ⟨r54a, r54b, r54c, r54g, r54d, r54e, r54f, r54h, r54z⟩ := cells4 (b := w.heap.size + 1 + 1) hw15 (by go_size) (by go_simp <;> rfl) (by go_simp <;> rfl) (by go_simp <;> rfl) (by go_simp <;> rfl) (by go_simp <;> rfl) (by go_simp <;> rfl) (by go_simp <;> rfl) (by go_simp <;> rfl)
            obtain ⟨j54a, j54b, j54c, j54g, j54d, j54e, j54f, j54h, j54z⟩ := cells4 (b := w7.heap.size) hw15 (by go_size) (by go_simp <;> rfl) (by go_simp <;> rfl) (by go_simp <;> rfl) (by go_simp <;> rfl) (by go_simp <;> rfl) (by go_simp <;> rfl) (by go_simp <;> rfl) (by go_simp <;> rfl)
            obtain ⟨c54a, c54b, c54c, c54g, c54d, c54e, c54f, c54h, c54z⟩ := cells4 (b := w8.heap.size) hw15 (by go_size) (by go_simp <;> rfl) (by go_simp <;> rfl) (by go_simp <;> rfl) (by go_simp <;> rfl) (by go_simp <;> rfl) (by go_simp <;> rfl) (by go_simp <;> rfl) (by go_simp <;> rfl)
            obtain ⟨d54a, d54b, d54c, d54g, d54d, d54e, d54f, d54h, d54z⟩ := cells4 (b := w9.heap.size) hw15 (by go_size) (by go_simp <;> rfl) (by go_simp <;> rfl) (by go_simp <;> rfl) (by go_simp <;> rfl) (by go_simp <;> rfl) (by go_simp <;> rfl) (by go_simp <;> rfl) (by go_simp <;> rfl)
            clear p53a p53b p53c p53g p53d p53e p53f p53h p53z q53a q53b q53c q53g q53d q53e q53f q53h q53z r53a r53b r53c r53g r53d r53e r53f r53h r53z j53a j53b j53c j53g j53d j53e j53f j53h j53z c53a c53b c53c c53g c53d c53e c53f c53h c53z d53a d53b d53c d53g d53d d53e d53f d53h d53z hw15
            go_wp2
            go_ret
            exact ⟨rfl, bw15⟩
        · have c2 : pcov (pchild (pjoin p q).1 0).1 q = false := bool_not fun h => L0.out h0 ⟨c1, h⟩
          go_wp2_with fail
          refine (pcov_any (pchild (pjoin p q).1 0).1 q _).mono ?_
          rintro e w14 ⟨rfl, hw14⟩
          have zw14 := hw14.size
          have bw14 := below_of (w := w) (by go_grown) hw14
          try simp at zw14
          obtain ⟨p55a, p55b, p55c, p55g, p55d, p55e, p55f, p55h, p55z⟩ := cells4 (b := w.heap.size) hw14 (by go_size) (by go_simp <;> rfl) (by go_simp <;> rfl) (by go_simp <;> rfl) (by go_simp <;> rfl) (by go_simp <;> rfl) (by go_simp <;> rfl) (by go_simp <;> rfl) (by go_simp <;> rfl)
          obtain ⟨q55a, q55b, q55c, q55g, q55d, q55e, q55f, q55h, q55z⟩ := cells4 (b := w.heap.size + 1) hw14 (by go_size) (by go_simp <;> rfl) (by go_simp <;> rfl) (by go_simp <;> rfl) (by go_simp <;> rfl) (by go_simp <;> rfl) (by go_simp <;> rfl) (by go_simp <;> rfl) (by go_simp <;> rfl)
          obtain ⟨r55a, r55b, r55c, r55g, r55d, r55e, r55f, r55h, r55z⟩ := cells4 (b := w.heap.size + 1 + 1) hw14 (by go_size) (by go_simp <;> rfl) (by go_simp <;> rfl) (by go_simp <;> rfl) (by go_simp <;> rfl) (by go_simp <;> rfl) (by go_simp <;> rfl) (by go_simp <;> rfl) (by go_simp <;> rfl)
          obtain ⟨j55a, j55b, j55c, j55g, j55d, j55e, j55f, j55h, j55z⟩ := cells4 (b := w7.heap.size) hw14 (by go_size) (by go_simp <;> rfl) (by go_simp <;> rfl) (by go_simp <;> rfl) (by go_simp <;> rfl) (by go_simp <;> rfl) (by go_simp <;> rfl) (by go_simp <;> rfl) (by go_simp <;> rfl)
          obtain ⟨c55a, c55b, c55c, c55g, c55d, c55e, c55f, c55h, c55z⟩ := cells4 (b := w8.heap.size) hw14 (by go_size) (by go_simp <;> rfl) (by go_simp <;> rfl) (by go_simp <;> rfl) (by go_simp <;> rfl) (by go_simp <;> rfl) (by go_simp <;> rfl) (by go_simp <;> rfl) (by go_simp <;> rfl)
          obtain ⟨d55a, d55b, d55c, d55g, d55d, d55e, d55f, d55h, d55z⟩ := cells4 (b := w9.heap.size) hw14 (by go_size) (by go_simp <;> rfl) (by go_simp <;> rfl) (by go_simp <;> rfl) (by go_simp <;> rfl) (by go_simp <;> rfl) (by go_simp <;> rfl) (by go_simp <;> rfl) (by go_simp <;> rfl)
          clear p52a p52b p52c p52g p52d p52e p52f p52h p52z q52a q52b q52c q52g q52d q52e q52f q52h q52z r52a r52b r52c r52g r52d r52e r52f r52h r52z j52a j52b j52c j52g j52d j52e j52f j52h j52z c52a c52b c52c c52g c52d c52e c52f c52h c52z d52a d52b d52c d52g d52d d52e d52f d52h d52z hw14
          go_wp2_with fail
          refine (pcov_any (pchild (pjoin p q).1 1).1 p _).mono ?_
          rintro e w13 ⟨rfl, hw13⟩
          have zw13 := hw13.size
          have bw13 := below_of (w := w) (by go_grown) hw13
          try simp at zw13
          obtain ⟨p56a, p56b, p56c, p56g, p56d, p56e, p56f, p56h, p56z⟩ := cells4 (b := w.heap.size) hw13 (by go_size) (by go_simp <;> rfl) (by go_simp <;> rfl) (by go_simp <;> rfl) (by go_simp <;> rfl) (by go_simp <;> rfl) (by go_simp <;> rfl) (by go_simp <;> rfl) (by go_simp <;> rfl)
          obtain ⟨q56a, q56b, q56c, q56g, q56d, q56e, q56f, q56h, q56z⟩ := cells4 (b := w.heap.size + 1) hw13 (by go_size) (by go_simp <;> rfl) (by go_simp <;> rfl) (by go_simp <;> rfl) (by go_simp <;> rfl) (by go_simp <;> rfl) (by go_simp <;> rfl) (by go_simp <;> rfl) (by go_simp <;> rfl)
          obtain ⟨r56a, r56b, r56c, r56g, r56d, r56e, r56f, r56h, r56z⟩ := cells4 (b := w.heap.size + 1 + 1) hw13 (by go_size) (by go_simp <;> rfl) (by go_simp <;> rfl) (by go_simp <;> rfl) (by go_simp <;> rfl) (by go_simp <;> rfl) (by go_simp <;> rfl) (by go_simp <;> rfl) (by go_simp <;> rfl)
          obtain ⟨j56a, j56b, j56c, j56g, j56d, j56e, j56f, j56h, j56z⟩ := cells4 (b := w7.heap.size) hw13 (by go_size) (by go_simp <;> rfl) (by go_simp <;> rfl) (by go_simp <;> rfl) (by go_simp <;> rfl) (by go_simp <;> rfl) (by go_simp <;> rfl) (by go_simp <;> rfl) (by go_simp <;> rfl)
          obtain ⟨c56a, c56b, c56c, c56g, c56d, c56e, c56f, c56h, c56z⟩ := cells4 (b := w8.heap.size) hw13 (by go_size) (by go_simp <;> rfl) (by go_simp <;> rfl) (by go_simp <;> rfl) (by go_simp <;> rfl) (by go_simp <;> rfl) (by go_simp <;> rfl) (by go_simp <;> rfl) (by go_simp <;> rfl)
          obtain ⟨d56a, d56b, d56c, d56g, d56d, d56e, d56f, d56h, d56z⟩ := cells4 (b := w9.heap.size) hw13 (by go_size) (by go_simp <;> rfl) (by go_simp <;> rfl) (by go_simp <;> rfl) (by go_simp <;> rfl) (by go_simp <;> rfl) (by go_simp <;> rfl) (by go_simp <;> rfl) (by go_simp <;> rfl)
          clear p55a p55b p55c p55g p55d p55e p55f p55h p55z q55a q55b q55c q55g q55d q55e q55f q55h q55z r55a r55b r55c r55g r55d r55e r55f r55h r55z j55a j55b j55c j55g j55d j55e j55f j55h j55z c55a c55b c55c c55g c55d c55e c55f c55h c55z d55a d55b d55c d55g d55d d55e d55f d55h d55z hw13
          cases d1 : pcov (pchild (pjoin p q).1 1).1 p
          · go_wp2
            go_ret
            exact ⟨rfl, bw13⟩
          · have d2 : pcov (pchild (pjoin p q).1 1).1 q = false := bool_not fun h => L1.out h1 ⟨d1, h⟩
            go_wp2_with fail
            refine (pcov_any (pchild (pjoin p q).1 1).1 q _).mono ?_
            rintro e w15 ⟨rfl, hw15⟩
            have zw15 := hw15.size
            have bw15 := below_of (w := w) (by go_grown) hw15
            try simp at zw15
            obtain ⟨p57a, p57b, p57c, p57g, p57d, p57e, p57f, p57h, p57z⟩ := cells4 (b := w.heap.size) hw15 (by go_size) (by go_simp <;> rfl) (by go_simp <;> rfl) (by go_simp <;> rfl) (by go_simp <;> rfl) (by go_simp <;> rfl) (by go_simp <;> rfl) (by go_simp <;> rfl) (by go_simp <;> rfl)
            obtain ⟨q57a, q57b, q57c, q57g, q57d, q57e, q57f, q57h, q57z⟩ := cells4 (b := w.heap.size + 1) hw15 (by go_size) (by go_simp <;> rfl) (by go_simp <;> rfl) (by go_simp <;> rfl) (by go_simp <;> rfl) (by go_simp <;> rfl) (by go_simp <;> rfl) (by go_simp <;> rfl) (by go_simp <;> rfl)
            obtain ⟨r57a, r57b, r57c, r57g, r57d, r57e, r57f, r57h, r57z⟩ := cells4 (b := w.heap.size + 1 + 1) hw15 (by go_size) (by go_simp <;> rfl) (by go_simp <;> rfl) (by go_simp <;> rfl) (by go_simp <;> rfl) (by go_simp <;> rfl) (by go_simp <;> rfl) (by go_simp <;> rfl) (by go_simp <;> rfl)
            obtain ⟨j57a, j57b, j57c, j57g, j57d, j57e, j57f, j57h, j57z⟩ := cells4 (b := w7.heap.size) hw15 (by go_size) (by go_simp <;> rfl) (by go_simp <;> rfl) (by go_simp <;> rfl) (by go_simp <;> rfl) (by go_simp <;> rfl) (by go_simp <;> rfl) (by go_simp <;> rfl) (by go_simp <;> rfl)
            obtain ⟨c57a, c57b, c57c, c57g, c57d, c57e, c57f, c57h, c57z⟩ := cells4 (b := w8.heap.size) hw15 (by go_size) (by go_simp <;> rfl) (by go_simp <;> rfl) (by go_simp <;> rfl) (by go_simp <;> rfl) (by go_simp <;> rfl) (by go_simp <;> rfl) (by go_simp <;> rfl) (by go_simp <;> rfl)
            obtain ⟨d57a, d57b, d57c, d57g, d57d, d57e, d57f, d57h, d57z⟩ := cells4 (b := w9.heap.size) hw15 (by go_size) (by go_simp <;> rfl) (by go_simp <;> rfl) (by go_simp <;> rfl) (by go_simp <;> rfl) (by go_simp <;> rfl) (by go_simp <;> rfl) (by go_simp <;> rfl) (by go_simp <;> rfl)
            clear p56a p56b p56c p56g p56d p56e p56f p56h p56z q56a q56b q56c q56g q56d q56e q56f q56h q56z r56a r56b r56c r56g r56d r56e r56f r56h r56z j56a j56b j56c j56g j56d j56e j56f j56h j56z c56a c56b c56c c56g c56d c56e c56f c56h c56z d56a d56b d56c d56g d56d d56e d56f d56h d56z hw15
            go_wp2
            go_ret
            exact ⟨rfl, bw15⟩
    · have hv' : (p.a.v6 == q.a.v6) = false := by simp [hv]
      have j2 : (pjoin p q).2 = false := by rw [join_no hv]
      clear hv
      go_wp2_with fail
      refine (pjoin_any p q _).mono ?_
      rintro e w7 ⟨rfl, hw7⟩
      have zw7 := hw7.size
      have bw7 := below_of (w := w) (by go_grown) hw7
      try simp at zw7
      obtain ⟨p58a, p58b, p58c, p58g, p58d, p58e, p58f, p58h, p58z⟩ := cells4 (b := w.heap.size) hw7 (by go_size) (by go_simp <;> rfl) (by go_simp <;> rfl) (by go_simp <;> rfl) (by go_simp <;> rfl) (by go_simp <;> rfl) (by go_simp <;> rfl) (by go_simp <;> rfl) (by go_simp <;> rfl)
      obtain ⟨q58a, q58b, q58c, q58g, q58d, q58e, q58f, q58h, q58z⟩ := cells4 (b := w.heap.size + 1) hw7 (by go_size) (by go_simp <;> rfl) (by go_simp <;> rfl) (by go_simp <;> rfl) (by go_simp <;> rfl) (by go_simp <;> rfl) (by go_simp <;> rfl) (by go_simp <;> rfl) (by go_simp <;> rfl)
      obtain ⟨r58a, r58b, r58c, r58g, r58d, r58e, r58f, r58h, r58z⟩ := cells4 (b := w.heap.size + 1 + 1) hw7 (by go_size) (by go_simp <;> rfl) (by go_simp <;> rfl) (by go_simp <;> rfl) (by go_simp <;> rfl) (by go_simp <;> rfl) (by go_simp <;> rfl) (by go_simp <;> rfl) (by go_simp <;> rfl)
      clear p46a p46b p46c p46g p46d p46e p46f p46h p46z q46a q46b q46c q46g q46d q46e q46f q46h q46z r46a r46b r46c r46g r46d r46e r46f r46h r46z hw7
      go_wp2
      go_ret
      exact ⟨rfl, by go_grown⟩

theorem pthree_law (p q r : Pf) (w : World) :
    Calls Try.prog 5 #[.agg #[.int .u64 (u p.a.hi), .int .u64 (u p.a.lo), .bool p.a.v6, .int .i64 p.n], .agg #[.int .u64 (u q.a.hi), .int .u64 (u q.a.lo), .bool q.a.v6, .int .i64 q.n], .agg #[.int .u64 (u r.a.hi), .int .u64 (u r.a.lo), .bool r.a.v6, .int .i64 r.n]] w fun e w' => e = .returned (.bool true) ∧ Below w.heap.size w w' := by
  by_cases h : psane p = true ∧ psane q = true ∧ psane r = true
  · exact pthree_yes p q r w h.1 h.2.1 h.2.2
  · exact pthree_not p q r w h

end Go.Proofs.Ytongbfnndphdaaa
