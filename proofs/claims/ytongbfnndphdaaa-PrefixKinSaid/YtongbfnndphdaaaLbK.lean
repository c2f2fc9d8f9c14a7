/-
  PrefixKin returns true, whatever prefix and address. No condition.
-/
import Derived.Test.YtongbfnndphdaaaMathR
import Derived.Test.YtongbfnndphdaaaPi
import Derived.Test.YtongbfnndphdaaaPj
import Derived.Test.YtongbfnndphdaaaLate
namespace Go.Proofs.Ytongbfnndphdaaa
open Go.RowKit

theorem child_full (p : Pf) (v : Int) (hn : p.n = wid p.a.v6) : pchild p v = (nilP, false) := by
  unfold pchild
  split
  · rfl
  · rfl

set_option maxHeartbeats 2000000 in
set_option maxRecDepth 100000 in
theorem pkin_not (p : Pf) (a : Ad) (w : World) (h : ¬ (psane p = true ∧ p.n < wid p.a.v6)) :
    Calls Try.prog 6 #[.agg #[.int .u64 (u p.a.hi), .int .u64 (u p.a.lo), .bool p.a.v6, .int .i64 p.n], .agg #[.int .u64 (u a.hi), .int .u64 (u a.lo), .bool a.v6]] w fun e w' => e = .returned (.bool true) ∧ Below w.heap.size w w' := by
  cases s1 : psane p
  · clear h
    go_enter Try.func6, Try.ntmps6
    go_wp2_with fail
    refine (awake2_any _).mono ?_
    rintro e w1 ⟨rfl, hw1⟩
    have zw1 := hw1.size
    have bw1 := below_of (w := w) (by go_grown) hw1
    try simp at zw1
    obtain ⟨p1a, p1b, p1c, p1g, p1d, p1e, p1f, p1h, p1z⟩ := cells4 (b := w.heap.size) hw1 (by go_size) (by go_simp <;> rfl) (by go_simp <;> rfl) (by go_simp <;> rfl) (by go_simp <;> rfl) (by go_simp <;> rfl) (by go_simp <;> rfl) (by go_simp <;> rfl) (by go_simp <;> rfl)
    obtain ⟨q1a, q1b, q1c, q1d, q1e, q1f, q1z⟩ := cells3 (b := w.heap.size + 1) hw1 (by go_size) (by go_simp <;> rfl) (by go_simp <;> rfl) (by go_simp <;> rfl) (by go_simp <;> rfl) (by go_simp <;> rfl) (by go_simp <;> rfl)
    clear hw1
    go_wp2_with fail
    refine (psane_any p _).mono ?_
    rintro e w2 ⟨rfl, hw2⟩
    have zw2 := hw2.size
    have bw2 := below_of (w := w) (by go_grown) hw2
    try simp at zw2
    have hw1b := below_of (w := w1) (by go_grown) hw2
    obtain ⟨p2a, p2b, p2c, p2g, p2d, p2e, p2f, p2h, p2z⟩ := cells4 hw1b p1z p1a p1b p1c p1g p1d p1e p1f p1h
    obtain ⟨q2a, q2b, q2c, q2d, q2e, q2f, q2z⟩ := cells3 hw1b q1z q1a q1b q1c q1d q1e q1f
    clear p1a p1b p1c p1g p1d p1e p1f p1h p1z q1a q1b q1c q1d q1e q1f q1z hw2 hw1b
    go_wp2
    go_ret
    exact ⟨rfl, bw2⟩
  · have hn : p.n = wid p.a.v6 := by
      obtain ⟨b0, b1⟩ := psane_bd s1
      rcases (show p.n < wid p.a.v6 ∨ p.n = wid p.a.v6 by omega) with h1 | h1
      · exact absurd ⟨s1, h1⟩ h
      · exact h1
    have k0 : (pchild p 0).2 = false := by rw [child_full p 0 hn]
    have k1 : (pchild p 1).2 = false := by rw [child_full p 1 hn]
    have tn : (p.n == wid p.a.v6) = true := by simp [hn]
    clear h hn
    go_enter Try.func6, Try.ntmps6
    go_wp2_with fail
    refine (awake2_any _).mono ?_
    rintro e w1 ⟨rfl, hw1⟩
    have zw1 := hw1.size
    have bw1 := below_of (w := w) (by go_grown) hw1
    try simp at zw1
    obtain ⟨p3a, p3b, p3c, p3g, p3d, p3e, p3f, p3h, p3z⟩ := cells4 (b := w.heap.size) hw1 (by go_size) (by go_simp <;> rfl) (by go_simp <;> rfl) (by go_simp <;> rfl) (by go_simp <;> rfl) (by go_simp <;> rfl) (by go_simp <;> rfl) (by go_simp <;> rfl) (by go_simp <;> rfl)
    obtain ⟨q3a, q3b, q3c, q3d, q3e, q3f, q3z⟩ := cells3 (b := w.heap.size + 1) hw1 (by go_size) (by go_simp <;> rfl) (by go_simp <;> rfl) (by go_simp <;> rfl) (by go_simp <;> rfl) (by go_simp <;> rfl) (by go_simp <;> rfl)
    clear hw1
    go_wp2_with fail
    refine (psane_any p _).mono ?_
    rintro e w2 ⟨rfl, hw2⟩
    have zw2 := hw2.size
    have bw2 := below_of (w := w) (by go_grown) hw2
    try simp at zw2
    have hw1b := below_of (w := w1) (by go_grown) hw2
    obtain ⟨p4a, p4b, p4c, p4g, p4d, p4e, p4f, p4h, p4z⟩ := cells4 hw1b p3z p3a p3b p3c p3g p3d p3e p3f p3h
    obtain ⟨q4a, q4b, q4c, q4d, q4e, q4f, q4z⟩ := cells3 hw1b q3z q3a q3b q3c q3d q3e q3f
    clear p3a p3b p3c p3g p3d p3e p3f p3h p3z q3a q3b q3c q3d q3e q3f q3z hw2 hw1b
    go_wp2_with fail
    refine (pchild_any p 0 _).mono ?_
    rintro e w3 ⟨rfl, hw3⟩
    have zw3 := hw3.size
    have bw3 := below_of (w := w) (by go_grown) hw3
    try simp at zw3
    have hw2b := below_of (w := w2) (by go_grown) hw3
    obtain ⟨p5a, p5b, p5c, p5g, p5d, p5e, p5f, p5h, p5z⟩ := cells4 hw2b p4z p4a p4b p4c p4g p4d p4e p4f p4h
    obtain ⟨q5a, q5b, q5c, q5d, q5e, q5f, q5z⟩ := cells3 hw2b q4z q4a q4b q4c q4d q4e q4f
    clear p4a p4b p4c p4g p4d p4e p4f p4h p4z q4a q4b q4c q4d q4e q4f q4z hw3 hw2b
    go_wp2_with fail
    refine (pchild_any p 1 _).mono ?_
    rintro e w4 ⟨rfl, hw4⟩
    have zw4 := hw4.size
    have bw4 := below_of (w := w) (by go_grown) hw4
    try simp at zw4
    have hw3b := below_of (w := w3) (by go_grown) hw4
    obtain ⟨p6a, p6b, p6c, p6g, p6d, p6e, p6f, p6h, p6z⟩ := cells4 hw3b p5z p5a p5b p5c p5g p5d p5e p5f p5h
    obtain ⟨q6a, q6b, q6c, q6d, q6e, q6f, q6z⟩ := cells3 hw3b q5z q5a q5b q5c q5d q5e q5f
    obtain ⟨l6a, l6b, l6c, l6g, l6d, l6e, l6f, l6h, l6z⟩ := cells4 (b := w3.heap.size) hw4 (by go_size) (by go_simp <;> rfl) (by go_simp <;> rfl) (by go_simp <;> rfl) (by go_simp <;> rfl) (by go_simp <;> rfl) (by go_simp <;> rfl) (by go_simp <;> rfl) (by go_simp <;> rfl)
    clear p5a p5b p5c p5g p5d p5e p5f p5h p5z q5a q5b q5c q5d q5e q5f q5z hw4 hw3b
    go_wp2_with fail
    generalize hW : World.alloc _ _ = W
    have hz : w.heap.size ≤ W.heap.size := by subst hW; go_size
    have hB : Below w.heap.size w W := by subst hW; go_grown
    have hw4b : Below w4.heap.size w4 W := by subst hW; go_grown
    obtain ⟨p7a, p7b, p7c, p7g, p7d, p7e, p7f, p7h, p7z⟩ := cells4 hw4b p6z p6a p6b p6c p6g p6d p6e p6f p6h
    obtain ⟨q7a, q7b, q7c, q7d, q7e, q7f, q7z⟩ := cells3 hw4b q6z q6a q6b q6c q6d q6e q6f
    obtain ⟨l7a, l7b, l7c, l7g, l7d, l7e, l7f, l7h, l7z⟩ := cells4 hw4b l6z l6a l6b l6c l6g l6d l6e l6f l6h
    obtain ⟨r7a, r7b, r7c, r7g, r7d, r7e, r7f, r7h, r7z⟩ := cells4 (W := W) (b := w4.heap.size) (Below.refl _ W) (by subst hW; go_size) (by subst hW; go_simp <;> rfl) (by subst hW; go_simp <;> rfl) (by subst hW; go_simp <;> rfl) (by subst hW; go_simp <;> rfl) (by subst hW; go_simp <;> rfl) (by subst hW; go_simp <;> rfl) (by subst hW; go_simp <;> rfl) (by subst hW; go_simp <;> rfl)
    clear p6a p6b p6c p6g p6d p6e p6f p6h p6z q6a q6b q6c q6d q6e q6f q6z l6a l6b l6c l6g l6d l6e l6f l6h l6z hW hw4b
    have Lp7a := fun x : Later W.heap.size W => (x.cell p7z).trans p7a
    have Lp7b := fun x : Later W.heap.size W => (x.cell p7z).trans p7b
    have Lp7c := fun x : Later W.heap.size W => (x.cell p7z).trans p7c
    have Lp7g := fun x : Later W.heap.size W => (x.cell p7z).trans p7g
    have Lq7a := fun x : Later W.heap.size W => (x.cell q7z).trans q7a
    have Lq7b := fun x : Later W.heap.size W => (x.cell q7z).trans q7b
    have Lq7c := fun x : Later W.heap.size W => (x.cell q7z).trans q7c
    have Ll7a := fun x : Later W.heap.size W => (x.cell l7z).trans l7a
    have Ll7b := fun x : Later W.heap.size W => (x.cell l7z).trans l7b
    have Ll7c := fun x : Later W.heap.size W => (x.cell l7z).trans l7c
    have Ll7g := fun x : Later W.heap.size W => (x.cell l7z).trans l7g
    have Lr7a := fun x : Later W.heap.size W => (x.cell r7z).trans r7a
    have Lr7b := fun x : Later W.heap.size W => (x.cell r7z).trans r7b
    have Lr7c := fun x : Later W.heap.size W => (x.cell r7z).trans r7c
    have Lr7g := fun x : Later W.heap.size W => (x.cell r7z).trans r7g
    try simp only [List.append_eq, List.cons_append, List.nil_append]
    refine region_later W.heap.size (by kernel_rfl) (by kernel_rfl) ?_
    repeat (go_big_quiet_step ((go_at_call 35; exact later_same (width_any _ _))))
    refine wpQuiet_nil ?_
    intro x
    have hx : Below w.heap.size w x.at := hB.trans (x.below.mono hz)
    go_wp2
    go_ret
    exact ⟨rfl, hx⟩

set_option maxHeartbeats 4000000 in
set_option maxRecDepth 100000 in
theorem pkin_yes (p : Pf) (a : Ad) (w : World) (s1 : psane p = true) (h : p.n < wid p.a.v6) :
    Calls Try.prog 6 #[.agg #[.int .u64 (u p.a.hi), .int .u64 (u p.a.lo), .bool p.a.v6, .int .i64 p.n], .agg #[.int .u64 (u a.hi), .int .u64 (u a.lo), .bool a.v6]] w fun e w' => e = .returned (.bool true) ∧ Below w.heap.size w w' := by
  have k0 : (pchild p 0).2 = true := by rw [child_eq p 0 s1 h]
  have k1 : (pchild p 1).2 = true := by rw [child_eq p 1 s1 h]
  have e1 : pfB (u (pparent (pchild p 0).1).1.a.hi) (u (pparent (pchild p 0).1).1.a.lo) (pparent (pchild p 0).1).1.a.v6 (pparent (pchild p 0).1).1.n (u p.a.hi) (u p.a.lo) p.a.v6 p.n = true := (pfEq_iff _ _).2 (by rw [kin_parent p 0 s1 h])
  have e2 : pfB (u (pparent (pchild p 1).1).1.a.hi) (u (pparent (pchild p 1).1).1.a.lo) (pparent (pchild p 1).1).1.a.v6 (pparent (pchild p 1).1).1.n (u p.a.hi) (u p.a.lo) p.a.v6 p.n = true := (pfEq_iff _ _).2 (by rw [kin_parent p 1 s1 h])
  have e3 : pfB (u (psib (pchild p 0).1).1.a.hi) (u (psib (pchild p 0).1).1.a.lo) (psib (pchild p 0).1).1.a.v6 (psib (pchild p 0).1).1.n (u (pchild p 1).1.a.hi) (u (pchild p 1).1.a.lo) (pchild p 1).1.a.v6 (pchild p 1).1.n = true := (pfEq_iff _ _).2 (by rw [kin_sib p 0 1 s1 h (by decide)])
  have e4 : pfB (u (psib (pchild p 1).1).1.a.hi) (u (psib (pchild p 1).1).1.a.lo) (psib (pchild p 1).1).1.a.v6 (psib (pchild p 1).1).1.n (u (pchild p 0).1.a.hi) (u (pchild p 0).1.a.lo) (pchild p 0).1.a.v6 (pchild p 0).1.n = true := (pfEq_iff _ _).2 (by rw [kin_sib p 1 0 s1 h (by decide)])
  have e5 := kin_apart p s1 h
  have e6 : (pcmp (pchild p 0).1 (pchild p 1).1 == -1) = true := by simp [kin_cmp p s1 h]
  obtain ⟨e7, n8⟩ := kin_next p s1 h
  have e8 : adB (u (nextv (fillv (pchild p 0).1.a (pchild p 0).1.n)).1.hi) (u (nextv (fillv (pchild p 0).1.a (pchild p 0).1.n)).1.lo) (nextv (fillv (pchild p 0).1.a (pchild p 0).1.n)).1.v6 (u (maskv (pchild p 1).1.a (pchild p 1).1.n).hi) (u (maskv (pchild p 1).1.a (pchild p 1).1.n).lo) (maskv (pchild p 1).1.a (pchild p 1).1.n).v6 = true := (adEq_iff _ _).2 n8
  have e9 : adB (u (fillv (pchild p 1).1.a (pchild p 1).1.n).hi) (u (fillv (pchild p 1).1.a (pchild p 1).1.n).lo) (fillv (pchild p 1).1.a (pchild p 1).1.n).v6 (u (fillv p.a p.n).hi) (u (fillv p.a p.n).lo) (fillv p.a p.n).v6 = true := (adEq_iff _ _).2 (kin_last p s1 h)
  have e10 := kin_ins p s1 h
  have hc := Lib.hid (kin_con p s1 h a)
  clear n8 h
  go_enter Try.func6, Try.ntmps6
  go_wp2_with fail
  refine (awake2_any _).mono ?_
  rintro e w1 ⟨rfl, hw1⟩
  have zw1 := hw1.size
  have bw1 := below_of (w := w) (by go_grown) hw1
  try simp at zw1
  obtain ⟨p8a, p8b, p8c, p8g, p8d, p8e, p8f, p8h, p8z⟩ := cells4 (b := w.heap.size) hw1 (by go_size) (by go_simp <;> rfl) (by go_simp <;> rfl) (by go_simp <;> rfl) (by go_simp <;> rfl) (by go_simp <;> rfl) (by go_simp <;> rfl) (by go_simp <;> rfl) (by go_simp <;> rfl)
  obtain ⟨q8a, q8b, q8c, q8d, q8e, q8f, q8z⟩ := cells3 (b := w.heap.size + 1) hw1 (by go_size) (by go_simp <;> rfl) (by go_simp <;> rfl) (by go_simp <;> rfl) (by go_simp <;> rfl) (by go_simp <;> rfl) (by go_simp <;> rfl)
  clear hw1
  go_wp2_with fail
  refine (psane_any p _).mono ?_
  rintro e w2 ⟨rfl, hw2⟩
  have zw2 := hw2.size
  have bw2 := below_of (w := w) (by go_grown) hw2
  try simp at zw2
  have hw1b := below_of (w := w1) (by go_grown) hw2
  obtain ⟨p9a, p9b, p9c, p9g, p9d, p9e, p9f, p9h, p9z⟩ := cells4 hw1b p8z p8a p8b p8c p8g p8d p8e p8f p8h
  obtain ⟨q9a, q9b, q9c, q9d, q9e, q9f, q9z⟩ := cells3 hw1b q8z q8a q8b q8c q8d q8e q8f
  clear p8a p8b p8c p8g p8d p8e p8f p8h p8z q8a q8b q8c q8d q8e q8f q8z hw2 hw1b
  go_wp2_with fail
  refine (pchild_any p 0 _).mono ?_
  rintro e w3 ⟨rfl, hw3⟩
  have zw3 := hw3.size
  have bw3 := below_of (w := w) (by go_grown) hw3
  try simp at zw3
  have hw2b := below_of (w := w2) (by go_grown) hw3
  obtain ⟨p10a, p10b, p10c, p10g, p10d, p10e, p10f, p10h, p10z⟩ := cells4 hw2b p9z p9a p9b p9c p9g p9d p9e p9f p9h
  obtain ⟨q10a, q10b, q10c, q10d, q10e, q10f, q10z⟩ := cells3 hw2b q9z q9a q9b q9c q9d q9e q9f
  clear p9a p9b p9c p9g p9d p9e p9f p9h p9z q9a q9b q9c q9d q9e q9f q9z hw3 hw2b
  go_wp2_with fail
  refine (pchild_any p 1 _).mono ?_
  rintro e w4 ⟨rfl, hw4⟩
  have zw4 := hw4.size
  have bw4 := below_of (w := w) (by go_grown) hw4
  try simp at zw4
  have hw3b := below_of (w := w3) (by go_grown) hw4
  obtain ⟨p11a, p11b, p11c, p11g, p11d, p11e, p11f, p11h, p11z⟩ := cells4 hw3b p10z p10a p10b p10c p10g p10d p10e p10f p10h
  obtain ⟨q11a, q11b, q11c, q11d, q11e, q11f, q11z⟩ := cells3 hw3b q10z q10a q10b q10c q10d q10e q10f
  obtain ⟨l11a, l11b, l11c, l11g, l11d, l11e, l11f, l11h, l11z⟩ := cells4 (b := w3.heap.size) hw4 (by go_size) (by go_simp <;> rfl) (by go_simp <;> rfl) (by go_simp <;> rfl) (by go_simp <;> rfl) (by go_simp <;> rfl) (by go_simp <;> rfl) (by go_simp <;> rfl) (by go_simp <;> rfl)
  clear p10a p10b p10c p10g p10d p10e p10f p10h p10z q10a q10b q10c q10d q10e q10f q10z hw4 hw3b
  go_wp2_with fail
  refine (pparent_any (pchild p 0).1 _).mono ?_
  rintro e w5 ⟨rfl, hw5⟩
  have zw5 := hw5.size
  have bw5 := below_of (w := w) (by go_grown) hw5
  try simp at zw5
  have hw4b := below_of (w := w4) (by go_grown) hw5
  obtain ⟨p12a, p12b, p12c, p12g, p12d, p12e, p12f, p12h, p12z⟩ := cells4 hw4b p11z p11a p11b p11c p11g p11d p11e p11f p11h
  obtain ⟨q12a, q12b, q12c, q12d, q12e, q12f, q12z⟩ := cells3 hw4b q11z q11a q11b q11c q11d q11e q11f
  obtain ⟨l12a, l12b, l12c, l12g, l12d, l12e, l12f, l12h, l12z⟩ := cells4 hw4b l11z l11a l11b l11c l11g l11d l11e l11f l11h
  obtain ⟨r12a, r12b, r12c, r12g, r12d, r12e, r12f, r12h, r12z⟩ := cells4 (b := w4.heap.size) hw5 (by go_size) (by go_simp <;> rfl) (by go_simp <;> rfl) (by go_simp <;> rfl) (by go_simp <;> rfl) (by go_simp <;> rfl) (by go_simp <;> rfl) (by go_simp <;> rfl) (by go_simp <;> rfl)
  clear p11a p11b p11c p11g p11d p11e p11f p11h p11z q11a q11b q11c q11d q11e q11f q11z l11a l11b l11c l11g l11d l11e l11f l11h l11z hw5 hw4b
  go_wp2_with fail
  refine (pparent_any (pchild p 1).1 _).mono ?_
  rintro e w6 ⟨rfl, hw6⟩
  have zw6 := hw6.size
  have bw6 := below_of (w := w) (by go_grown) hw6
  try simp at zw6
  have hw5b := below_of (w := w5) (by go_grown) hw6
  obtain ⟨p13a, p13b, p13c, p13g, p13d, p13e, p13f, p13h, p13z⟩ := cells4 hw5b p12z p12a p12b p12c p12g p12d p12e p12f p12h
  obtain ⟨q13a, q13b, q13c, q13d, q13e, q13f, q13z⟩ := cells3 hw5b q12z q12a q12b q12c q12d q12e q12f
  obtain ⟨l13a, l13b, l13c, l13g, l13d, l13e, l13f, l13h, l13z⟩ := cells4 hw5b l12z l12a l12b l12c l12g l12d l12e l12f l12h
  obtain ⟨r13a, r13b, r13c, r13g, r13d, r13e, r13f, r13h, r13z⟩ := cells4 hw5b r12z r12a r12b r12c r12g r12d r12e r12f r12h
  obtain ⟨x13a, x13b, x13c, x13g, x13d, x13e, x13f, x13h, x13z⟩ := cells4 (b := w5.heap.size) hw6 (by go_size) (by go_simp <;> rfl) (by go_simp <;> rfl) (by go_simp <;> rfl) (by go_simp <;> rfl) (by go_simp <;> rfl) (by go_simp <;> rfl) (by go_simp <;> rfl) (by go_simp <;> rfl)
  clear p12a p12b p12c p12g p12d p12e p12f p12h p12z q12a q12b q12c q12d q12e q12f q12z l12a l12b l12c l12g l12d l12e l12f l12h l12z r12a r12b r12c r12g r12d r12e r12f r12h r12z hw6 hw5b
  go_wp2_with fail
  refine (psib_any (pchild p 0).1 _).mono ?_
  rintro e w7 ⟨rfl, hw7⟩
  have zw7 := hw7.size
  have bw7 := below_of (w := w) (by go_grown) hw7
  try simp at zw7
  have hw6b := below_of (w := w6) (by go_grown) hw7
  obtain ⟨p14a, p14b, p14c, p14g, p14d, p14e, p14f, p14h, p14z⟩ := cells4 hw6b p13z p13a p13b p13c p13g p13d p13e p13f p13h
  obtain ⟨q14a, q14b, q14c, q14d, q14e, q14f, q14z⟩ := cells3 hw6b q13z q13a q13b q13c q13d q13e q13f
  obtain ⟨l14a, l14b, l14c, l14g, l14d, l14e, l14f, l14h, l14z⟩ := cells4 hw6b l13z l13a l13b l13c l13g l13d l13e l13f l13h
  obtain ⟨r14a, r14b, r14c, r14g, r14d, r14e, r14f, r14h, r14z⟩ := cells4 hw6b r13z r13a r13b r13c r13g r13d r13e r13f r13h
  obtain ⟨x14a, x14b, x14c, x14g, x14d, x14e, x14f, x14h, x14z⟩ := cells4 hw6b x13z x13a x13b x13c x13g x13d x13e x13f x13h
  obtain ⟨y14a, y14b, y14c, y14g, y14d, y14e, y14f, y14h, y14z⟩ := cells4 (b := w6.heap.size) hw7 (by go_size) (by go_simp <;> rfl) (by go_simp <;> rfl) (by go_simp <;> rfl) (by go_simp <;> rfl) (by go_simp <;> rfl) (by go_simp <;> rfl) (by go_simp <;> rfl) (by go_simp <;> rfl)
  clear p13a p13b p13c p13g p13d p13e p13f p13h p13z q13a q13b q13c q13d q13e q13f q13z l13a l13b l13c l13g l13d l13e l13f l13h l13z r13a r13b r13c r13g r13d r13e r13f r13h r13z x13a x13b x13c x13g x13d x13e x13f x13h x13z hw7 hw6b
  go_wp2_with fail
  refine (psib_any (pchild p 1).1 _).mono ?_
  rintro e w8 ⟨rfl, hw8⟩
  have zw8 := hw8.size
  have bw8 := below_of (w := w) (by go_grown) hw8
  try simp at zw8
  have hw7b := below_of (w := w7) (by go_grown) hw8
  obtain ⟨p15a, p15b, p15c, p15g, p15d, p15e, p15f, p15h, p15z⟩ := cells4 hw7b p14z p14a p14b p14c p14g p14d p14e p14f p14h
  obtain ⟨q15a, q15b, q15c, q15d, q15e, q15f, q15z⟩ := cells3 hw7b q14z q14a q14b q14c q14d q14e q14f
  obtain ⟨l15a, l15b, l15c, l15g, l15d, l15e, l15f, l15h, l15z⟩ := cells4 hw7b l14z l14a l14b l14c l14g l14d l14e l14f l14h
  obtain ⟨r15a, r15b, r15c, r15g, r15d, r15e, r15f, r15h, r15z⟩ := cells4 hw7b r14z r14a r14b r14c r14g r14d r14e r14f r14h
  obtain ⟨x15a, x15b, x15c, x15g, x15d, x15e, x15f, x15h, x15z⟩ := cells4 hw7b x14z x14a x14b x14c x14g x14d x14e x14f x14h
  obtain ⟨y15a, y15b, y15c, y15g, y15d, y15e, y15f, y15h, y15z⟩ := cells4 hw7b y14z y14a y14b y14c y14g y14d y14e y14f y14h
  obtain ⟨s15a, s15b, s15c, s15g, s15d, s15e, s15f, s15h, s15z⟩ := cells4 (b := w7.heap.size) hw8 (by go_size) (by go_simp <;> rfl) (by go_simp <;> rfl) (by go_simp <;> rfl) (by go_simp <;> rfl) (by go_simp <;> rfl) (by go_simp <;> rfl) (by go_simp <;> rfl) (by go_simp <;> rfl)
  clear p14a p14b p14c p14g p14d p14e p14f p14h p14z q14a q14b q14c q14d q14e q14f q14z l14a l14b l14c l14g l14d l14e l14f l14h l14z r14a r14b r14c r14g r14d r14e r14f r14h r14z x14a x14b x14c x14g x14d x14e x14f x14h x14z y14a y14b y14c y14g y14d y14e y14f y14h y14z hw8 hw7b
  go_wp2_with fail
  refine (pends_any (pchild p 0).1 _).mono ?_
  rintro e w9 ⟨rfl, hw9⟩
  have zw9 := hw9.size
  have bw9 := below_of (w := w) (by go_grown) hw9
  try simp at zw9
  have hw8b := below_of (w := w8) (by go_grown) hw9
  obtain ⟨p16a, p16b, p16c, p16g, p16d, p16e, p16f, p16h, p16z⟩ := cells4 hw8b p15z p15a p15b p15c p15g p15d p15e p15f p15h
  obtain ⟨q16a, q16b, q16c, q16d, q16e, q16f, q16z⟩ := cells3 hw8b q15z q15a q15b q15c q15d q15e q15f
  obtain ⟨l16a, l16b, l16c, l16g, l16d, l16e, l16f, l16h, l16z⟩ := cells4 hw8b l15z l15a l15b l15c l15g l15d l15e l15f l15h
  obtain ⟨r16a, r16b, r16c, r16g, r16d, r16e, r16f, r16h, r16z⟩ := cells4 hw8b r15z r15a r15b r15c r15g r15d r15e r15f r15h
  obtain ⟨x16a, x16b, x16c, x16g, x16d, x16e, x16f, x16h, x16z⟩ := cells4 hw8b x15z x15a x15b x15c x15g x15d x15e x15f x15h
  obtain ⟨y16a, y16b, y16c, y16g, y16d, y16e, y16f, y16h, y16z⟩ := cells4 hw8b y15z y15a y15b y15c y15g y15d y15e y15f y15h
  obtain ⟨s16a, s16b, s16c, s16g, s16d, s16e, s16f, s16h, s16z⟩ := cells4 hw8b s15z s15a s15b s15c s15g s15d s15e s15f s15h
  obtain ⟨t16a, t16b, t16c, t16g, t16d, t16e, t16f, t16h, t16z⟩ := cells4 (b := w8.heap.size) hw9 (by go_size) (by go_simp <;> rfl) (by go_simp <;> rfl) (by go_simp <;> rfl) (by go_simp <;> rfl) (by go_simp <;> rfl) (by go_simp <;> rfl) (by go_simp <;> rfl) (by go_simp <;> rfl)
  clear p15a p15b p15c p15g p15d p15e p15f p15h p15z q15a q15b q15c q15d q15e q15f q15z l15a l15b l15c l15g l15d l15e l15f l15h l15z r15a r15b r15c r15g r15d r15e r15f r15h r15z x15a x15b x15c x15g x15d x15e x15f x15h x15z y15a y15b y15c y15g y15d y15e y15f y15h y15z s15a s15b s15c s15g s15d s15e s15f s15h s15z hw9 hw8b
  go_wp2_with fail
  refine (next_any (fillv (pchild p 0).1.a (pchild p 0).1.n) _).mono ?_
  rintro e w10 ⟨rfl, hw10⟩
  have zw10 := hw10.size
  have bw10 := below_of (w := w) (by go_grown) hw10
  try simp at zw10
  have hw9b := below_of (w := w9) (by go_grown) hw10
  obtain ⟨p17a, p17b, p17c, p17g, p17d, p17e, p17f, p17h, p17z⟩ := cells4 hw9b p16z p16a p16b p16c p16g p16d p16e p16f p16h
  obtain ⟨q17a, q17b, q17c, q17d, q17e, q17f, q17z⟩ := cells3 hw9b q16z q16a q16b q16c q16d q16e q16f
  obtain ⟨l17a, l17b, l17c, l17g, l17d, l17e, l17f, l17h, l17z⟩ := cells4 hw9b l16z l16a l16b l16c l16g l16d l16e l16f l16h
  obtain ⟨r17a, r17b, r17c, r17g, r17d, r17e, r17f, r17h, r17z⟩ := cells4 hw9b r16z r16a r16b r16c r16g r16d r16e r16f r16h
  obtain ⟨x17a, x17b, x17c, x17g, x17d, x17e, x17f, x17h, x17z⟩ := cells4 hw9b x16z x16a x16b x16c x16g x16d x16e x16f x16h
  obtain ⟨y17a, y17b, y17c, y17g, y17d, y17e, y17f, y17h, y17z⟩ := cells4 hw9b y16z y16a y16b y16c y16g y16d y16e y16f y16h
  obtain ⟨s17a, s17b, s17c, s17g, s17d, s17e, s17f, s17h, s17z⟩ := cells4 hw9b s16z s16a s16b s16c s16g s16d s16e s16f s16h
  obtain ⟨t17a, t17b, t17c, t17g, t17d, t17e, t17f, t17h, t17z⟩ := cells4 hw9b t16z t16a t16b t16c t16g t16d t16e t16f t16h
  obtain ⟨i17a, i17b, i17c, i17d, i17e, i17f, i17z⟩ := cells3 (b := w9.heap.size + 1) hw10 (by go_size) (by go_simp <;> rfl) (by go_simp <;> rfl) (by go_simp <;> rfl) (by go_simp <;> rfl) (by go_simp <;> rfl) (by go_simp <;> rfl)
  clear p16a p16b p16c p16g p16d p16e p16f p16h p16z q16a q16b q16c q16d q16e q16f q16z l16a l16b l16c l16g l16d l16e l16f l16h l16z r16a r16b r16c r16g r16d r16e r16f r16h r16z x16a x16b x16c x16g x16d x16e x16f x16h x16z y16a y16b y16c y16g y16d y16e y16f y16h y16z s16a s16b s16c s16g s16d s16e s16f s16h s16z t16a t16b t16c t16g t16d t16e t16f t16h t16z hw10 hw9b
  go_wp2_with fail
  refine (pends_any (pchild p 1).1 _).mono ?_
  rintro e w11 ⟨rfl, hw11⟩
  have zw11 := hw11.size
  have bw11 := below_of (w := w) (by go_grown) hw11
  try simp at zw11
  have hw10b := below_of (w := w10) (by go_grown) hw11
  obtain ⟨p18a, p18b, p18c, p18g, p18d, p18e, p18f, p18h, p18z⟩ := cells4 hw10b p17z p17a p17b p17c p17g p17d p17e p17f p17h
  obtain ⟨q18a, q18b, q18c, q18d, q18e, q18f, q18z⟩ := cells3 hw10b q17z q17a q17b q17c q17d q17e q17f
  obtain ⟨l18a, l18b, l18c, l18g, l18d, l18e, l18f, l18h, l18z⟩ := cells4 hw10b l17z l17a l17b l17c l17g l17d l17e l17f l17h
  obtain ⟨r18a, r18b, r18c, r18g, r18d, r18e, r18f, r18h, r18z⟩ := cells4 hw10b r17z r17a r17b r17c r17g r17d r17e r17f r17h
  obtain ⟨x18a, x18b, x18c, x18g, x18d, x18e, x18f, x18h, x18z⟩ := cells4 hw10b x17z x17a x17b x17c x17g x17d x17e x17f x17h
  obtain ⟨y18a, y18b, y18c, y18g, y18d, y18e, y18f, y18h, y18z⟩ := cells4 hw10b y17z y17a y17b y17c y17g y17d y17e y17f y17h
  obtain ⟨s18a, s18b, s18c, s18g, s18d, s18e, s18f, s18h, s18z⟩ := cells4 hw10b s17z s17a s17b s17c s17g s17d s17e s17f s17h
  obtain ⟨t18a, t18b, t18c, t18g, t18d, t18e, t18f, t18h, t18z⟩ := cells4 hw10b t17z t17a t17b t17c t17g t17d t17e t17f t17h
  obtain ⟨i18a, i18b, i18c, i18d, i18e, i18f, i18z⟩ := cells3 hw10b i17z i17a i17b i17c i17d i17e i17f
  obtain ⟨j18a, j18b, j18c, j18d, j18e, j18f, j18z⟩ := cells3 (b := w10.heap.size) hw11 (by go_size) (by go_simp <;> rfl) (by go_simp <;> rfl) (by go_simp <;> rfl) (by go_simp <;> rfl) (by go_simp <;> rfl) (by go_simp <;> rfl)
  clear p17a p17b p17c p17g p17d p17e p17f p17h p17z q17a q17b q17c q17d q17e q17f q17z l17a l17b l17c l17g l17d l17e l17f l17h l17z r17a r17b r17c r17g r17d r17e r17f r17h r17z x17a x17b x17c x17g x17d x17e x17f x17h x17z y17a y17b y17c y17g y17d y17e y17f y17h y17z s17a s17b s17c s17g s17d s17e s17f s17h s17z t17a t17b t17c t17g t17d t17e t17f t17h t17z i17a i17b i17c i17d i17e i17f i17z hw11 hw10b
  go_wp2_with fail
  refine (pends_any p _).mono ?_
  rintro e w12 ⟨rfl, hw12⟩
  have zw12 := hw12.size
  have bw12 := below_of (w := w) (by go_grown) hw12
  try simp at zw12
  have hw11b := below_of (w := w11) (by go_grown) hw12
  obtain ⟨p19a, p19b, p19c, p19g, p19d, p19e, p19f, p19h, p19z⟩ := cells4 hw11b p18z p18a p18b p18c p18g p18d p18e p18f p18h
  obtain ⟨q19a, q19b, q19c, q19d, q19e, q19f, q19z⟩ := cells3 hw11b q18z q18a q18b q18c q18d q18e q18f
  obtain ⟨l19a, l19b, l19c, l19g, l19d, l19e, l19f, l19h, l19z⟩ := cells4 hw11b l18z l18a l18b l18c l18g l18d l18e l18f l18h
  obtain ⟨r19a, r19b, r19c, r19g, r19d, r19e, r19f, r19h, r19z⟩ := cells4 hw11b r18z r18a r18b r18c r18g r18d r18e r18f r18h
  obtain ⟨x19a, x19b, x19c, x19g, x19d, x19e, x19f, x19h, x19z⟩ := cells4 hw11b x18z x18a x18b x18c x18g x18d x18e x18f x18h
  obtain ⟨y19a, y19b, y19c, y19g, y19d, y19e, y19f, y19h, y19z⟩ := cells4 hw11b y18z y18a y18b y18c y18g y18d y18e y18f y18h
  obtain ⟨s19a, s19b, s19c, s19g, s19d, s19e, s19f, s19h, s19z⟩ := cells4 hw11b s18z s18a s18b s18c s18g s18d s18e s18f s18h
  obtain ⟨t19a, t19b, t19c, t19g, t19d, t19e, t19f, t19h, t19z⟩ := cells4 hw11b t18z t18a t18b t18c t18g t18d t18e t18f t18h
  obtain ⟨i19a, i19b, i19c, i19d, i19e, i19f, i19z⟩ := cells3 hw11b i18z i18a i18b i18c i18d i18e i18f
  obtain ⟨j19a, j19b, j19c, j19d, j19e, j19f, j19z⟩ := cells3 hw11b j18z j18a j18b j18c j18d j18e j18f
  obtain ⟨m19a, m19b, m19c, m19d, m19e, m19f, m19z⟩ := cells3 (b := w11.heap.size) hw12 (by go_size) (by go_simp <;> rfl) (by go_simp <;> rfl) (by go_simp <;> rfl) (by go_simp <;> rfl) (by go_simp <;> rfl) (by go_simp <;> rfl)
  obtain ⟨o19a, o19b, o19c, o19d, o19e, o19f, o19z⟩ := cells3 (b := w11.heap.size + 1) hw12 (by go_size) (by go_simp <;> rfl) (by go_simp <;> rfl) (by go_simp <;> rfl) (by go_simp <;> rfl) (by go_simp <;> rfl) (by go_simp <;> rfl)
  clear p18a p18b p18c p18g p18d p18e p18f p18h p18z q18a q18b q18c q18d q18e q18f q18z l18a l18b l18c l18g l18d l18e l18f l18h l18z r18a r18b r18c r18g r18d r18e r18f r18h r18z x18a x18b x18c x18g x18d x18e x18f x18h x18z y18a y18b y18c y18g y18d y18e y18f y18h y18z s18a s18b s18c s18g s18d s18e s18f s18h s18z t18a t18b t18c t18g t18d t18e t18f t18h t18z i18a i18b i18c i18d i18e i18f i18z j18a j18b j18c j18d j18e j18f j18z hw12 hw11b
  cases c1 : pcon (pchild p 0).1 a
  · have c2 : (pcon p a == pcon (pchild p 1).1 a) = true := by rw [hc.out, c1]; simp
    go_wp2_with fail
    generalize hW : World.alloc _ _ = W
    have hz : w.heap.size ≤ W.heap.size := by subst hW; go_size
    have hB : Below w.heap.size w W := by subst hW; go_grown
    have hw12b : Below w12.heap.size w12 W := by subst hW; go_grown
    obtain ⟨p20a, p20b, p20c, p20g, p20d, p20e, p20f, p20h, p20z⟩ := cells4 hw12b p19z p19a p19b p19c p19g p19d p19e p19f p19h
    obtain ⟨q20a, q20b, q20c, q20d, q20e, q20f, q20z⟩ := cells3 hw12b q19z q19a q19b q19c q19d q19e q19f
    obtain ⟨l20a, l20b, l20c, l20g, l20d, l20e, l20f, l20h, l20z⟩ := cells4 hw12b l19z l19a l19b l19c l19g l19d l19e l19f l19h
    obtain ⟨r20a, r20b, r20c, r20g, r20d, r20e, r20f, r20h, r20z⟩ := cells4 hw12b r19z r19a r19b r19c r19g r19d r19e r19f r19h
    obtain ⟨x20a, x20b, x20c, x20g, x20d, x20e, x20f, x20h, x20z⟩ := cells4 hw12b x19z x19a x19b x19c x19g x19d x19e x19f x19h
    obtain ⟨y20a, y20b, y20c, y20g, y20d, y20e, y20f, y20h, y20z⟩ := cells4 hw12b y19z y19a y19b y19c y19g y19d y19e y19f y19h
    obtain ⟨s20a, s20b, s20c, s20g, s20d, s20e, s20f, s20h, s20z⟩ := cells4 hw12b s19z s19a s19b s19c s19g s19d s19e s19f s19h
    obtain ⟨t20a, t20b, t20c, t20g, t20d, t20e, t20f, t20h, t20z⟩ := cells4 hw12b t19z t19a t19b t19c t19g t19d t19e t19f t19h
    obtain ⟨i20a, i20b, i20c, i20d, i20e, i20f, i20z⟩ := cells3 hw12b i19z i19a i19b i19c i19d i19e i19f
    obtain ⟨j20a, j20b, j20c, j20d, j20e, j20f, j20z⟩ := cells3 hw12b j19z j19a j19b j19c j19d j19e j19f
    obtain ⟨m20a, m20b, m20c, m20d, m20e, m20f, m20z⟩ := cells3 hw12b m19z m19a m19b m19c m19d m19e m19f
    obtain ⟨o20a, o20b, o20c, o20d, o20e, o20f, o20z⟩ := cells3 hw12b o19z o19a o19b o19c o19d o19e o19f
    obtain ⟨z20a, z20b, z20c, z20d, z20e, z20f, z20z⟩ := cells3 (W := W) (b := w12.heap.size + 1) (Below.refl _ W) (by subst hW; go_size) (by subst hW; go_simp <;> rfl) (by subst hW; go_simp <;> rfl) (by subst hW; go_simp <;> rfl) (by subst hW; go_simp <;> rfl) (by subst hW; go_simp <;> rfl) (by subst hW; go_simp <;> rfl)
    clear p19a p19b p19c p19g p19d p19e p19f p19h p19z q19a q19b q19c q19d q19e q19f q19z l19a l19b l19c l19g l19d l19e l19f l19h l19z r19a r19b r19c r19g r19d r19e r19f r19h r19z x19a x19b x19c x19g x19d x19e x19f x19h x19z y19a y19b y19c y19g y19d y19e y19f y19h y19z s19a s19b s19c s19g s19d s19e s19f s19h s19z t19a t19b t19c t19g t19d t19e t19f t19h t19z i19a i19b i19c i19d i19e i19f i19z j19a j19b j19c j19d j19e j19f j19z m19a m19b m19c m19d m19e m19f m19z o19a o19b o19c o19d o19e o19f o19z hW hw12b
    have Lp20a := fun x : Later W.heap.size W => (x.cell p20z).trans p20a
    have Lp20b := fun x : Later W.heap.size W => (x.cell p20z).trans p20b
    have Lp20c := fun x : Later W.heap.size W => (x.cell p20z).trans p20c
    have Lp20g := fun x : Later W.heap.size W => (x.cell p20z).trans p20g
    have Lq20a := fun x : Later W.heap.size W => (x.cell q20z).trans q20a
    have Lq20b := fun x : Later W.heap.size W => (x.cell q20z).trans q20b
    have Lq20c := fun x : Later W.heap.size W => (x.cell q20z).trans q20c
    have Ll20a := fun x : Later W.heap.size W => (x.cell l20z).trans l20a
    have Ll20b := fun x : Later W.heap.size W => (x.cell l20z).trans l20b
    have Ll20c := fun x : Later W.heap.size W => (x.cell l20z).trans l20c
    have Ll20g := fun x : Later W.heap.size W => (x.cell l20z).trans l20g
    have Lr20a := fun x : Later W.heap.size W => (x.cell r20z).trans r20a
    have Lr20b := fun x : Later W.heap.size W => (x.cell r20z).trans r20b
    have Lr20c := fun x : Later W.heap.size W => (x.cell r20z).trans r20c
    have Lr20g := fun x : Later W.heap.size W => (x.cell r20z).trans r20g
    have Lx20a := fun x : Later W.heap.size W => (x.cell x20z).trans x20a
    have Lx20b := fun x : Later W.heap.size W => (x.cell x20z).trans x20b
    have Lx20c := fun x : Later W.heap.size W => (x.cell x20z).trans x20c
    have Lx20g := fun x : Later W.heap.size W => (x.cell x20z).trans x20g
    have Ly20a := fun x : Later W.heap.size W => (x.cell y20z).trans y20a
    have Ly20b := fun x : Later W.heap.size W => (x.cell y20z).trans y20b
    have Ly20c := fun x : Later W.heap.size W => (x.cell y20z).trans y20c
    have Ly20g := fun x : Later W.heap.size W => (x.cell y20z).trans y20g
    have Ls20a := fun x : Later W.heap.size W => (x.cell s20z).trans s20a
    have Ls20b := fun x : Later W.heap.size W => (x.cell s20z).trans s20b
    have Ls20c := fun x : Later W.heap.size W => (x.cell s20z).trans s20c
    have Ls20g := fun x : Later W.heap.size W => (x.cell s20z).trans s20g
    have Lt20a := fun x : Later W.heap.size W => (x.cell t20z).trans t20a
    have Lt20b := fun x : Later W.heap.size W => (x.cell t20z).trans t20b
    have Lt20c := fun x : Later W.heap.size W => (x.cell t20z).trans t20c
    have Lt20g := fun x : Later W.heap.size W => (x.cell t20z).trans t20g
    have Li20a := fun x : Later W.heap.size W => (x.cell i20z).trans i20a
    have Li20b := fun x : Later W.heap.size W => (x.cell i20z).trans i20b
    have Li20c := fun x : Later W.heap.size W => (x.cell i20z).trans i20c
    have Lj20a := fun x : Later W.heap.size W => (x.cell j20z).trans j20a
    have Lj20b := fun x : Later W.heap.size W => (x.cell j20z).trans j20b
    have Lj20c := fun x : Later W.heap.size W => (x.cell j20z).trans j20c
    have Lm20a := fun x : Later W.heap.size W => (x.cell m20z).trans m20a
    have Lm20b := fun x : Later W.heap.size W => (x.cell m20z).trans m20b
    have Lm20c := fun x : Later W.heap.size W => (x.cell m20z).trans m20c
    have Lo20a := fun x : Later W.heap.size W => (x.cell o20z).trans o20a
    have Lo20b := fun x : Later W.heap.size W => (x.cell o20z).trans o20b
    have Lo20c := fun x : Later W.heap.size W => (x.cell o20z).trans o20c
    have Lz20a := fun x : Later W.heap.size W => (x.cell z20z).trans z20a
    have Lz20b := fun x : Later W.heap.size W => (x.cell z20z).trans z20b
    have Lz20c := fun x : Later W.heap.size W => (x.cell z20z).trans z20c
    try simp only [List.append_eq, List.cons_append, List.nil_append]
    refine region_later W.heap.size (by kernel_rfl) (by kernel_rfl) ?_
    repeat (go_big_quiet_step (first | (go_at_call 23; exact later_bool (by first | with_reducible exact c1 | with_reducible exact c2 | rfl) (Nat.le_refl _) (pcon_any _ _ _)) | (go_at_call 31; exact later_of (Nat.le_refl _) (papa_any _ _ _)) | (go_at_call 33; exact later_of (Nat.le_refl _) (pcmp_any _ _ _)) | (go_at_call 29; exact later_of (Nat.le_refl _) (pins_any _ _ _))))
    refine wpQuiet_nil ?_
    intro x
    have hx : Below w.heap.size w x.at := hB.trans (x.below.mono hz)
    go_wp2
    go_ret
    exact ⟨rfl, hx⟩
  · have c2 : pcon p a = true := by rw [hc.out, c1]; rfl
    go_wp2_with fail
    generalize hW : World.alloc _ _ = W
    have hz : w.heap.size ≤ W.heap.size := by subst hW; go_size
    have hB : Below w.heap.size w W := by subst hW; go_grown
    have hw12b : Below w12.heap.size w12 W := by subst hW; go_grown
    obtain ⟨p21a, p21b, p21c, p21g, p21d, p21e, p21f, p21h, p21z⟩ := cells4 hw12b p19z p19a p19b p19c p19g p19d p19e p19f p19h
    obtain ⟨q21a, q21b, q21c, q21d, q21e, q21f, q21z⟩ := cells3 hw12b q19z q19a q19b q19c q19d q19e q19f
    obtain ⟨l21a, l21b, l21c, l21g, l21d, l21e, l21f, l21h, l21z⟩ := cells4 hw12b l19z l19a l19b l19c l19g l19d l19e l19f l19h
    obtain ⟨r21a, r21b, r21c, r21g, r21d, r21e, r21f, r21h, r21z⟩ := cells4 hw12b r19z r19a r19b r19c r19g r19d r19e r19f r19h
    obtain ⟨x21a, x21b, x21c, x21g, x21d, x21e, x21f, x21h, x21z⟩ := cells4 hw12b x19z x19a x19b x19c x19g x19d x19e x19f x19h
    obtain ⟨y21a, y21b, y21c, y21g, y21d, y21e, y21f, y21h, y21z⟩ := cells4 hw12b y19z y19a y19b y19c y19g y19d y19e y19f y19h
    obtain ⟨s21a, s21b, s21c, s21g, s21d, s21e, s21f, s21h, s21z⟩ := cells4 hw12b s19z s19a s19b s19c s19g s19d s19e s19f s19h
    obtain ⟨t21a, t21b, t21c, t21g, t21d, t21e, t21f, t21h, t21z⟩ := cells4 hw12b t19z t19a t19b t19c t19g t19d t19e t19f t19h
    obtain ⟨i21a, i21b, i21c, i21d, i21e, i21f, i21z⟩ := cells3 hw12b i19z i19a i19b i19c i19d i19e i19f
    obtain ⟨j21a, j21b, j21c, j21d, j21e, j21f, j21z⟩ := cells3 hw12b j19z j19a j19b j19c j19d j19e j19f
    obtain ⟨m21a, m21b, m21c, m21d, m21e, m21f, m21z⟩ := cells3 hw12b m19z m19a m19b m19c m19d m19e m19f
    obtain ⟨o21a, o21b, o21c, o21d, o21e, o21f, o21z⟩ := cells3 hw12b o19z o19a o19b o19c o19d o19e o19f
    obtain ⟨z21a, z21b, z21c, z21d, z21e, z21f, z21z⟩ := cells3 (W := W) (b := w12.heap.size + 1) (Below.refl _ W) (by subst hW; go_size) (by subst hW; go_simp <;> rfl) (by subst hW; go_simp <;> rfl) (by subst hW; go_simp <;> rfl) (by subst hW; go_simp <;> rfl) (by subst hW; go_simp <;> rfl) (by subst hW; go_simp <;> rfl)
    clear p19a p19b p19c p19g p19d p19e p19f p19h p19z q19a q19b q19c q19d q19e q19f q19z l19a l19b l19c l19g l19d l19e l19f l19h l19z r19a r19b r19c r19g r19d r19e r19f r19h r19z x19a x19b x19c x19g x19d x19e x19f x19h x19z y19a y19b y19c y19g y19d y19e y19f y19h y19z s19a s19b s19c s19g s19d s19e s19f s19h s19z t19a t19b t19c t19g t19d t19e t19f t19h t19z i19a i19b i19c i19d i19e i19f i19z j19a j19b j19c j19d j19e j19f j19z m19a m19b m19c m19d m19e m19f m19z o19a o19b o19c o19d o19e o19f o19z hW hw12b
    have Lp21a := fun x : Later W.heap.size W => (x.cell p21z).trans p21a
    have Lp21b := fun x : Later W.heap.size W => (x.cell p21z).trans p21b
    have Lp21c := fun x : Later W.heap.size W => (x.cell p21z).trans p21c
    have Lp21g := fun x : Later W.heap.size W => (x.cell p21z).trans p21g
    have Lq21a := fun x : Later W.heap.size W => (x.cell q21z).trans q21a
    have Lq21b := fun x : Later W.heap.size W => (x.cell q21z).trans q21b
    have Lq21c := fun x : Later W.heap.size W => (x.cell q21z).trans q21c
    have Ll21a := fun x : Later W.heap.size W => (x.cell l21z).trans l21a
    have Ll21b := fun x : Later W.heap.size W => (x.cell l21z).trans l21b
    have Ll21c := fun x : Later W.heap.size W => (x.cell l21z).trans l21c
    have Ll21g := fun x : Later W.heap.size W => (x.cell l21z).trans l21g
    have Lr21a := fun x : Later W.heap.size W => (x.cell r21z).trans r21a
    have Lr21b := fun x : Later W.heap.size W => (x.cell r21z).trans r21b
    have Lr21c := fun x : Later W.heap.size W => (x.cell r21z).trans r21c
    have Lr21g := fun x : Later W.heap.size W => (x.cell r21z).trans r21g
    have Lx21a := fun x : Later W.heap.size W => (x.cell x21z).trans x21a
    have Lx21b := fun x : Later W.heap.size W => (x.cell x21z).trans x21b
    have Lx21c := fun x : Later W.heap.size W => (x.cell x21z).trans x21c
    have Lx21g := fun x : Later W.heap.size W => (x.cell x21z).trans x21g
    have Ly21a := fun x : Later W.heap.size W => (x.cell y21z).trans y21a
    have Ly21b := fun x : Later W.heap.size W => (x.cell y21z).trans y21b
    have Ly21c := fun x : Later W.heap.size W => (x.cell y21z).trans y21c
    have Ly21g := fun x : Later W.heap.size W => (x.cell y21z).trans y21g
    have Ls21a := fun x : Later W.heap.size W => (x.cell s21z).trans s21a
    have Ls21b := fun x : Later W.heap.size W => (x.cell s21z).trans s21b
    have Ls21c := fun x : Later W.heap.size W => (x.cell s21z).trans s21c
    have Ls21g := fun x : Later W.heap.size W => (x.cell s21z).trans s21g
    have Lt21a := fun x : Later W.heap.size W => (x.cell t21z).trans t21a
    have Lt21b := fun x : Later W.heap.size W => (x.cell t21z).trans t21b
    have Lt21c := fun x : Later W.heap.size W => (x.cell t21z).trans t21c
    have Lt21g := fun x : Later W.heap.size W => (x.cell t21z).trans t21g
    have Li21a := fun x : Later W.heap.size W => (x.cell i21z).trans i21a
    have Li21b := fun x : Later W.heap.size W => (x.cell i21z).trans i21b
    have Li21c := fun x : Later W.heap.size W => (x.cell i21z).trans i21c
    have Lj21a := fun x : Later W.heap.size W => (x.cell j21z).trans j21a
    have Lj21b := fun x : Later W.heap.size W => (x.cell j21z).trans j21b
    have Lj21c := fun x : Later W.heap.size W => (x.cell j21z).trans j21c
    have Lm21a := fun x : Later W.heap.size W => (x.cell m21z).trans m21a
    have Lm21b := fun x : Later W.heap.size W => (x.cell m21z).trans m21b
    have Lm21c := fun x : Later W.heap.size W => (x.cell m21z).trans m21c
    have Lo21a := fun x : Later W.heap.size W => (x.cell o21z).trans o21a
    have Lo21b := fun x : Later W.heap.size W => (x.cell o21z).trans o21b
    have Lo21c := fun x : Later W.heap.size W => (x.cell o21z).trans o21c
    have Lz21a := fun x : Later W.heap.size W => (x.cell z21z).trans z21a
    have Lz21b := fun x : Later W.heap.size W => (x.cell z21z).trans z21b
    have Lz21c := fun x : Later W.heap.size W => (x.cell z21z).trans z21c
    try simp only [List.append_eq, List.cons_append, List.nil_append]
    refine region_later W.heap.size (by kernel_rfl) (by kernel_rfl) ?_
    repeat (go_big_quiet_step (first | (go_at_call 23; exact later_bool (by first | with_reducible exact c1 | with_reducible exact c2 | rfl) (Nat.le_refl _) (pcon_any _ _ _)) | (go_at_call 31; exact later_of (Nat.le_refl _) (papa_any _ _ _)) | (go_at_call 33; exact later_of (Nat.le_refl _) (pcmp_any _ _ _)) | (go_at_call 29; exact later_of (Nat.le_refl _) (pins_any _ _ _))))
    refine wpQuiet_nil ?_
    intro x
    have hx : Below w.heap.size w x.at := hB.trans (x.below.mono hz)
    go_wp2
    go_ret
    exact ⟨rfl, hx⟩

theorem pkin_law (p : Pf) (a : Ad) (w : World) :
    Calls Try.prog 6 #[.agg #[.int .u64 (u p.a.hi), .int .u64 (u p.a.lo), .bool p.a.v6, .int .i64 p.n], .agg #[.int .u64 (u a.hi), .int .u64 (u a.lo), .bool a.v6]] w fun e w' => e = .returned (.bool true) ∧ Below w.heap.size w w' := by
  by_cases h : psane p = true ∧ p.n < wid p.a.v6
  · exact pkin_yes p a w h.1 h.2
  · exact pkin_not p a w h

end Go.Proofs.Ytongbfnndphdaaa
