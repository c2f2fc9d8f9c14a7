/-
  PrefixEnds returns true, whatever prefix, address and number. No condition.
-/
import Derived.Test.YtongbfnndphdaaaMathR
import Derived.Test.YtongbfnndphdaaaPi
import Derived.Test.YtongbfnndphdaaaPj
import Derived.Test.YtongbfnndphdaaaPbx
namespace Go.Proofs.Ytongbfnndphdaaa
open Go.RowKit

theorem ends_in (p : Pf) (a : Ad) (hp : psane p = true) (hv : a.v6 = p.a.v6) : pcon p a = (decide (cmpv (maskv p.a p.n) a ≤ 0) && decide (cmpv a (fillv p.a p.n) ≤ 0)) := by
  rw [first_eq p hp, Bool.eq_iff_iff, con_between p a hp hv, Bool.and_eq_true, decide_eq_true_iff, decide_eq_true_iff, cmp_le, cmp_le]
  constructor
  · rintro ⟨h1, h2⟩
    exact ⟨.inl ⟨hv.symm, h1⟩, .inl ⟨hv, h2⟩⟩
  · rintro ⟨h1, h2⟩
    constructor
    · rcases h1 with ⟨_, h⟩ | ⟨e1, e2⟩
      · exact h
      · rw [hv, e1] at e2; cases e2
    · rcases h2 with ⟨_, h⟩ | ⟨e1, e2⟩
      · exact h
      · have e2' : p.a.v6 = true := e2
        rw [hv, e2'] at e1; cases e1
theorem ends_out (p : Pf) (a : Ad) (hv : a.v6 ≠ p.a.v6) : pcon p a = false := bool_not fun h => hv ((pcon_iff _ _).1 h).2.1

set_option maxHeartbeats 2000000 in
set_option maxRecDepth 100000 in
theorem pends_not (p : Pf) (a : Ad) (n : Int) (w : World) (h : ¬ (psane p = true ∧ saneB a = true)) :
    Calls Try.prog 7 #[.agg #[.int .u64 (u p.a.hi), .int .u64 (u p.a.lo), .bool p.a.v6, .int .i64 p.n], .agg #[.int .u64 (u a.hi), .int .u64 (u a.lo), .bool a.v6], .int .i64 n] w fun e w' => e = .returned (.bool true) ∧ Below w.heap.size w w' := by
  cases s1 : psane p
  · clear h
    go_enter Try.func7, Try.ntmps7
    go_wp2_with fail
    refine (awake2_any _).mono ?_
    rintro e w1 ⟨rfl, hw1⟩
    have zw1 := hw1.size
    have bw1 := below_of (w := w) (by go_grown) hw1
    try simp at zw1
    obtain ⟨p1a, p1b, p1c, p1g, p1d, p1e, p1f, p1h, p1z⟩ := cells4 (b := w.heap.size) hw1 (by go_size) (by go_simp <;> rfl) (by go_simp <;> rfl) (by go_simp <;> rfl) (by go_simp <;> rfl) (by go_simp <;> rfl) (by go_simp <;> rfl) (by go_simp <;> rfl) (by go_simp <;> rfl)
    obtain ⟨q1a, q1b, q1c, q1d, q1e, q1f, q1z⟩ := cells3 (b := w.heap.size + 1) hw1 (by go_size) (by go_simp <;> rfl) (by go_simp <;> rfl) (by go_simp <;> rfl) (by go_simp <;> rfl) (by go_simp <;> rfl) (by go_simp <;> rfl)
    clear hw1
    go_wp2_with fail
    refine (psane_any p _).mono ?_
    rintro e w2 ⟨rfl, hw2⟩
    have zw2 := hw2.size
    have bw2 := below_of (w := w) (by go_grown) hw2
    try simp at zw2
    obtain ⟨p2a, p2b, p2c, p2g, p2d, p2e, p2f, p2h, p2z⟩ := cells4 (b := w.heap.size) hw2 (by go_size) (by go_simp <;> rfl) (by go_simp <;> rfl) (by go_simp <;> rfl) (by go_simp <;> rfl) (by go_simp <;> rfl) (by go_simp <;> rfl) (by go_simp <;> rfl) (by go_simp <;> rfl)
    obtain ⟨q2a, q2b, q2c, q2d, q2e, q2f, q2z⟩ := cells3 (b := w.heap.size + 1) hw2 (by go_size) (by go_simp <;> rfl) (by go_simp <;> rfl) (by go_simp <;> rfl) (by go_simp <;> rfl) (by go_simp <;> rfl) (by go_simp <;> rfl)
    clear p1a p1b p1c p1g p1d p1e p1f p1h p1z q1a q1b q1c q1d q1e q1f q1z hw2
    go_wp2
    go_ret
    exact ⟨rfl, bw2⟩
  · have s2 : saneB a = false := bool_not fun h3 => h ⟨s1, h3⟩
    clear h
    go_enter Try.func7, Try.ntmps7
    go_wp2_with fail
    refine (awake2_any _).mono ?_
    rintro e w1 ⟨rfl, hw1⟩
    have zw1 := hw1.size
    have bw1 := below_of (w := w) (by go_grown) hw1
    try simp at zw1
    obtain ⟨p3a, p3b, p3c, p3g, p3d, p3e, p3f, p3h, p3z⟩ := cells4 (b := w.heap.size) hw1 (by go_size) (by go_simp <;> rfl) (by go_simp <;> rfl) (by go_simp <;> rfl) (by go_simp <;> rfl) (by go_simp <;> rfl) (by go_simp <;> rfl) (by go_simp <;> rfl) (by go_simp <;> rfl)
    obtain ⟨q3a, q3b, q3c, q3d, q3e, q3f, q3z⟩ := cells3 (b := w.heap.size + 1) hw1 (by go_size) (by go_simp <;> rfl) (by go_simp <;> rfl) (by go_simp <;> rfl) (by go_simp <;> rfl) (by go_simp <;> rfl) (by go_simp <;> rfl)
    clear hw1
    go_wp2_with fail
    refine (psane_any p _).mono ?_
    rintro e w2 ⟨rfl, hw2⟩
    have zw2 := hw2.size
    have bw2 := below_of (w := w) (by go_grown) hw2
    try simp at zw2
    obtain ⟨p4a, p4b, p4c, p4g, p4d, p4e, p4f, p4h, p4z⟩ := cells4 (b := w.heap.size) hw2 (by go_size) (by go_simp <;> rfl) (by go_simp <;> rfl) (by go_simp <;> rfl) (by go_simp <;> rfl) (by go_simp <;> rfl) (by go_simp <;> rfl) (by go_simp <;> rfl) (by go_simp <;> rfl)
    obtain ⟨q4a, q4b, q4c, q4d, q4e, q4f, q4z⟩ := cells3 (b := w.heap.size + 1) hw2 (by go_size) (by go_simp <;> rfl) (by go_simp <;> rfl) (by go_simp <;> rfl) (by go_simp <;> rfl) (by go_simp <;> rfl) (by go_simp <;> rfl)
    clear p3a p3b p3c p3g p3d p3e p3f p3h p3z q3a q3b q3c q3d q3e q3f q3z hw2
    go_wp2_with fail
    refine (sane_any a _).mono ?_
    rintro e w3 ⟨rfl, hw3⟩
    have zw3 := hw3.size
    have bw3 := below_of (w := w) (by go_grown) hw3
    try simp at zw3
    obtain ⟨p5a, p5b, p5c, p5g, p5d, p5e, p5f, p5h, p5z⟩ := cells4 (b := w.heap.size) hw3 (by go_size) (by go_simp <;> rfl) (by go_simp <;> rfl) (by go_simp <;> rfl) (by go_simp <;> rfl) (by go_simp <;> rfl) (by go_simp <;> rfl) (by go_simp <;> rfl) (by go_simp <;> rfl)
    obtain ⟨q5a, q5b, q5c, q5d, q5e, q5f, q5z⟩ := cells3 (b := w.heap.size + 1) hw3 (by go_size) (by go_simp <;> rfl) (by go_simp <;> rfl) (by go_simp <;> rfl) (by go_simp <;> rfl) (by go_simp <;> rfl) (by go_simp <;> rfl)
    clear p4a p4b p4c p4g p4d p4e p4f p4h p4z q4a q4b q4c q4d q4e q4f q4z hw3
    go_wp2
    go_ret
    exact ⟨rfl, bw3⟩

set_option maxHeartbeats 2000000 in
set_option maxRecDepth 100000 in
theorem pends_yes (p : Pf) (a : Ad) (n : Int) (w : World) (s1 : psane p = true) (s2 : saneB a = true) :
    Calls Try.prog 7 #[.agg #[.int .u64 (u p.a.hi), .int .u64 (u p.a.lo), .bool p.a.v6, .int .i64 p.n], .agg #[.int .u64 (u a.hi), .int .u64 (u a.lo), .bool a.v6], .int .i64 n] w fun e w' => e = .returned (.bool true) ∧ Below w.heap.size w w' := by
  have t1 := psane_pof a n
  have t2 := con_pof a n
  have t3 : pcon p (maskv p.a p.n) = true := by rw [first_eq p s1]; exact con_first p s1
  have t4 := con_last p s1
  have t5 : adB (u (maskv p.a p.n).hi) (u (maskv p.a p.n).lo) (maskv p.a p.n).v6 (u p.a.hi) (u p.a.lo) p.a.v6 = true := (adEq_iff _ _).2 (first_eq p s1)
  have t6 : pfB (u (pof (fillv p.a p.n) p.n).a.hi) (u (pof (fillv p.a p.n) p.n).a.lo) (pof (fillv p.a p.n) p.n).a.v6 (pof (fillv p.a p.n) p.n).n (u p.a.hi) (u p.a.lo) p.a.v6 p.n = true := (pfEq_iff _ _).2 ((con_iff_pof _ _).1 t4)
  by_cases hv : a.v6 = p.a.v6
  · have hi := Lib.hid (ends_in p a s1 hv)
    have tv : (a.v6 == p.a.v6) = true := by simp [hv]
    clear hv
    by_cases c1 : cmpv (maskv p.a p.n) a ≤ 0
    · have d1 : decide (cmpv (maskv p.a p.n) a ≤ 0) = true := by simp [c1]
      by_cases c2 : cmpv a (fillv p.a p.n) ≤ 0
      · have d2 : decide (cmpv a (fillv p.a p.n) ≤ 0) = true := by simp [c2]
        have hc : pcon p a = true := by rw [hi.out, d1, d2]; rfl
        go_enter Try.func7, Try.ntmps7
        go_wp2_with fail
        refine (awake2_any _).mono ?_
        rintro e w1 ⟨rfl, hw1⟩
        have zw1 := hw1.size
        have bw1 := below_of (w := w) (by go_grown) hw1
        try simp at zw1
        obtain ⟨p6a, p6b, p6c, p6g, p6d, p6e, p6f, p6h, p6z⟩ := cells4 (b := w.heap.size) hw1 (by go_size) (by go_simp <;> rfl) (by go_simp <;> rfl) (by go_simp <;> rfl) (by go_simp <;> rfl) (by go_simp <;> rfl) (by go_simp <;> rfl) (by go_simp <;> rfl) (by go_simp <;> rfl)
        obtain ⟨q6a, q6b, q6c, q6d, q6e, q6f, q6z⟩ := cells3 (b := w.heap.size + 1) hw1 (by go_size) (by go_simp <;> rfl) (by go_simp <;> rfl) (by go_simp <;> rfl) (by go_simp <;> rfl) (by go_simp <;> rfl) (by go_simp <;> rfl)
        clear hw1
        go_wp2_with fail
        refine (psane_any p _).mono ?_
        rintro e w2 ⟨rfl, hw2⟩
        have zw2 := hw2.size
        have bw2 := below_of (w := w) (by go_grown) hw2
        try simp at zw2
        obtain ⟨p7a, p7b, p7c, p7g, p7d, p7e, p7f, p7h, p7z⟩ := cells4 (b := w.heap.size) hw2 (by go_size) (by go_simp <;> rfl) (by go_simp <;> rfl) (by go_simp <;> rfl) (by go_simp <;> rfl) (by go_simp <;> rfl) (by go_simp <;> rfl) (by go_simp <;> rfl) (by go_simp <;> rfl)
        obtain ⟨q7a, q7b, q7c, q7d, q7e, q7f, q7z⟩ := cells3 (b := w.heap.size + 1) hw2 (by go_size) (by go_simp <;> rfl) (by go_simp <;> rfl) (by go_simp <;> rfl) (by go_simp <;> rfl) (by go_simp <;> rfl) (by go_simp <;> rfl)
        clear p6a p6b p6c p6g p6d p6e p6f p6h p6z q6a q6b q6c q6d q6e q6f q6z hw2
        go_wp2_with fail
        refine (sane_any a _).mono ?_
        rintro e w3 ⟨rfl, hw3⟩
        have zw3 := hw3.size
        have bw3 := below_of (w := w) (by go_grown) hw3
        try simp at zw3
        obtain ⟨p8a, p8b, p8c, p8g, p8d, p8e, p8f, p8h, p8z⟩ := cells4 (b := w.heap.size) hw3 (by go_size) (by go_simp <;> rfl) (by go_simp <;> rfl) (by go_simp <;> rfl) (by go_simp <;> rfl) (by go_simp <;> rfl) (by go_simp <;> rfl) (by go_simp <;> rfl) (by go_simp <;> rfl)
        obtain ⟨q8a, q8b, q8c, q8d, q8e, q8f, q8z⟩ := cells3 (b := w.heap.size + 1) hw3 (by go_size) (by go_simp <;> rfl) (by go_simp <;> rfl) (by go_simp <;> rfl) (by go_simp <;> rfl) (by go_simp <;> rfl) (by go_simp <;> rfl)
        clear p7a p7b p7c p7g p7d p7e p7f p7h p7z q7a q7b q7c q7d q7e q7f q7z hw3
        go_wp2_with fail
        refine (pends_any p _).mono ?_
        rintro e w4 ⟨rfl, hw4⟩
        have zw4 := hw4.size
        have bw4 := below_of (w := w) (by go_grown) hw4
        try simp at zw4
        obtain ⟨p9a, p9b, p9c, p9g, p9d, p9e, p9f, p9h, p9z⟩ := cells4 (b := w.heap.size) hw4 (by go_size) (by go_simp <;> rfl) (by go_simp <;> rfl) (by go_simp <;> rfl) (by go_simp <;> rfl) (by go_simp <;> rfl) (by go_simp <;> rfl) (by go_simp <;> rfl) (by go_simp <;> rfl)
        obtain ⟨q9a, q9b, q9c, q9d, q9e, q9f, q9z⟩ := cells3 (b := w.heap.size + 1) hw4 (by go_size) (by go_simp <;> rfl) (by go_simp <;> rfl) (by go_simp <;> rfl) (by go_simp <;> rfl) (by go_simp <;> rfl) (by go_simp <;> rfl)
        clear p8a p8b p8c p8g p8d p8e p8f p8h p8z q8a q8b q8c q8d q8e q8f q8z hw4
        go_wp2_with fail
        refine (cmp_any (maskv p.a p.n) a _).mono ?_
        rintro e w5 ⟨rfl, hw5⟩
        have zw5 := hw5.size
        have bw5 := below_of (w := w) (by go_grown) hw5
        try simp at zw5
        obtain ⟨p10a, p10b, p10c, p10g, p10d, p10e, p10f, p10h, p10z⟩ := cells4 (b := w.heap.size) hw5 (by go_size) (by go_simp <;> rfl) (by go_simp <;> rfl) (by go_simp <;> rfl) (by go_simp <;> rfl) (by go_simp <;> rfl) (by go_simp <;> rfl) (by go_simp <;> rfl) (by go_simp <;> rfl)
        obtain ⟨q10a, q10b, q10c, q10d, q10e, q10f, q10z⟩ := cells3 (b := w.heap.size + 1) hw5 (by go_size) (by go_simp <;> rfl) (by go_simp <;> rfl) (by go_simp <;> rfl) (by go_simp <;> rfl) (by go_simp <;> rfl) (by go_simp <;> rfl)
        obtain ⟨f10a, f10b, f10c, f10d, f10e, f10f, f10z⟩ := cells3 (b := w4.heap.size) hw5 (by go_size) (by go_simp <;> rfl) (by go_simp <;> rfl) (by go_simp <;> rfl) (by go_simp <;> rfl) (by go_simp <;> rfl) (by go_simp <;> rfl)
        obtain ⟨l10a, l10b, l10c, l10d, l10e, l10f, l10z⟩ := cells3 (b := w4.heap.size + 1) hw5 (by go_size) (by go_simp <;> rfl) (by go_simp <;> rfl) (by go_simp <;> rfl) (by go_simp <;> rfl) (by go_simp <;> rfl) (by go_simp <;> rfl)
        clear p9a p9b p9c p9g p9d p9e p9f p9h p9z q9a q9b q9c q9d q9e q9f q9z hw5
        go_wp2_with fail
        refine (cmp_any a (fillv p.a p.n) _).mono ?_
        rintro e w6 ⟨rfl, hw6⟩
        have zw6 := hw6.size
        have bw6 := below_of (w := w) (by go_grown) hw6
        try simp at zw6
        obtain ⟨p11a, p11b, p11c, p11g, p11d, p11e, p11f, p11h, p11z⟩ := cells4 (b := w.heap.size) hw6 (by go_size) (by go_simp <;> rfl) (by go_simp <;> rfl) (by go_simp <;> rfl) (by go_simp <;> rfl) (by go_simp <;> rfl) (by go_simp <;> rfl) (by go_simp <;> rfl) (by go_simp <;> rfl)
        obtain ⟨q11a, q11b, q11c, q11d, q11e, q11f, q11z⟩ := cells3 (b := w.heap.size + 1) hw6 (by go_size) (by go_simp <;> rfl) (by go_simp <;> rfl) (by go_simp <;> rfl) (by go_simp <;> rfl) (by go_simp <;> rfl) (by go_simp <;> rfl)
        obtain ⟨f11a, f11b, f11c, f11d, f11e, f11f, f11z⟩ := cells3 (b := w4.heap.size) hw6 (by go_size) (by go_simp <;> rfl) (by go_simp <;> rfl) (by go_simp <;> rfl) (by go_simp <;> rfl) (by go_simp <;> rfl) (by go_simp <;> rfl)
        obtain ⟨l11a, l11b, l11c, l11d, l11e, l11f, l11z⟩ := cells3 (b := w4.heap.size + 1) hw6 (by go_size) (by go_simp <;> rfl) (by go_simp <;> rfl) (by go_simp <;> rfl) (by go_simp <;> rfl) (by go_simp <;> rfl) (by go_simp <;> rfl)
        clear p10a p10b p10c p10g p10d p10e p10f p10h p10z q10a q10b q10c q10d q10e q10f q10z f10a f10b f10c f10d f10e f10f f10z l10a l10b l10c l10d l10e l10f l10z hw6
        go_wp2_with fail
        refine (pof_any a n _).mono ?_
        rintro e w7 ⟨rfl, hw7⟩
        have zw7 := hw7.size
        have bw7 := below_of (w := w) (by go_grown) hw7
        try simp at zw7
        obtain ⟨p12a, p12b, p12c, p12g, p12d, p12e, p12f, p12h, p12z⟩ := cells4 (b := w.heap.size) hw7 (by go_size) (by go_simp <;> rfl) (by go_simp <;> rfl) (by go_simp <;> rfl) (by go_simp <;> rfl) (by go_simp <;> rfl) (by go_simp <;> rfl) (by go_simp <;> rfl) (by go_simp <;> rfl)
        obtain ⟨q12a, q12b, q12c, q12d, q12e, q12f, q12z⟩ := cells3 (b := w.heap.size + 1) hw7 (by go_size) (by go_simp <;> rfl) (by go_simp <;> rfl) (by go_simp <;> rfl) (by go_simp <;> rfl) (by go_simp <;> rfl) (by go_simp <;> rfl)
        obtain ⟨f12a, f12b, f12c, f12d, f12e, f12f, f12z⟩ := cells3 (b := w4.heap.size) hw7 (by go_size) (by go_simp <;> rfl) (by go_simp <;> rfl) (by go_simp <;> rfl) (by go_simp <;> rfl) (by go_simp <;> rfl) (by go_simp <;> rfl)
        obtain ⟨l12a, l12b, l12c, l12d, l12e, l12f, l12z⟩ := cells3 (b := w4.heap.size + 1) hw7 (by go_size) (by go_simp <;> rfl) (by go_simp <;> rfl) (by go_simp <;> rfl) (by go_simp <;> rfl) (by go_simp <;> rfl) (by go_simp <;> rfl)
        clear p11a p11b p11c p11g p11d p11e p11f p11h p11z q11a q11b q11c q11d q11e q11f q11z f11a f11b f11c f11d f11e f11f f11z l11a l11b l11c l11d l11e l11f l11z hw7
        go_wp2_with fail
        generalize hW : World.alloc _ _ = W
        have hz : w.heap.size ≤ W.heap.size := by subst hW; go_size
        have hB : Below w.heap.size w W := by subst hW; go_grown
        obtain ⟨p13a, p13b, p13c, p13g, p13d, p13e, p13f, p13h, p13z⟩ := cells4 (W := W) (b := w.heap.size) (Below.refl _ W) (by subst hW; go_size) (by subst hW; go_simp <;> rfl) (by subst hW; go_simp <;> rfl) (by subst hW; go_simp <;> rfl) (by subst hW; go_simp <;> rfl) (by subst hW; go_simp <;> rfl) (by subst hW; go_simp <;> rfl) (by subst hW; go_simp <;> rfl) (by subst hW; go_simp <;> rfl)
        obtain ⟨q13a, q13b, q13c, q13d, q13e, q13f, q13z⟩ := cells3 (W := W) (b := w.heap.size + 1) (Below.refl _ W) (by subst hW; go_size) (by subst hW; go_simp <;> rfl) (by subst hW; go_simp <;> rfl) (by subst hW; go_simp <;> rfl) (by subst hW; go_simp <;> rfl) (by subst hW; go_simp <;> rfl) (by subst hW; go_simp <;> rfl)
        obtain ⟨f13a, f13b, f13c, f13d, f13e, f13f, f13z⟩ := cells3 (W := W) (b := w4.heap.size) (Below.refl _ W) (by subst hW; go_size) (by subst hW; go_simp <;> rfl) (by subst hW; go_simp <;> rfl) (by subst hW; go_simp <;> rfl) (by subst hW; go_simp <;> rfl) (by subst hW; go_simp <;> rfl) (by subst hW; go_simp <;> rfl)
        obtain ⟨l13a, l13b, l13c, l13d, l13e, l13f, l13z⟩ := cells3 (W := W) (b := w4.heap.size + 1) (Below.refl _ W) (by subst hW; go_size) (by subst hW; go_simp <;> rfl) (by subst hW; go_simp <;> rfl) (by subst hW; go_simp <;> rfl) (by subst hW; go_simp <;> rfl) (by subst hW; go_simp <;> rfl) (by subst hW; go_simp <;> rfl)
        obtain ⟨o13a, o13b, o13c, o13g, o13d, o13e, o13f, o13h, o13z⟩ := cells4 (W := W) (b := w7.heap.size) (Below.refl _ W) (by subst hW; go_size) (by subst hW; go_simp <;> rfl) (by subst hW; go_simp <;> rfl) (by subst hW; go_simp <;> rfl) (by subst hW; go_simp <;> rfl) (by subst hW; go_simp <;> rfl) (by subst hW; go_simp <;> rfl) (by subst hW; go_simp <;> rfl) (by subst hW; go_simp <;> rfl)
        clear p12a p12b p12c p12g p12d p12e p12f p12h p12z q12a q12b q12c q12d q12e q12f q12z f12a f12b f12c f12d f12e f12f f12z l12a l12b l12c l12d l12e l12f l12z hW
        have Lp13a := fun x : Later W.heap.size W => (x.cell p13z).trans p13a
        have Lp13b := fun x : Later W.heap.size W => (x.cell p13z).trans p13b
        have Lp13c := fun x : Later W.heap.size W => (x.cell p13z).trans p13c
        have Lp13g := fun x : Later W.heap.size W => (x.cell p13z).trans p13g
        have Lq13a := fun x : Later W.heap.size W => (x.cell q13z).trans q13a
        have Lq13b := fun x : Later W.heap.size W => (x.cell q13z).trans q13b
        have Lq13c := fun x : Later W.heap.size W => (x.cell q13z).trans q13c
        have Lf13a := fun x : Later W.heap.size W => (x.cell f13z).trans f13a
        have Lf13b := fun x : Later W.heap.size W => (x.cell f13z).trans f13b
        have Lf13c := fun x : Later W.heap.size W => (x.cell f13z).trans f13c
        have Ll13a := fun x : Later W.heap.size W => (x.cell l13z).trans l13a
        have Ll13b := fun x : Later W.heap.size W => (x.cell l13z).trans l13b
        have Ll13c := fun x : Later W.heap.size W => (x.cell l13z).trans l13c
        have Lo13a := fun x : Later W.heap.size W => (x.cell o13z).trans o13a
        have Lo13b := fun x : Later W.heap.size W => (x.cell o13z).trans o13b
        have Lo13c := fun x : Later W.heap.size W => (x.cell o13z).trans o13c
        have Lo13g := fun x : Later W.heap.size W => (x.cell o13z).trans o13g
        refine region_later W.heap.size (by kernel_rfl) (by kernel_rfl) ?_
        repeat (go_big_quiet_step (first | (go_at_call 23; exact later_of (Nat.le_refl _) (pcon_any _ _ _)) | (go_at_call 19; exact later_of (Nat.le_refl _) (psane_any _ _)) | (go_at_call 21; exact later_of (Nat.le_refl _) (pof_any _ _ _))))
        refine wpQuiet_nil ?_
        intro x
        have hx : Below w.heap.size w x.at := hB.trans (x.below.mono hz)
        go_wp2
        go_ret
        exact ⟨rfl, hx⟩
      · have d2 : decide (cmpv a (fillv p.a p.n) ≤ 0) = false := by simp [c2]
        have hc : pcon p a = false := by rw [hi.out, d1, d2]; rfl
        go_enter Try.func7, Try.ntmps7
        go_wp2_with fail
        refine (awake2_any _).mono ?_
        rintro e w1 ⟨rfl, hw1⟩
        have zw1 := hw1.size
        have bw1 := below_of (w := w) (by go_grown) hw1
        try simp at zw1
        obtain ⟨p14a, p14b, p14c, p14g, p14d, p14e, p14f, p14h, p14z⟩ := cells4 (b := w.heap.size) hw1 (by go_size) (by go_simp <;> rfl) (by go_simp <;> rfl) (by go_simp <;> rfl) (by go_simp <;> rfl) (by go_simp <;> rfl) (by go_simp <;> rfl) (by go_simp <;> rfl) (by go_simp <;> rfl)
        obtain ⟨q14a, q14b, q14c, q14d, q14e, q14f, q14z⟩ := cells3 (b := w.heap.size + 1) hw1 (by go_size) (by go_simp <;> rfl) (by go_simp <;> rfl) (by go_simp <;> rfl) (by go_simp <;> rfl) (by go_simp <;> rfl) (by go_simp <;> rfl)
        clear hw1
        go_wp2_with fail
        refine (psane_any p _).mono ?_
        rintro e w2 ⟨rfl, hw2⟩
        have zw2 := hw2.size
        have bw2 := below_of (w := w) (by go_grown) hw2
        try simp at zw2
        obtain ⟨p15a, p15b, p15c, p15g, p15d, p15e, p15f, p15h, p15z⟩ := cells4 (b := w.heap.size) hw2 (by go_size) (by go_simp <;> rfl) (by go_simp <;> rfl) (by go_simp <;> rfl) (by go_simp <;> rfl) (by go_simp <;> rfl) (by go_simp <;> rfl) (by go_simp <;> rfl) (by go_simp <;> rfl)
        obtain ⟨q15a, q15b, q15c, q15d, q15e, q15f, q15z⟩ := cells3 (b := w.heap.size + 1) hw2 (by go_size) (by go_simp <;> rfl) (by go_simp <;> rfl) (by go_simp <;> rfl) (by go_simp <;> rfl) (by go_simp <;> rfl) (by go_simp <;> rfl)
        clear p14a p14b p14c p14g p14d p14e p14f p14h p14z q14a q14b q14c q14d q14e q14f q14z hw2
        go_wp2_with fail
        refine (sane_any a _).mono ?_
        rintro e w3 ⟨rfl, hw3⟩
        have zw3 := hw3.size
        have bw3 := below_of (w := w) (by go_grown) hw3
        try simp at zw3
        obtain ⟨p16a, p16b, p16c, p16g, p16d, p16e, p16f, p16h, p16z⟩ := cells4 (b := w.heap.size) hw3 (by go_size) (by go_simp <;> rfl) (by go_simp <;> rfl) (by go_simp <;> rfl) (by go_simp <;> rfl) (by go_simp <;> rfl) (by go_simp <;> rfl) (by go_simp <;> rfl) (by go_simp <;> rfl)
        obtain ⟨q16a, q16b, q16c, q16d, q16e, q16f, q16z⟩ := cells3 (b := w.heap.size + 1) hw3 (by go_size) (by go_simp <;> rfl) (by go_simp <;> rfl) (by go_simp <;> rfl) (by go_simp <;> rfl) (by go_simp <;> rfl) (by go_simp <;> rfl)
        clear p15a p15b p15c p15g p15d p15e p15f p15h p15z q15a q15b q15c q15d q15e q15f q15z hw3
        go_wp2_with fail
        refine (pends_any p _).mono ?_
        rintro e w4 ⟨rfl, hw4⟩
        have zw4 := hw4.size
        have bw4 := below_of (w := w) (by go_grown) hw4
        try simp at zw4
        obtain ⟨p17a, p17b, p17c, p17g, p17d, p17e, p17f, p17h, p17z⟩ := cells4 (b := w.heap.size) hw4 (by go_size) (by go_simp <;> rfl) (by go_simp <;> rfl) (by go_simp <;> rfl) (by go_simp <;> rfl) (by go_simp <;> rfl) (by go_simp <;> rfl) (by go_simp <;> rfl) (by go_simp <;> rfl)
        obtain ⟨q17a, q17b, q17c, q17d, q17e, q17f, q17z⟩ := cells3 (b := w.heap.size + 1) hw4 (by go_size) (by go_simp <;> rfl) (by go_simp <;> rfl) (by go_simp <;> rfl) (by go_simp <;> rfl) (by go_simp <;> rfl) (by go_simp <;> rfl)
        clear p16a p16b p16c p16g p16d p16e p16f p16h p16z q16a q16b q16c q16d q16e q16f q16z hw4
        go_wp2_with fail
        refine (cmp_any (maskv p.a p.n) a _).mono ?_
        rintro e w5 ⟨rfl, hw5⟩
        have zw5 := hw5.size
        have bw5 := below_of (w := w) (by go_grown) hw5
        try simp at zw5
        obtain ⟨p18a, p18b, p18c, p18g, p18d, p18e, p18f, p18h, p18z⟩ := cells4 (b := w.heap.size) hw5 (by go_size) (by go_simp <;> rfl) (by go_simp <;> rfl) (by go_simp <;> rfl) (by go_simp <;> rfl) (by go_simp <;> rfl) (by go_simp <;> rfl) (by go_simp <;> rfl) (by go_simp <;> rfl)
        obtain ⟨q18a, q18b, q18c, q18d, q18e, q18f, q18z⟩ := cells3 (b := w.heap.size + 1) hw5 (by go_size) (by go_simp <;> rfl) (by go_simp <;> rfl) (by go_simp <;> rfl) (by go_simp <;> rfl) (by go_simp <;> rfl) (by go_simp <;> rfl)
        obtain ⟨f18a, f18b, f18c, f18d, f18e, f18f, f18z⟩ := cells3 (b := w4.heap.size) hw5 (by go_size) (by go_simp <;> rfl) (by go_simp <;> rfl) (by go_simp <;> rfl) (by go_simp <;> rfl) (by go_simp <;> rfl) (by go_simp <;> rfl)
        obtain ⟨l18a, l18b, l18c, l18d, l18e, l18f, l18z⟩ := cells3 (b := w4.heap.size + 1) hw5 (by go_size) (by go_simp <;> rfl) (by go_simp <;> rfl) (by go_simp <;> rfl) (by go_simp <;> rfl) (by go_simp <;> rfl) (by go_simp <;> rfl)
        clear p17a p17b p17c p17g p17d p17e p17f p17h p17z q17a q17b q17c q17d q17e q17f q17z hw5
        go_wp2_with fail
        refine (cmp_any a (fillv p.a p.n) _).mono ?_
        rintro e w6 ⟨rfl, hw6⟩
        have zw6 := hw6.size
        have bw6 := below_of (w := w) (by go_grown) hw6
        try simp at zw6
        obtain ⟨p19a, p19b, p19c, p19g, p19d, p19e, p19f, p19h, p19z⟩ := cells4 (b := w.heap.size) hw6 (by go_size) (by go_simp <;> rfl) (by go_simp <;> rfl) (by go_simp <;> rfl) (by go_simp <;> rfl) (by go_simp <;> rfl) (by go_simp <;> rfl) (by go_simp <;> rfl) (by go_simp <;> rfl)
        obtain ⟨q19a, q19b, q19c, q19d, q19e, q19f, q19z⟩ := cells3 (b := w.heap.size + 1) hw6 (by go_size) (by go_simp <;> rfl) (by go_simp <;> rfl) (by go_simp <;> rfl) (by go_simp <;> rfl) (by go_simp <;> rfl) (by go_simp <;> rfl)
        obtain ⟨f19a, f19b, f19c, f19d, f19e, f19f, f19z⟩ := cells3 (b := w4.heap.size) hw6 (by go_size) (by go_simp <;> rfl) (by go_simp <;> rfl) (by go_simp <;> rfl) (by go_simp <;> rfl) (by go_simp <;> rfl) (by go_simp <;> rfl)
        obtain ⟨l19a, l19b, l19c, l19d, l19e, l19f, l19z⟩ := cells3 (b := w4.heap.size + 1) hw6 (by go_size) (by go_simp <;> rfl) (by go_simp <;> rfl) (by go_simp <;> rfl) (by go_simp <;> rfl) (by go_simp <;> rfl) (by go_simp <;> rfl)
        clear p18a p18b p18c p18g p18d p18e p18f p18h p18z q18a q18b q18c q18d q18e q18f q18z f18a f18b f18c f18d f18e f18f f18z l18a l18b l18c l18d l18e l18f l18z hw6
        go_wp2_with fail
        refine (pof_any a n _).mono ?_
        rintro e w7 ⟨rfl, hw7⟩
        have zw7 := hw7.size
        have bw7 := below_of (w := w) (by go_grown) hw7
        try simp at zw7
        obtain ⟨p20a, p20b, p20c, p20g, p20d, p20e, p20f, p20h, p20z⟩ := cells4 (b := w.heap.size) hw7 (by go_size) (by go_simp <;> rfl) (by go_simp <;> rfl) (by go_simp <;> rfl) (by go_simp <;> rfl) (by go_simp <;> rfl) (by go_simp <;> rfl) (by go_simp <;> rfl) (by go_simp <;> rfl)
        obtain ⟨q20a, q20b, q20c, q20d, q20e, q20f, q20z⟩ := cells3 (b := w.heap.size + 1) hw7 (by go_size) (by go_simp <;> rfl) (by go_simp <;> rfl) (by go_simp <;> rfl) (by go_simp <;> rfl) (by go_simp <;> rfl) (by go_simp <;> rfl)
        obtain ⟨f20a, f20b, f20c, f20d, f20e, f20f, f20z⟩ := cells3 (b := w4.heap.size) hw7 (by go_size) (by go_simp <;> rfl) (by go_simp <;> rfl) (by go_simp <;> rfl) (by go_simp <;> rfl) (by go_simp <;> rfl) (by go_simp <;> rfl)
        obtain ⟨l20a, l20b, l20c, l20d, l20e, l20f, l20z⟩ := cells3 (b := w4.heap.size + 1) hw7 (by go_size) (by go_simp <;> rfl) (by go_simp <;> rfl) (by go_simp <;> rfl) (by go_simp <;> rfl) (by go_simp <;> rfl) (by go_simp <;> rfl)
        clear p19a p19b p19c p19g p19d p19e p19f p19h p19z q19a q19b q19c q19d q19e q19f q19z f19a f19b f19c f19d f19e f19f f19z l19a l19b l19c l19d l19e l19f l19z hw7
        go_wp2_with fail
        generalize hW : World.alloc _ _ = W
        have hz : w.heap.size ≤ W.heap.size := by subst hW; go_size
        have hB : Below w.heap.size w W := by subst hW; go_grown
        obtain ⟨p21a, p21b, p21c, p21g, p21d, p21e, p21f, p21h, p21z⟩ := cells4 (W := W) (b := w.heap.size) (Below.refl _ W) (by subst hW; go_size) (by subst hW; go_simp <;> rfl) (by subst hW; go_simp <;> rfl) (by subst hW; go_simp <;> rfl) (by subst hW; go_simp <;> rfl) (by subst hW; go_simp <;> rfl) (by subst hW; go_simp <;> rfl) (by subst hW; go_simp <;> rfl) (by subst hW; go_simp <;> rfl)
        obtain ⟨q21a, q21b, q21c, q21d, q21e, q21f, q21z⟩ := cells3 (W := W) (b := w.heap.size + 1) (Below.refl _ W) (by subst hW; go_size) (by subst hW; go_simp <;> rfl) (by subst hW; go_simp <;> rfl) (by subst hW; go_simp <;> rfl) (by subst hW; go_simp <;> rfl) (by subst hW; go_simp <;> rfl) (by subst hW; go_simp <;> rfl)
        obtain ⟨f21a, f21b, f21c, f21d, f21e, f21f, f21z⟩ := cells3 (W := W) (b := w4.heap.size) (Below.refl _ W) (by subst hW; go_size) (by subst hW; go_simp <;> rfl) (by subst hW; go_simp <;> rfl) (by subst hW; go_simp <;> rfl) (by subst hW; go_simp <;> rfl) (by subst hW; go_simp <;> rfl) (by subst hW; go_simp <;> rfl)
        obtain ⟨l21a, l21b, l21c, l21d, l21e, l21f, l21z⟩ := cells3 (W := W) (b := w4.heap.size + 1) (Below.refl _ W) (by subst hW; go_size) (by subst hW; go_simp <;> rfl) (by subst hW; go_simp <;> rfl) (by subst hW; go_simp <;> rfl) (by subst hW; go_simp <;> rfl) (by subst hW; go_simp <;> rfl) (by subst hW; go_simp <;> rfl)
        obtain ⟨o21a, o21b, o21c, o21g, o21d, o21e, o21f, o21h, o21z⟩ := cells4 (W := W) (b := w7.heap.size) (Below.refl _ W) (by subst hW; go_size) (by subst hW; go_simp <;> rfl) (by subst hW; go_simp <;> rfl) (by subst hW; go_simp <;> rfl) (by subst hW; go_simp <;> rfl) (by subst hW; go_simp <;> rfl) (by subst hW; go_simp <;> rfl) (by subst hW; go_simp <;> rfl) (by subst hW; go_simp <;> rfl)
        clear p20a p20b p20c p20g p20d p20e p20f p20h p20z q20a q20b q20c q20d q20e q20f q20z f20a f20b f20c f20d f20e f20f f20z l20a l20b l20c l20d l20e l20f l20z hW
        have Lp21a := fun x : Later W.heap.size W => (x.cell p21z).trans p21a
        have Lp21b := fun x : Later W.heap.size W => (x.cell p21z).trans p21b
        have Lp21c := fun x : Later W.heap.size W => (x.cell p21z).trans p21c
        have Lp21g := fun x : Later W.heap.size W => (x.cell p21z).trans p21g
        have Lq21a := fun x : Later W.heap.size W => (x.cell q21z).trans q21a
        have Lq21b := fun x : Later W.heap.size W => (x.cell q21z).trans q21b
        have Lq21c := fun x : Later W.heap.size W => (x.cell q21z).trans q21c
        have Lf21a := fun x : Later W.heap.size W => (x.cell f21z).trans f21a
        have Lf21b := fun x : Later W.heap.size W => (x.cell f21z).trans f21b
        have Lf21c := fun x : Later W.heap.size W => (x.cell f21z).trans f21c
        have Ll21a := fun x : Later W.heap.size W => (x.cell l21z).trans l21a
        have Ll21b := fun x : Later W.heap.size W => (x.cell l21z).trans l21b
        have Ll21c := fun x : Later W.heap.size W => (x.cell l21z).trans l21c
        have Lo21a := fun x : Later W.heap.size W => (x.cell o21z).trans o21a
        have Lo21b := fun x : Later W.heap.size W => (x.cell o21z).trans o21b
        have Lo21c := fun x : Later W.heap.size W => (x.cell o21z).trans o21c
        have Lo21g := fun x : Later W.heap.size W => (x.cell o21z).trans o21g
        refine region_later W.heap.size (by kernel_rfl) (by kernel_rfl) ?_
        repeat (go_big_quiet_step (first | (go_at_call 23; exact later_of (Nat.le_refl _) (pcon_any _ _ _)) | (go_at_call 19; exact later_of (Nat.le_refl _) (psane_any _ _)) | (go_at_call 21; exact later_of (Nat.le_refl _) (pof_any _ _ _))))
        refine wpQuiet_nil ?_
        intro x
        have hx : Below w.heap.size w x.at := hB.trans (x.below.mono hz)
        go_wp2
        go_ret
        exact ⟨rfl, hx⟩
    · have d1 : decide (cmpv (maskv p.a p.n) a ≤ 0) = false := by simp [c1]
      have hc : pcon p a = false := by rw [hi.out, d1]; rfl
      go_enter Try.func7, Try.ntmps7
      go_wp2_with fail
      refine (awake2_any _).mono ?_
      rintro e w1 ⟨rfl, hw1⟩
      have zw1 := hw1.size
      have bw1 := below_of (w := w) (by go_grown) hw1
      try simp at zw1
      obtain ⟨p22a, p22b, p22c, p22g, p22d, p22e, p22f, p22h, p22z⟩ := cells4 (b := w.heap.size) hw1 (by go_size) (by go_simp <;> rfl) (by go_simp <;> rfl) (by go_simp <;> rfl) (by go_simp <;> rfl) (by go_simp <;> rfl) (by go_simp <;> rfl) (by go_simp <;> rfl) (by go_simp <;> rfl)
      obtain ⟨q22a, q22b, q22c, q22d, q22e, q22f, q22z⟩ := cells3 (b := w.heap.size + 1) hw1 (by go_size) (by go_simp <;> rfl) (by go_simp <;> rfl) (by go_simp <;> rfl) (by go_simp <;> rfl) (by go_simp <;> rfl) (by go_simp <;> rfl)
      clear hw1
      go_wp2_with fail
      refine (psane_any p _).mono ?_
      rintro e w2 ⟨rfl, hw2⟩
      have zw2 := hw2.size
      have bw2 := below_of (w := w) (by go_grown) hw2
      try simp at zw2
      obtain ⟨p23a, p23b, p23c, p23g, p23d, p23e, p23f, p23h, p23z⟩ := cells4 (b := w.heap.size) hw2 (by go_size) (by go_simp <;> rfl) (by go_simp <;> rfl) (by go_simp <;> rfl) (by go_simp <;> rfl) (by go_simp <;> rfl) (by go_simp <;> rfl) (by go_simp <;> rfl) (by go_simp <;> rfl)
      obtain ⟨q23a, q23b, q23c, q23d, q23e, q23f, q23z⟩ := cells3 (b := w.heap.size + 1) hw2 (by go_size) (by go_simp <;> rfl) (by go_simp <;> rfl) (by go_simp <;> rfl) (by go_simp <;> rfl) (by go_simp <;> rfl) (by go_simp <;> rfl)
      clear p22a p22b p22c p22g p22d p22e p22f p22h p22z q22a q22b q22c q22d q22e q22f q22z hw2
      go_wp2_with fail
      refine (sane_any a _).mono ?_
      rintro e w3 ⟨rfl, hw3⟩
      have zw3 := hw3.size
      have bw3 := below_of (w := w) (by go_grown) hw3
      try simp at zw3
      obtain ⟨p24a, p24b, p24c, p24g, p24d, p24e, p24f, p24h, p24z⟩ := cells4 (b := w.heap.size) hw3 (by go_size) (by go_simp <;> rfl) (by go_simp <;> rfl) (by go_simp <;> rfl) (by go_simp <;> rfl) (by go_simp <;> rfl) (by go_simp <;> rfl) (by go_simp <;> rfl) (by go_simp <;> rfl)
      obtain ⟨q24a, q24b, q24c, q24d, q24e, q24f, q24z⟩ := cells3 (b := w.heap.size + 1) hw3 (by go_size) (by go_simp <;> rfl) (by go_simp <;> rfl) (by go_simp <;> rfl) (by go_simp <;> rfl) (by go_simp <;> rfl) (by go_simp <;> rfl)
      clear p23a p23b p23c p23g p23d p23e p23f p23h p23z q23a q23b q23c q23d q23e q23f q23z hw3
      go_wp2_with fail
      refine (pends_any p _).mono ?_
      rintro e w4 ⟨rfl, hw4⟩
      have zw4 := hw4.size
      have bw4 := below_of (w := w) (by go_grown) hw4
      try simp at zw4
      obtain ⟨p25a, p25b, p25c, p25g, p25d, p25e, p25f, p25h, p25z⟩ := cells4 (b := w.heap.size) hw4 (by go_size) (by go_simp <;> rfl) (by go_simp <;> rfl) (by go_simp <;> rfl) (by go_simp <;> rfl) (by go_simp <;> rfl) (by go_simp <;> rfl) (by go_simp <;> rfl) (by go_simp <;> rfl)
      obtain ⟨q25a, q25b, q25c, q25d, q25e, q25f, q25z⟩ := cells3 (b := w.heap.size + 1) hw4 (by go_size) (by go_simp <;> rfl) (by go_simp <;> rfl) (by go_simp <;> rfl) (by go_simp <;> rfl) (by go_simp <;> rfl) (by go_simp <;> rfl)
      clear p24a p24b p24c p24g p24d p24e p24f p24h p24z q24a q24b q24c q24d q24e q24f q24z hw4
      go_wp2_with fail
      refine (cmp_any (maskv p.a p.n) a _).mono ?_
      rintro e w5 ⟨rfl, hw5⟩
      have zw5 := hw5.size
      have bw5 := below_of (w := w) (by go_grown) hw5
      try simp at zw5
      obtain ⟨p26a, p26b, p26c, p26g, p26d, p26e, p26f, p26h, p26z⟩ := cells4 (b := w.heap.size) hw5 (by go_size) (by go_simp <;> rfl) (by go_simp <;> rfl) (by go_simp <;> rfl) (by go_simp <;> rfl) (by go_simp <;> rfl) (by go_simp <;> rfl) (by go_simp <;> rfl) (by go_simp <;> rfl)
      obtain ⟨q26a, q26b, q26c, q26d, q26e, q26f, q26z⟩ := cells3 (b := w.heap.size + 1) hw5 (by go_size) (by go_simp <;> rfl) (by go_simp <;> rfl) (by go_simp <;> rfl) (by go_simp <;> rfl) (by go_simp <;> rfl) (by go_simp <;> rfl)
      obtain ⟨f26a, f26b, f26c, f26d, f26e, f26f, f26z⟩ := cells3 (b := w4.heap.size) hw5 (by go_size) (by go_simp <;> rfl) (by go_simp <;> rfl) (by go_simp <;> rfl) (by go_simp <;> rfl) (by go_simp <;> rfl) (by go_simp <;> rfl)
      obtain ⟨l26a, l26b, l26c, l26d, l26e, l26f, l26z⟩ := cells3 (b := w4.heap.size + 1) hw5 (by go_size) (by go_simp <;> rfl) (by go_simp <;> rfl) (by go_simp <;> rfl) (by go_simp <;> rfl) (by go_simp <;> rfl) (by go_simp <;> rfl)
      clear p25a p25b p25c p25g p25d p25e p25f p25h p25z q25a q25b q25c q25d q25e q25f q25z hw5
      go_wp2_with fail
      refine (pof_any a n _).mono ?_
      rintro e w7 ⟨rfl, hw7⟩
      have zw7 := hw7.size
      have bw7 := below_of (w := w) (by go_grown) hw7
      try simp at zw7
      obtain ⟨p27a, p27b, p27c, p27g, p27d, p27e, p27f, p27h, p27z⟩ := cells4 (b := w.heap.size) hw7 (by go_size) (by go_simp <;> rfl) (by go_simp <;> rfl) (by go_simp <;> rfl) (by go_simp <;> rfl) (by go_simp <;> rfl) (by go_simp <;> rfl) (by go_simp <;> rfl) (by go_simp <;> rfl)
      obtain ⟨q27a, q27b, q27c, q27d, q27e, q27f, q27z⟩ := cells3 (b := w.heap.size + 1) hw7 (by go_size) (by go_simp <;> rfl) (by go_simp <;> rfl) (by go_simp <;> rfl) (by go_simp <;> rfl) (by go_simp <;> rfl) (by go_simp <;> rfl)
      obtain ⟨f27a, f27b, f27c, f27d, f27e, f27f, f27z⟩ := cells3 (b := w4.heap.size) hw7 (by go_size) (by go_simp <;> rfl) (by go_simp <;> rfl) (by go_simp <;> rfl) (by go_simp <;> rfl) (by go_simp <;> rfl) (by go_simp <;> rfl)
      obtain ⟨l27a, l27b, l27c, l27d, l27e, l27f, l27z⟩ := cells3 (b := w4.heap.size + 1) hw7 (by go_size) (by go_simp <;> rfl) (by go_simp <;> rfl) (by go_simp <;> rfl) (by go_simp <;> rfl) (by go_simp <;> rfl) (by go_simp <;> rfl)
      clear p26a p26b p26c p26g p26d p26e p26f p26h p26z q26a q26b q26c q26d q26e q26f q26z f26a f26b f26c f26d f26e f26f f26z l26a l26b l26c l26d l26e l26f l26z hw7
      go_wp2_with fail
      generalize hW : World.alloc _ _ = W
      have hz : w.heap.size ≤ W.heap.size := by subst hW; go_size
      have hB : Below w.heap.size w W := by subst hW; go_grown
      obtain ⟨p28a, p28b, p28c, p28g, p28d, p28e, p28f, p28h, p28z⟩ := cells4 (W := W) (b := w.heap.size) (Below.refl _ W) (by subst hW; go_size) (by subst hW; go_simp <;> rfl) (by subst hW; go_simp <;> rfl) (by subst hW; go_simp <;> rfl) (by subst hW; go_simp <;> rfl) (by subst hW; go_simp <;> rfl) (by subst hW; go_simp <;> rfl) (by subst hW; go_simp <;> rfl) (by subst hW; go_simp <;> rfl)
      obtain ⟨q28a, q28b, q28c, q28d, q28e, q28f, q28z⟩ := cells3 (W := W) (b := w.heap.size + 1) (Below.refl _ W) (by subst hW; go_size) (by subst hW; go_simp <;> rfl) (by subst hW; go_simp <;> rfl) (by subst hW; go_simp <;> rfl) (by subst hW; go_simp <;> rfl) (by subst hW; go_simp <;> rfl) (by subst hW; go_simp <;> rfl)
      obtain ⟨f28a, f28b, f28c, f28d, f28e, f28f, f28z⟩ := cells3 (W := W) (b := w4.heap.size) (Below.refl _ W) (by subst hW; go_size) (by subst hW; go_simp <;> rfl) (by subst hW; go_simp <;> rfl) (by subst hW; go_simp <;> rfl) (by subst hW; go_simp <;> rfl) (by subst hW; go_simp <;> rfl) (by subst hW; go_simp <;> rfl)
      obtain ⟨l28a, l28b, l28c, l28d, l28e, l28f, l28z⟩ := cells3 (W := W) (b := w4.heap.size + 1) (Below.refl _ W) (by subst hW; go_size) (by subst hW; go_simp <;> rfl) (by subst hW; go_simp <;> rfl) (by subst hW; go_simp <;> rfl) (by subst hW; go_simp <;> rfl) (by subst hW; go_simp <;> rfl) (by subst hW; go_simp <;> rfl)
      obtain ⟨o28a, o28b, o28c, o28g, o28d, o28e, o28f, o28h, o28z⟩ := cells4 (W := W) (b := w7.heap.size) (Below.refl _ W) (by subst hW; go_size) (by subst hW; go_simp <;> rfl) (by subst hW; go_simp <;> rfl) (by subst hW; go_simp <;> rfl) (by subst hW; go_simp <;> rfl) (by subst hW; go_simp <;> rfl) (by subst hW; go_simp <;> rfl) (by subst hW; go_simp <;> rfl) (by subst hW; go_simp <;> rfl)
      clear p27a p27b p27c p27g p27d p27e p27f p27h p27z q27a q27b q27c q27d q27e q27f q27z f27a f27b f27c f27d f27e f27f f27z l27a l27b l27c l27d l27e l27f l27z hW
      have Lp28a := fun x : Later W.heap.size W => (x.cell p28z).trans p28a
      have Lp28b := fun x : Later W.heap.size W => (x.cell p28z).trans p28b
      have Lp28c := fun x : Later W.heap.size W => (x.cell p28z).trans p28c
      have Lp28g := fun x : Later W.heap.size W => (x.cell p28z).trans p28g
      have Lq28a := fun x : Later W.heap.size W => (x.cell q28z).trans q28a
      have Lq28b := fun x : Later W.heap.size W => (x.cell q28z).trans q28b
      have Lq28c := fun x : Later W.heap.size W => (x.cell q28z).trans q28c
      have Lf28a := fun x : Later W.heap.size W => (x.cell f28z).trans f28a
      have Lf28b := fun x : Later W.heap.size W => (x.cell f28z).trans f28b
      have Lf28c := fun x : Later W.heap.size W => (x.cell f28z).trans f28c
      have Ll28a := fun x : Later W.heap.size W => (x.cell l28z).trans l28a
      have Ll28b := fun x : Later W.heap.size W => (x.cell l28z).trans l28b
      have Ll28c := fun x : Later W.heap.size W => (x.cell l28z).trans l28c
      have Lo28a := fun x : Later W.heap.size W => (x.cell o28z).trans o28a
      have Lo28b := fun x : Later W.heap.size W => (x.cell o28z).trans o28b
      have Lo28c := fun x : Later W.heap.size W => (x.cell o28z).trans o28c
      have Lo28g := fun x : Later W.heap.size W => (x.cell o28z).trans o28g
      refine region_later W.heap.size (by kernel_rfl) (by kernel_rfl) ?_
      repeat (go_big_quiet_step (first | (go_at_call 23; exact later_of (Nat.le_refl _) (pcon_any _ _ _)) | (go_at_call 19; exact later_of (Nat.le_refl _) (psane_any _ _)) | (go_at_call 21; exact later_of (Nat.le_refl _) (pof_any _ _ _))))
      refine wpQuiet_nil ?_
      intro x
      have hx : Below w.heap.size w x.at := hB.trans (x.below.mono hz)
      go_wp2
      go_ret
      exact ⟨rfl, hx⟩
  · have hc := ends_out p a hv
    have tv : (a.v6 == p.a.v6) = false := by simp [hv]
    clear hv
    go_enter Try.func7, Try.ntmps7
    go_wp2_with fail
    refine (awake2_any _).mono ?_
    rintro e w1 ⟨rfl, hw1⟩
    have zw1 := hw1.size
    have bw1 := below_of (w := w) (by go_grown) hw1
    try simp at zw1
    obtain ⟨p29a, p29b, p29c, p29g, p29d, p29e, p29f, p29h, p29z⟩ := cells4 (b := w.heap.size) hw1 (by go_size) (by go_simp <;> rfl) (by go_simp <;> rfl) (by go_simp <;> rfl) (by go_simp <;> rfl) (by go_simp <;> rfl) (by go_simp <;> rfl) (by go_simp <;> rfl) (by go_simp <;> rfl)
    obtain ⟨q29a, q29b, q29c, q29d, q29e, q29f, q29z⟩ := cells3 (b := w.heap.size + 1) hw1 (by go_size) (by go_simp <;> rfl) (by go_simp <;> rfl) (by go_simp <;> rfl) (by go_simp <;> rfl) (by go_simp <;> rfl) (by go_simp <;> rfl)
    clear hw1
    go_wp2_with fail
    refine (psane_any p _).mono ?_
    rintro e w2 ⟨rfl, hw2⟩
    have zw2 := hw2.size
    have bw2 := below_of (w := w) (by go_grown) hw2
    try simp at zw2
    obtain ⟨p30a, p30b, p30c, p30g, p30d, p30e, p30f, p30h, p30z⟩ := cells4 (b := w.heap.size) hw2 (by go_size) (by go_simp <;> rfl) (by go_simp <;> rfl) (by go_simp <;> rfl) (by go_simp <;> rfl) (by go_simp <;> rfl) (by go_simp <;> rfl) (by go_simp <;> rfl) (by go_simp <;> rfl)
    obtain ⟨q30a, q30b, q30c, q30d, q30e, q30f, q30z⟩ := cells3 (b := w.heap.size + 1) hw2 (by go_size) (by go_simp <;> rfl) (by go_simp <;> rfl) (by go_simp <;> rfl) (by go_simp <;> rfl) (by go_simp <;> rfl) (by go_simp <;> rfl)
    clear p29a p29b p29c p29g p29d p29e p29f p29h p29z q29a q29b q29c q29d q29e q29f q29z hw2
    go_wp2_with fail
    refine (sane_any a _).mono ?_
    rintro e w3 ⟨rfl, hw3⟩
    have zw3 := hw3.size
    have bw3 := below_of (w := w) (by go_grown) hw3
    try simp at zw3
    obtain ⟨p31a, p31b, p31c, p31g, p31d, p31e, p31f, p31h, p31z⟩ := cells4 (b := w.heap.size) hw3 (by go_size) (by go_simp <;> rfl) (by go_simp <;> rfl) (by go_simp <;> rfl) (by go_simp <;> rfl) (by go_simp <;> rfl) (by go_simp <;> rfl) (by go_simp <;> rfl) (by go_simp <;> rfl)
    obtain ⟨q31a, q31b, q31c, q31d, q31e, q31f, q31z⟩ := cells3 (b := w.heap.size + 1) hw3 (by go_size) (by go_simp <;> rfl) (by go_simp <;> rfl) (by go_simp <;> rfl) (by go_simp <;> rfl) (by go_simp <;> rfl) (by go_simp <;> rfl)
    clear p30a p30b p30c p30g p30d p30e p30f p30h p30z q30a q30b q30c q30d q30e q30f q30z hw3
    go_wp2_with fail
    refine (pends_any p _).mono ?_
    rintro e w4 ⟨rfl, hw4⟩
    have zw4 := hw4.size
    have bw4 := below_of (w := w) (by go_grown) hw4
    try simp at zw4
    obtain ⟨p32a, p32b, p32c, p32g, p32d, p32e, p32f, p32h, p32z⟩ := cells4 (b := w.heap.size) hw4 (by go_size) (by go_simp <;> rfl) (by go_simp <;> rfl) (by go_simp <;> rfl) (by go_simp <;> rfl) (by go_simp <;> rfl) (by go_simp <;> rfl) (by go_simp <;> rfl) (by go_simp <;> rfl)
    obtain ⟨q32a, q32b, q32c, q32d, q32e, q32f, q32z⟩ := cells3 (b := w.heap.size + 1) hw4 (by go_size) (by go_simp <;> rfl) (by go_simp <;> rfl) (by go_simp <;> rfl) (by go_simp <;> rfl) (by go_simp <;> rfl) (by go_simp <;> rfl)
    clear p31a p31b p31c p31g p31d p31e p31f p31h p31z q31a q31b q31c q31d q31e q31f q31z hw4
    go_wp2_with fail
    refine (pof_any a n _).mono ?_
    rintro e w7 ⟨rfl, hw7⟩
    have zw7 := hw7.size
    have bw7 := below_of (w := w) (by go_grown) hw7
    try simp at zw7
    obtain ⟨p33a, p33b, p33c, p33g, p33d, p33e, p33f, p33h, p33z⟩ := cells4 (b := w.heap.size) hw7 (by go_size) (by go_simp <;> rfl) (by go_simp <;> rfl) (by go_simp <;> rfl) (by go_simp <;> rfl) (by go_simp <;> rfl) (by go_simp <;> rfl) (by go_simp <;> rfl) (by go_simp <;> rfl)
    obtain ⟨q33a, q33b, q33c, q33d, q33e, q33f, q33z⟩ := cells3 (b := w.heap.size + 1) hw7 (by go_size) (by go_simp <;> rfl) (by go_simp <;> rfl) (by go_simp <;> rfl) (by go_simp <;> rfl) (by go_simp <;> rfl) (by go_simp <;> rfl)
    obtain ⟨f33a, f33b, f33c, f33d, f33e, f33f, f33z⟩ := cells3 (b := w4.heap.size) hw7 (by go_size) (by go_simp <;> rfl) (by go_simp <;> rfl) (by go_simp <;> rfl) (by go_simp <;> rfl) (by go_simp <;> rfl) (by go_simp <;> rfl)
    obtain ⟨l33a, l33b, l33c, l33d, l33e, l33f, l33z⟩ := cells3 (b := w4.heap.size + 1) hw7 (by go_size) (by go_simp <;> rfl) (by go_simp <;> rfl) (by go_simp <;> rfl) (by go_simp <;> rfl) (by go_simp <;> rfl) (by go_simp <;> rfl)
    clear p32a p32b p32c p32g p32d p32e p32f p32h p32z q32a q32b q32c q32d q32e q32f q32z hw7
    go_wp2_with fail
    generalize hW : World.alloc _ _ = W
    have hz : w.heap.size ≤ W.heap.size := by subst hW; go_size
    have hB : Below w.heap.size w W := by subst hW; go_grown
    obtain ⟨p34a, p34b, p34c, p34g, p34d, p34e, p34f, p34h, p34z⟩ := cells4 (W := W) (b := w.heap.size) (Below.refl _ W) (by subst hW; go_size) (by subst hW; go_simp <;> rfl) (by subst hW; go_simp <;> rfl) (by subst hW; go_simp <;> rfl) (by subst hW; go_simp <;> rfl) (by subst hW; go_simp <;> rfl) (by subst hW; go_simp <;> rfl) (by subst hW; go_simp <;> rfl) (by subst hW; go_simp <;> rfl)
    obtain ⟨q34a, q34b, q34c, q34d, q34e, q34f, q34z⟩ := cells3 (W := W) (b := w.heap.size + 1) (Below.refl _ W) (by subst hW; go_size) (by subst hW; go_simp <;> rfl) (by subst hW; go_simp <;> rfl) (by subst hW; go_simp <;> rfl) (by subst hW; go_simp <;> rfl) (by subst hW; go_simp <;> rfl) (by subst hW; go_simp <;> rfl)
    obtain ⟨f34a, f34b, f34c, f34d, f34e, f34f, f34z⟩ := cells3 (W := W) (b := w4.heap.size) (Below.refl _ W) (by subst hW; go_size) (by subst hW; go_simp <;> rfl) (by subst hW; go_simp <;> rfl) (by subst hW; go_simp <;> rfl) (by subst hW; go_simp <;> rfl) (by subst hW; go_simp <;> rfl) (by subst hW; go_simp <;> rfl)
    obtain ⟨l34a, l34b, l34c, l34d, l34e, l34f, l34z⟩ := cells3 (W := W) (b := w4.heap.size + 1) (Below.refl _ W) (by subst hW; go_size) (by subst hW; go_simp <;> rfl) (by subst hW; go_simp <;> rfl) (by subst hW; go_simp <;> rfl) (by subst hW; go_simp <;> rfl) (by subst hW; go_simp <;> rfl) (by subst hW; go_simp <;> rfl)
    obtain ⟨o34a, o34b, o34c, o34g, o34d, o34e, o34f, o34h, o34z⟩ := cells4 (W := W) (b := w7.heap.size) (Below.refl _ W) (by subst hW; go_size) (by subst hW; go_simp <;> rfl) (by subst hW; go_simp <;> rfl) (by subst hW; go_simp <;> rfl) (by subst hW; go_simp <;> rfl) (by subst hW; go_simp <;> rfl) (by subst hW; go_simp <;> rfl) (by subst hW; go_simp <;> rfl) (by subst hW; go_simp <;> rfl)
    clear p33a p33b p33c p33g p33d p33e p33f p33h p33z q33a q33b q33c q33d q33e q33f q33z f33a f33b f33c f33d f33e f33f f33z l33a l33b l33c l33d l33e l33f l33z hW
    have Lp34a := fun x : Later W.heap.size W => (x.cell p34z).trans p34a
    have Lp34b := fun x : Later W.heap.size W => (x.cell p34z).trans p34b
    have Lp34c := fun x : Later W.heap.size W => (x.cell p34z).trans p34c
    have Lp34g := fun x : Later W.heap.size W => (x.cell p34z).trans p34g
    have Lq34a := fun x : Later W.heap.size W => (x.cell q34z).trans q34a
    have Lq34b := fun x : Later W.heap.size W => (x.cell q34z).trans q34b
    have Lq34c := fun x : Later W.heap.size W => (x.cell q34z).trans q34c
    have Lf34a := fun x : Later W.heap.size W => (x.cell f34z).trans f34a
    have Lf34b := fun x : Later W.heap.size W => (x.cell f34z).trans f34b
    have Lf34c := fun x : Later W.heap.size W => (x.cell f34z).trans f34c
    have Ll34a := fun x : Later W.heap.size W => (x.cell l34z).trans l34a
    have Ll34b := fun x : Later W.heap.size W => (x.cell l34z).trans l34b
    have Ll34c := fun x : Later W.heap.size W => (x.cell l34z).trans l34c
    have Lo34a := fun x : Later W.heap.size W => (x.cell o34z).trans o34a
    have Lo34b := fun x : Later W.heap.size W => (x.cell o34z).trans o34b
    have Lo34c := fun x : Later W.heap.size W => (x.cell o34z).trans o34c
    have Lo34g := fun x : Later W.heap.size W => (x.cell o34z).trans o34g
    refine region_later W.heap.size (by kernel_rfl) (by kernel_rfl) ?_
    repeat (go_big_quiet_step (first | (go_at_call 23; exact later_of (Nat.le_refl _) (pcon_any _ _ _)) | (go_at_call 19; exact later_of (Nat.le_refl _) (psane_any _ _)) | (go_at_call 21; exact later_of (Nat.le_refl _) (pof_any _ _ _))))
    refine wpQuiet_nil ?_
    intro x
    have hx : Below w.heap.size w x.at := hB.trans (x.below.mono hz)
    go_wp2
    go_ret
    exact ⟨rfl, hx⟩

theorem pends_law (p : Pf) (a : Ad) (n : Int) (w : World) :
    Calls Try.prog 7 #[.agg #[.int .u64 (u p.a.hi), .int .u64 (u p.a.lo), .bool p.a.v6, .int .i64 p.n], .agg #[.int .u64 (u a.hi), .int .u64 (u a.lo), .bool a.v6], .int .i64 n] w fun e w' => e = .returned (.bool true) ∧ Below w.heap.size w w' := by
  by_cases h : psane p = true ∧ saneB a = true
  · exact pends_yes p a n w h.1 h.2
  · exact pends_not p a n w h

end Go.Proofs.Ytongbfnndphdaaa
