/-
  WireGood returns true, whatever bytes. No condition.
-/
import Derived.Test.YtibhabglmkgaaaaVn
import Derived.Test.YtibhabglmkgaaaaLate
namespace Go.Proofs.Ytibhabglmkgaaaa
open Go.RowKit
set_option maxRecDepth 100000

theorem get_ok (A : Option Addr) (c : Nat) (l : List Int) (w : World) (h : Rd w A c l) (he : getE l = 0) : Calls Try.prog 10 #[.slice A l.length c] w fun e w' => e = .returned (.tuple #[.agg #[.int .u64 (u (getP l).a.hi), .int .u64 (u (getP l).a.lo), .bool (getP l).a.v6, .int .i64 (getP l).n], .int .i64 (getN l), .int .i64 0]) ∧ Below w.heap.size w w' := by
  have := get_any A c l w h
  rw [he] at this
  exact this
theorem get_bad (A : Option Addr) (c : Nat) (l : List Int) (w : World) (h : Rd w A c l) (he : getE l ≠ 0) : Calls Try.prog 10 #[.slice A l.length c] w fun e w' => e = .returned (.tuple #[.agg #[.int .u64 0, .int .u64 0, .bool false, .int .i64 0], .int .i64 0, .int .i64 (getE l)]) ∧ Below w.heap.size w w' := by
  have := get_any A c l w h
  rw [show getP l = nilP by unfold getP; rw [if_neg he], show getN l = 0 by unfold getN; rw [if_neg he]] at this
  exact this
theorem getRoute_ok (A : Option Addr) (c : Nat) (l : List Int) (w : World) (h : Rd w A c l) (he : grE l = 0) : Calls Try.prog 12 #[.slice A l.length c] w fun e w' => e = .returned (.tuple #[.agg #[.int .u64 (u (grR l).p.a.hi), .int .u64 (u (grR l).p.a.lo), .bool (grR l).p.a.v6, .int .i64 (grR l).p.n, .int .i64 (grR l).hop], .int .i64 (grN l), .int .i64 0]) ∧ Below w.heap.size w w' := by
  have := getRoute_any A c l w h
  rw [he] at this
  exact this
theorem getRoute_bad (A : Option Addr) (c : Nat) (l : List Int) (w : World) (h : Rd w A c l) (he : grE l ≠ 0) : Calls Try.prog 12 #[.slice A l.length c] w fun e w' => e = .returned (.tuple #[.agg #[.int .u64 0, .int .u64 0, .bool false, .int .i64 0, .int .i64 0], .int .i64 0, .int .i64 (grE l)]) ∧ Below w.heap.size w w' := by
  have := getRoute_any A c l w h
  rw [show grR l = nilR by unfold grR; rw [if_neg he], show grN l = 0 by unfold grN; rw [if_neg he]] at this
  exact this

set_option maxHeartbeats 2000000 in
theorem wgood_long (A : Option Addr) (n c : Nat) (w : World) (hn : 1000 < n) : Calls Try.prog 6 #[.slice A n c] w fun e w' => e = .returned (.bool true) ∧ Below w.heap.size w w' := by
  have t1 : decide (1000 < (n : Int)) = true := by simp; omega
  go_enter Try.func6, Try.ntmps6
  go_wp2_with fail
  refine (awake4_any _).mono ?_
  rintro e w1 ⟨rfl, hw1⟩
  have zw1 := hw1.size
  have bw1 := below_of (w := w) (by go_grown) hw1
  try simp at zw1
  go_wp2
  go_ret
  exact ⟨rfl, bw1⟩

set_option maxHeartbeats 4000000 in
theorem wgood_both (A : Option Addr) (c : Nat) (l : List Int) (w : World) (h : Rd w A c l) (hl : l.length ≤ 1000) (he : grE l = 0) : Calls Try.prog 6 #[.slice A l.length c] w fun e w' => e = .returned (.bool true) ∧ Below w.heap.size w w' := by
  have t1 : decide (1000 < (l.length : Int)) = false := by simp; omega
  obtain ⟨hg, hp, hq, hn⟩ := gr_get h.2.2.1 he
  have hge := (gr_parts he).1
  obtain ⟨n1, n2, n3⟩ := getN_le h.2.2.1 hge
  obtain ⟨m1, m2, m3⟩ := grN_bd h.2.2.1 he
  have hs := (put_get h.2.2.1 hge).1
  have a1 : decide ((getN l : Int) < 2) = false := by simp; omega
  have a2 : decide (18 < (getN l : Int)) = false := by simp; omega
  have a3 : decide (l.length < getN l) = false := by simp; omega
  have a4 : ((grN l : Int) != (getN l : Int) + 2) = false := by simp; omega
  have a5 : decide (l.length < grN l) = false := by simp; omega
  have a6 : pfB (u (grR l).p.a.hi) (u (grR l).p.a.lo) (grR l).p.a.v6 (grR l).p.n (u (getP l).a.hi) (u (getP l).a.lo) (getP l).a.v6 (getP l).n = true := (pfEq_iff _ _).2 hq
  have HR := Lib.hid h
  have HE := Lib.hid he
  have HG := Lib.hid hge
  clear h he hge hp hq hn
  go_enter Try.func6, Try.ntmps6
  go_wp2_with fail
  refine (awake4_any _).mono ?_
  rintro e w1 ⟨rfl, hw1⟩
  have zw1 := hw1.size
  have bw1 := below_of (w := w) (by go_grown) hw1
  try simp at zw1
  clear hw1
  go_wp2_with fail
  refine (get_ok A c l _ (HR.out.keep (by go_grown)) HG.out).mono ?_
  rintro e w2 ⟨rfl, hw2⟩
  have zw2 := hw2.size
  have bw2 := below_of (w := w) (by go_grown) hw2
  try simp at zw2
  clear hw2
  go_wp2_with fail
  refine (getRoute_ok A c l _ (HR.out.keep (by go_grown)) HE.out).mono ?_
  rintro e w3 ⟨rfl, hw3⟩
  have zw3 := hw3.size
  have bw3 := below_of (w := w) (by go_grown) hw3
  try simp at zw3
  obtain ⟨p3a, p3b, p3c, p3g, p3d, p3e, p3f, p3h, p3z⟩ := cells4 (b := w2.heap.size) hw3 (by go_size) (by go_simp <;> rfl) (by go_simp <;> rfl) (by go_simp <;> rfl) (by go_simp <;> rfl) (by go_simp <;> rfl) (by go_simp <;> rfl) (by go_simp <;> rfl) (by go_simp <;> rfl)
  clear hw3
  go_wp2_with fail
  refine (psane_any (getP l) _).mono ?_
  rintro e w4 ⟨rfl, hw4⟩
  have zw4 := hw4.size
  have bw4 := below_of (w := w) (by go_grown) hw4
  try simp at zw4
  have hw3b := below_of (w := w3) (by go_grown) hw4
  obtain ⟨p4a, p4b, p4c, p4g, p4d, p4e, p4f, p4h, p4z⟩ := cells4 hw3b p3z p3a p3b p3c p3g p3d p3e p3f p3h
  obtain ⟨r4a, r4b, r4c, r4g, r4i, r4d, r4e, r4f, r4h, r4j, r4z⟩ := cells5 (b := w3.heap.size) hw4 (by go_size) (by go_simp <;> rfl) (by go_simp <;> rfl) (by go_simp <;> rfl) (by go_simp <;> rfl) (by go_simp <;> rfl) (by go_simp <;> rfl) (by go_simp <;> rfl) (by go_simp <;> rfl) (by go_simp <;> rfl) (by go_simp <;> rfl)
  clear p3a p3b p3c p3g p3d p3e p3f p3h p3z hw4 hw3b
  go_wp2_with fail
  refine (good_any (grR l) _).mono ?_
  rintro e w5 ⟨rfl, hw5⟩
  have zw5 := hw5.size
  have bw5 := below_of (w := w) (by go_grown) hw5
  try simp at zw5
  have hw4b := below_of (w := w4) (by go_grown) hw5
  obtain ⟨p5a, p5b, p5c, p5g, p5d, p5e, p5f, p5h, p5z⟩ := cells4 hw4b p4z p4a p4b p4c p4g p4d p4e p4f p4h
  obtain ⟨r5a, r5b, r5c, r5g, r5i, r5d, r5e, r5f, r5h, r5j, r5z⟩ := cells5 hw4b r4z r4a r4b r4c r4g r4i r4d r4e r4f r4h r4j
  clear p4a p4b p4c p4g p4d p4e p4f p4h p4z r4a r4b r4c r4g r4i r4d r4e r4f r4h r4j r4z hw5 hw4b
  go_wp2
  go_ret
  exact ⟨rfl, bw5⟩

set_option maxHeartbeats 4000000 in
theorem wgood_one (A : Option Addr) (c : Nat) (l : List Int) (w : World) (h : Rd w A c l) (hl : l.length ≤ 1000) (hge : getE l = 0) (he : grE l ≠ 0) : Calls Try.prog 6 #[.slice A l.length c] w fun e w' => e = .returned (.bool true) ∧ Below w.heap.size w w' := by
  have t1 : decide (1000 < (l.length : Int)) = false := by simp; omega
  obtain ⟨n1, n2, n3⟩ := getN_le h.2.2.1 hge
  have hs := (put_get h.2.2.1 hge).1
  have a1 : decide ((getN l : Int) < 2) = false := by simp; omega
  have a2 : decide (18 < (getN l : Int)) = false := by simp; omega
  have a3 : decide (l.length < getN l) = false := by simp; omega
  have a4 : (grE l == 0) = false := by simp [he]
  have HR := Lib.hid h
  have HE := Lib.hid he
  have HG := Lib.hid hge
  clear h he hge
  go_enter Try.func6, Try.ntmps6
  go_wp2_with fail
  refine (awake4_any _).mono ?_
  rintro e w1 ⟨rfl, hw1⟩
  have zw1 := hw1.size
  have bw1 := below_of (w := w) (by go_grown) hw1
  try simp at zw1
  clear hw1
  go_wp2_with fail
  refine (get_ok A c l _ (HR.out.keep (by go_grown)) HG.out).mono ?_
  rintro e w2 ⟨rfl, hw2⟩
  have zw2 := hw2.size
  have bw2 := below_of (w := w) (by go_grown) hw2
  try simp at zw2
  clear hw2
  go_wp2_with fail
  refine (getRoute_bad A c l _ (HR.out.keep (by go_grown)) HE.out).mono ?_
  rintro e w3 ⟨rfl, hw3⟩
  have zw3 := hw3.size
  have bw3 := below_of (w := w) (by go_grown) hw3
  try simp at zw3
  obtain ⟨p8a, p8b, p8c, p8g, p8d, p8e, p8f, p8h, p8z⟩ := cells4 (b := w2.heap.size) hw3 (by go_size) (by go_simp <;> rfl) (by go_simp <;> rfl) (by go_simp <;> rfl) (by go_simp <;> rfl) (by go_simp <;> rfl) (by go_simp <;> rfl) (by go_simp <;> rfl) (by go_simp <;> rfl)
  clear hw3
  go_wp2_with fail
  refine (psane_any (getP l) _).mono ?_
  rintro e w4 ⟨rfl, hw4⟩
  have zw4 := hw4.size
  have bw4 := below_of (w := w) (by go_grown) hw4
  try simp at zw4
  have hw3b := below_of (w := w3) (by go_grown) hw4
  obtain ⟨p9a, p9b, p9c, p9g, p9d, p9e, p9f, p9h, p9z⟩ := cells4 hw3b p8z p8a p8b p8c p8g p8d p8e p8f p8h
  obtain ⟨r9a, r9b, r9c, r9g, r9i, r9d, r9e, r9f, r9h, r9j, r9z⟩ := cells5 (b := w3.heap.size) hw4 (by go_size) (by go_simp <;> rfl) (by go_simp <;> rfl) (by go_simp <;> rfl) (by go_simp <;> rfl) (by go_simp <;> rfl) (by go_simp <;> rfl) (by go_simp <;> rfl) (by go_simp <;> rfl) (by go_simp <;> rfl) (by go_simp <;> rfl)
  clear p8a p8b p8c p8g p8d p8e p8f p8h p8z hw4 hw3b
  go_wp2
  go_ret
  exact ⟨rfl, bw4⟩

set_option maxHeartbeats 4000000 in
theorem wgood_none (A : Option Addr) (c : Nat) (l : List Int) (w : World) (h : Rd w A c l) (hl : l.length ≤ 1000) (hge : getE l ≠ 0) : Calls Try.prog 6 #[.slice A l.length c] w fun e w' => e = .returned (.bool true) ∧ Below w.heap.size w w' := by
  have t1 : decide (1000 < (l.length : Int)) = false := by simp; omega
  have ee : grE l = getE l := by unfold grE; rw [if_neg hge]
  have hc2 := fun (W : World) (k : Rd W A c l) => getRoute_bad A c l W k (by rw [ee]; exact hge)
  rw [ee] at hc2
  have a4 : (getE l == 0) = false := by simp [hge]
  have HR := Lib.hid h
  have HG := Lib.hid hge
  have HC := Lib.hid hc2
  clear h hge ee hc2
  go_enter Try.func6, Try.ntmps6
  go_wp2_with fail
  refine (awake4_any _).mono ?_
  rintro e w1 ⟨rfl, hw1⟩
  have zw1 := hw1.size
  have bw1 := below_of (w := w) (by go_grown) hw1
  try simp at zw1
  clear hw1
  go_wp2_with fail
  refine (get_bad A c l _ (HR.out.keep (by go_grown)) HG.out).mono ?_
  rintro e w2 ⟨rfl, hw2⟩
  have zw2 := hw2.size
  have bw2 := below_of (w := w) (by go_grown) hw2
  try simp at zw2
  clear hw2
  go_wp2_with fail
  refine (HC.out _ (HR.out.keep (by go_grown))).mono ?_
  rintro e w3 ⟨rfl, hw3⟩
  have zw3 := hw3.size
  have bw3 := below_of (w := w) (by go_grown) hw3
  try simp at zw3
  obtain ⟨p12a, p12b, p12c, p12g, p12d, p12e, p12f, p12h, p12z⟩ := cells4 (b := w2.heap.size) hw3 (by go_size) (by go_simp <;> rfl) (by go_simp <;> rfl) (by go_simp <;> rfl) (by go_simp <;> rfl) (by go_simp <;> rfl) (by go_simp <;> rfl) (by go_simp <;> rfl) (by go_simp <;> rfl)
  clear hw3
  go_wp2
  go_ret
  exact ⟨rfl, by go_grown⟩

theorem wgood_law (A : Option Addr) (c : Nat) (l : List Int) (w : World) (h : Rd w A c l) : Calls Try.prog 6 #[.slice A l.length c] w fun e w' => e = .returned (.bool true) ∧ Below w.heap.size w w' := by
  rcases Nat.lt_or_ge 1000 l.length with hl | hl
  · exact wgood_long A _ c w hl
  · by_cases hg : getE l = 0
    · by_cases he : grE l = 0
      · exact wgood_both A c l w h hl he
      · exact wgood_one A c l w h hl hg he
    · exact wgood_none A c l w h hl hg

end Go.Proofs.Ytibhabglmkgaaaa
