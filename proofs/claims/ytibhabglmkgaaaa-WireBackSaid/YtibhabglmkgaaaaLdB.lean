/-
  WireBack returns true, whatever route and bytes. No condition.
-/
import Derived.Test.YtibhabglmkgaaaaLdA
namespace Go.Proofs.Ytibhabglmkgaaaa
open Go.RowKit Go.WideShapes
set_option maxRecDepth 100000

theorem putR_no {r : Rt} (h : rgood r = false) : putR r = [] := by unfold putR; rw [h]; rfl
theorem str_append (a b : List Int) : strOfNums (a ++ b) = strOfNums a ++ strOfNums b := by
  apply bytes_inj
  rw [strOfNums_data, List.map_append]
  simp [strOfNums]

set_option maxHeartbeats 2000000 in
theorem wback_long (r : Rt) (A : Option Addr) (n c : Nat) (w : World) (hn : 500 < n) : Calls Try.prog 4 #[.agg #[.int .u64 (u r.p.a.hi), .int .u64 (u r.p.a.lo), .bool r.p.a.v6, .int .i64 r.p.n, .int .i64 r.hop], .slice A n c] w fun e w' => e = .returned (.bool true) ∧ Below w.heap.size w w' := by
  have t1 : decide (500 < (n : Int)) = true := by simp; omega
  cases h : rgood r
  · have hq := fun W : World => putR0_any r W
    rw [putR_no h] at hq
    have HQ := Lib.hid hq
    clear hq
    go_enter Try.func4, Try.ntmps4
    go_wp2_with fail
    refine (awake4_any _).mono ?_
    rintro e w1 ⟨rfl, hw1⟩
    have zw1 := hw1.size
    have bw1 := below_of (w := w) (by go_grown) hw1
    try simp at zw1
    obtain ⟨r1a, r1b, r1c, r1g, r1i, r1d, r1e, r1f, r1h, r1j, r1z⟩ := cells5 (b := w.heap.size) hw1 (by go_size) (by go_simp <;> rfl) (by go_simp <;> rfl) (by go_simp <;> rfl) (by go_simp <;> rfl) (by go_simp <;> rfl) (by go_simp <;> rfl) (by go_simp <;> rfl) (by go_simp <;> rfl) (by go_simp <;> rfl) (by go_simp <;> rfl)
    clear hw1
    go_wp2_with fail
    refine (good_any r _).mono ?_
    rintro e w2 ⟨rfl, hw2⟩
    have zw2 := hw2.size
    have bw2 := below_of (w := w) (by go_grown) hw2
    try simp at zw2
    have hw1b := below_of (w := w1) (by go_grown) hw2
    obtain ⟨r2a, r2b, r2c, r2g, r2i, r2d, r2e, r2f, r2h, r2j, r2z⟩ := cells5 hw1b r1z r1a r1b r1c r1g r1i r1d r1e r1f r1h r1j
    clear r1a r1b r1c r1g r1i r1d r1e r1f r1h r1j r1z hw2 hw1b
    go_wp2_with fail
    refine (HQ.out _).mono ?_
    rintro e w3 ⟨v3, rfl, ho3, hw3⟩
    obtain ⟨_, B, d, rfl, hr3⟩ := own_rd ho3 (by simp)
    have bw3 := below_of (w := w) (by go_grown) hw3
    clear ho3 hr3 hw3
    go_wp2
    go_ret
    exact ⟨rfl, bw3⟩
  · go_enter Try.func4, Try.ntmps4
    go_wp2_with fail
    refine (awake4_any _).mono ?_
    rintro e w1 ⟨rfl, hw1⟩
    have zw1 := hw1.size
    have bw1 := below_of (w := w) (by go_grown) hw1
    try simp at zw1
    obtain ⟨r3a, r3b, r3c, r3g, r3i, r3d, r3e, r3f, r3h, r3j, r3z⟩ := cells5 (b := w.heap.size) hw1 (by go_size) (by go_simp <;> rfl) (by go_simp <;> rfl) (by go_simp <;> rfl) (by go_simp <;> rfl) (by go_simp <;> rfl) (by go_simp <;> rfl) (by go_simp <;> rfl) (by go_simp <;> rfl) (by go_simp <;> rfl) (by go_simp <;> rfl)
    clear hw1
    go_wp2_with fail
    refine (good_any r _).mono ?_
    rintro e w2 ⟨rfl, hw2⟩
    have zw2 := hw2.size
    have bw2 := below_of (w := w) (by go_grown) hw2
    try simp at zw2
    have hw1b := below_of (w := w1) (by go_grown) hw2
    obtain ⟨r4a, r4b, r4c, r4g, r4i, r4d, r4e, r4f, r4h, r4j, r4z⟩ := cells5 hw1b r3z r3a r3b r3c r3g r3i r3d r3e r3f r3h r3j
    clear r3a r3b r3c r3g r3i r3d r3e r3f r3h r3j r3z hw2 hw1b
    go_wp2
    go_ret
    exact ⟨rfl, bw2⟩
set_option maxHeartbeats 2000000 in
theorem wback_bad (r : Rt) (A : Option Addr) (n c : Nat) (w : World) (hn : n ≤ 500) (h : rgood r = false) : Calls Try.prog 4 #[.agg #[.int .u64 (u r.p.a.hi), .int .u64 (u r.p.a.lo), .bool r.p.a.v6, .int .i64 r.p.n, .int .i64 r.hop], .slice A n c] w fun e w' => e = .returned (.bool true) ∧ Below w.heap.size w w' := by
  have t1 : decide (500 < (n : Int)) = false := by simp; omega
  have hq := fun W : World => putR0_any r W
  rw [putR_no h] at hq
  have HQ := Lib.hid hq
  clear hq
  go_enter Try.func4, Try.ntmps4
  go_wp2_with fail
  refine (awake4_any _).mono ?_
  rintro e w1 ⟨rfl, hw1⟩
  have zw1 := hw1.size
  have bw1 := below_of (w := w) (by go_grown) hw1
  try simp at zw1
  obtain ⟨r5a, r5b, r5c, r5g, r5i, r5d, r5e, r5f, r5h, r5j, r5z⟩ := cells5 (b := w.heap.size) hw1 (by go_size) (by go_simp <;> rfl) (by go_simp <;> rfl) (by go_simp <;> rfl) (by go_simp <;> rfl) (by go_simp <;> rfl) (by go_simp <;> rfl) (by go_simp <;> rfl) (by go_simp <;> rfl) (by go_simp <;> rfl) (by go_simp <;> rfl)
  clear hw1
  go_wp2_with fail
  refine (good_any r _).mono ?_
  rintro e w2 ⟨rfl, hw2⟩
  have zw2 := hw2.size
  have bw2 := below_of (w := w) (by go_grown) hw2
  try simp at zw2
  have hw1b := below_of (w := w1) (by go_grown) hw2
  obtain ⟨r6a, r6b, r6c, r6g, r6i, r6d, r6e, r6f, r6h, r6j, r6z⟩ := cells5 hw1b r5z r5a r5b r5c r5g r5i r5d r5e r5f r5h r5j
  clear r5a r5b r5c r5g r5i r5d r5e r5f r5h r5j r5z hw2 hw1b
  go_wp2_with fail
  refine (good_any r _).mono ?_
  rintro e w3 ⟨rfl, hw3⟩
  have zw3 := hw3.size
  have bw3 := below_of (w := w) (by go_grown) hw3
  try simp at zw3
  have hw2b := below_of (w := w2) (by go_grown) hw3
  obtain ⟨r7a, r7b, r7c, r7g, r7i, r7d, r7e, r7f, r7h, r7j, r7z⟩ := cells5 hw2b r6z r6a r6b r6c r6g r6i r6d r6e r6f r6h r6j
  clear r6a r6b r6c r6g r6i r6d r6e r6f r6h r6j r6z hw3 hw2b
  go_wp2_with fail
  refine (HQ.out _).mono ?_
  rintro e w4 ⟨v3, rfl, ho3, hw4⟩
  obtain ⟨_, B, d, rfl, hr3⟩ := own_rd ho3 (by simp)
  have bw4 := below_of (w := w) (by go_grown) hw4
  clear ho3 hr3 hw4
  go_wp2
  go_ret
  exact ⟨rfl, bw4⟩

set_option maxHeartbeats 4000000 in
theorem wback_good (r : Rt) (A : Option Addr) (c : Nat) (l : List Int) (w : World) (h : Rd w A c l) (hn : l.length ≤ 500) (hg : rgood r = true) : Calls Try.prog 4 #[.agg #[.int .u64 (u r.p.a.hi), .int .u64 (u r.p.a.lo), .bool r.p.a.v6, .int .i64 r.p.n, .int .i64 r.hop], .slice A l.length c] w fun e w' => e = .returned (.bool true) ∧ Below w.heap.size w w' := by
  have t1 : decide (500 < (l.length : Int)) = false := by simp; omega
  have hs := ((rgood_iff r).1 hg).1
  obtain ⟨p1, p2⟩ := putR_pos r hg
  have p3 := putR_le r
  obtain ⟨g1, g2, g3⟩ := gr_put r hg l
  have e1 : putR r ++ l = putP r.p ++ ([r.hop / 256, r.hop % 256] ++ l) := by rw [putR_form r hg, List.append_assoc]
  obtain ⟨k1, k2, k3⟩ := get_put r.p hs ([r.hop / 256, r.hop % 256] ++ l)
  rw [← e1] at k1 k2 k3
  have hbd : ∀ x ∈ putR r ++ l, 0 ≤ x ∧ x < 256 := fun x hx => (List.mem_append.1 hx).elim (bd_putR r x) (h.2.2.1 x)
  have hbd2 : ∀ x ∈ l ++ putR r, 0 ≤ x ∧ x < 256 := fun x hx => (List.mem_append.1 hx).elim (h.2.2.1 x) (bd_putR r x)
  have cG := fun (B : Option Addr) (d : Nat) (W : World) (k : Rd W B d (putR r ++ l)) => getRoute_ok B d (putR r ++ l) W k g1
  rw [g2, g3, List.length_append] at cG
  have cP := fun (B : Option Addr) (d : Nat) (W : World) (k : Rd W B d (putR r ++ l)) => get_ok B d (putR r ++ l) W k k1
  rw [k2, k3, List.length_append] at cP
  have s1 : (putR r).length - 1 ≤ (putR r).length := by omega
  have s2 : (putP r.p).length - 1 ≤ (putR r).length := by omega
  have l1 : ((putR r).take ((putR r).length - 1)).length = (putR r).length - 1 := by rw [List.length_take]; omega
  have l2 : ((putR r).take ((putP r.p).length - 1)).length = (putP r.p).length - 1 := by rw [List.length_take]; omega
  have e2 : (putR r).take ((putP r.p).length - 1) = (putP r.p).take ((putP r.p).length - 1) := by
    rw [putR_form r hg, List.take_append_of_le_length (by omega)]
  have cH := fun (B : Option Addr) (d : Nat) (W : World) (k : Rd W B d (putR r)) => getRoute_bad B d ((putR r).take ((putR r).length - 1)) W (k.first _ s1) (by rw [gr_short r hg]; decide)
  rw [l1, gr_short r hg] at cH
  have cQ := fun (B : Option Addr) (d : Nat) (W : World) (k : Rd W B d (putR r)) => get_bad B d ((putR r).take ((putP r.p).length - 1)) W (k.first _ s2) (by rw [e2, get_short r.p hs]; decide)
  rw [l2, e2, get_short r.p hs] at cQ
  have HCG := Lib.hid cG
  have HCP := Lib.hid cP
  have HCH := Lib.hid cH
  have HCQ := Lib.hid cQ
  have HB1 := Lib.hid hbd
  have HB2 := Lib.hid hbd2
  have HR := Lib.hid h
  have HL := Lib.hid p2
  clear h hs g1 g2 g3 e1 k1 k2 k3 hbd hbd2 cG cP cH cQ s1 s2 l1 l2 e2 p2
  go_enter Try.func4, Try.ntmps4
  go_wp2_with fail
  refine (awake4_any _).mono ?_
  rintro e w1 ⟨rfl, hw1⟩
  have zw1 := hw1.size
  have bw1 := below_of (w := w) (by go_grown) hw1
  try simp at zw1
  obtain ⟨r8a, r8b, r8c, r8g, r8i, r8d, r8e, r8f, r8h, r8j, r8z⟩ := cells5 (b := w.heap.size) hw1 (by go_size) (by go_simp <;> rfl) (by go_simp <;> rfl) (by go_simp <;> rfl) (by go_simp <;> rfl) (by go_simp <;> rfl) (by go_simp <;> rfl) (by go_simp <;> rfl) (by go_simp <;> rfl) (by go_simp <;> rfl) (by go_simp <;> rfl)
  clear hw1
  go_wp2_with fail
  refine (good_any r _).mono ?_
  rintro e w2 ⟨rfl, hw2⟩
  have zw2 := hw2.size
  have bw2 := below_of (w := w) (by go_grown) hw2
  try simp at zw2
  have hw1b := below_of (w := w1) (by go_grown) hw2
  obtain ⟨r9a, r9b, r9c, r9g, r9i, r9d, r9e, r9f, r9h, r9j, r9z⟩ := cells5 hw1b r8z r8a r8b r8c r8g r8i r8d r8e r8f r8h r8j
  clear r8a r8b r8c r8g r8i r8d r8e r8f r8h r8j r8z hw2 hw1b
  go_wp2_with fail
  refine (putR0_any r _).mono ?_
  rintro e w3 ⟨v3, rfl, ho3, hw3⟩
  obtain ⟨_, B, d, rfl, hr3⟩ := own_rd ho3 (bd_putR r)
  have bw3 := below_of (w := w) (by go_grown) hw3
  have zw3 := hw3.size
  have hw2b := below_of (w := w2) (by go_grown) hw3
  obtain ⟨r10a, r10b, r10c, r10g, r10i, r10d, r10e, r10f, r10h, r10j, r10z⟩ := cells5 hw2b r9z r9a r9b r9c r9g r9i r9d r9e r9f r9h r9j
  clear r9a r9b r9c r9g r9i r9d r9e r9f r9h r9j r9z hw3 hw2b
  clear ho3
  go_wp2_with fail
  refine (putRoute_any A c l r _ (HR.out.keep bw3) (by omega)).mono ?_
  rintro e w4 ⟨v4, rfl, ho4, hw4⟩
  obtain ⟨_, D, f, rfl, hr4⟩ := own_rd ho4 HB2.out
  have bw4 := below_of (w := w) (by go_grown) hw4
  have zw4 := hw4.size
  have HR3 := Lib.hid (hr3.keep hw4)
  have HR4 := Lib.hid hr4
  have hw3b := below_of (w := w3) (by go_grown) hw4
  obtain ⟨r11a, r11b, r11c, r11g, r11i, r11d, r11e, r11f, r11h, r11j, r11z⟩ := cells5 hw3b r10z r10a r10b r10c r10g r10i r10d r10e r10f r10h r10j
  clear r10a r10b r10c r10g r10i r10d r10e r10f r10h r10j r10z hw4 hw3b
  clear ho4 hr3 hr4
  go_upto_region 7 with (
    at_builtin
    refine wpList_bytes rfl (.tmp 46) (.tmp 47) rfl w4.heap.size _ 0 [] (by rfl) (own_lit (xs := bv []) (heap_alloc_new w4 _) (Nat.le_refl _) (by simp only [maxLen]; omega) rfl) _ _ d (putR r) (by rfl) rfl (HR3.out.keep (by go_grown)) (by omega) (by simp) ?_
    intro v5 w5 ho5 hb5
    have H5 := Lib.hid ho5
    have hk5 : Below w4.heap.size w4 w5 := Below.trans (by go_grown) hb5
    have zw5 := hk5.size
    clear ho5 hb5
    )
  go_wp2_with (
    at_builtin
    refine wpList_bytes rfl (.tmp 49) (.tmp 50) rfl w4.heap.size _ _ _ (by rfl) H5.out _ _ c l (by rfl) rfl (HR.out.keep (bw4.trans (hk5.mono bw4.size))) (by simp; omega) zw5 ?_
    intro v6 w6 ho6 hb6
    obtain ⟨_, E, m, rfl, hr6⟩ := own_rd ho6 (by simpa using HB1.out)
    have hk6 : Below w4.heap.size w4 w6 := hk5.trans hb6
    have zw6 := hk6.size
    have HR6 := Lib.hid (show Rd w6 E m (putR r ++ l) by simpa using hr6)
    clear ho6 hb6 hr6
    )
  have bw6 : Below w.heap.size w w6 := bw4.trans (hk6.mono bw4.size)
  have HR3' := Lib.hid (HR3.out.keep hk6)
  have HR4' := Lib.hid (HR4.out.keep hk6)
  have hw4b := below_of (w := w4) (by go_grown) hk6
  obtain ⟨r12a, r12b, r12c, r12g, r12i, r12d, r12e, r12f, r12h, r12j, r12z⟩ := cells5 hw4b r11z r11a r11b r11c r11g r11i r11d r11e r11f r11h r11j
  clear r11a r11b r11c r11g r11i r11d r11e r11f r11h r11j r11z hk6 hw4b
  clear hk5 HR3 HR4 H5
  refine (HCG.out E m _ HR6.out).mono ?_
  rintro e w7 ⟨rfl, hw7⟩
  have bw7 := below_of (w := w) (by go_grown) hw7
  have zw7 := hw7.size
  have HR7 := Lib.hid (HR6.out.keep hw7)
  have HB7 := Lib.hid (HR3'.out.keep hw7)
  have HD7 := Lib.hid (HR4'.out.keep hw7)
  clear HR6 HR3' HR4'
  have hw6b := below_of (w := w6) (by go_grown) hw7
  obtain ⟨r13a, r13b, r13c, r13g, r13i, r13d, r13e, r13f, r13h, r13j, r13z⟩ := cells5 hw6b r12z r12a r12b r12c r12g r12i r12d r12e r12f r12h r12j
  clear r12a r12b r12c r12g r12i r12d r12e r12f r12h r12j r12z hw7 hw6b
  go_wp2_with fail
  refine (HCP.out E m _ (HR7.out.keep (by go_grown))).mono ?_
  rintro e w8 ⟨rfl, hw8⟩
  have bw8 := below_of (w := w) (by go_grown) hw8
  have zw8 := hw8.size
  have HR8 := Lib.hid ((HR7.out.keep (by go_grown)).keep hw8)
  have HB8 := Lib.hid ((HB7.out.keep (by go_grown)).keep hw8)
  have HD8 := Lib.hid ((HD7.out.keep (by go_grown)).keep hw8)
  clear HR7 HB7 HD7
  have hw7b := below_of (w := w7) (by go_grown) hw8
  obtain ⟨r14a, r14b, r14c, r14g, r14i, r14d, r14e, r14f, r14h, r14j, r14z⟩ := cells5 hw7b r13z r13a r13b r13c r13g r13i r13d r13e r13f r13h r13j
  obtain ⟨x14a, x14b, x14c, x14g, x14i, x14d, x14e, x14f, x14h, x14j, x14z⟩ := cells5 (b := w7.heap.size) hw8 (by go_size) (by go_simp <;> rfl) (by go_simp <;> rfl) (by go_simp <;> rfl) (by go_simp <;> rfl) (by go_simp <;> rfl) (by go_simp <;> rfl) (by go_simp <;> rfl) (by go_simp <;> rfl) (by go_simp <;> rfl) (by go_simp <;> rfl)
  clear r13a r13b r13c r13g r13i r13d r13e r13f r13h r13j r13z hw8 hw7b
  have f1 : ((putR r).length : Int) - 2 = ((putP r.p).length : Int) := by have := HL.out; omega
  have f2 : (((putP r.p).length : Int) != ((putR r).length : Int) - 2) = false := by simp; omega
  have f3 : decide (((putR r).length : Int) < 4) = false := by simp; omega
  go_upto_region 12 with fail
  clear f1 f2 f3
  have hpp : 2 ≤ (putP r.p).length := by have := HL.out; omega
  have hpp2 := putP_le r.p
  have q1 : ∀ X : World, (Instr.slice 22 (.slice B (putR r).length d) none (some (.int .i64 (((putR r).length : Int) - 1))) none).run Try.prog X = .ok (.slice B ((putR r).length - 1) d) X := fun X => by
    have := slice_to B (putR r).length d ((putR r).length - 1) (by omega) HB8.out.1 X
    rwa [show (((putR r).length - 1 : Nat) : Int) = ((putR r).length : Int) - 1 by omega] at this
  have q2 : ∀ X : World, (Instr.slice 22 (.slice B (putR r).length d) none (some (.int .i64 (((putP r.p).length : Int) - 1))) none).run Try.prog X = .ok (.slice B ((putP r.p).length - 1) d) X := fun X => by
    have := slice_to B (putR r).length d ((putP r.p).length - 1) (by have := HL.out; omega) HB8.out.1 X
    rwa [show (((putP r.p).length - 1 : Nat) : Int) = ((putP r.p).length : Int) - 1 by omega] at this
  go_wp2_with fail
  refine (HCH.out B d _ (HB8.out.keep (by go_grown))).mono ?_
  rintro e w9 ⟨rfl, hw9⟩
  have bw9 := below_of (w := w) (by go_grown) hw9
  have zw9 := hw9.size
  have HR9 := Lib.hid ((HR8.out.keep (by go_grown)).keep hw9)
  have HB9 := Lib.hid ((HB8.out.keep (by go_grown)).keep hw9)
  have HD9 := Lib.hid ((HD8.out.keep (by go_grown)).keep hw9)
  clear HR8 HB8 HD8
  have hw8b := below_of (w := w8) (by go_grown) hw9
  obtain ⟨r15a, r15b, r15c, r15g, r15i, r15d, r15e, r15f, r15h, r15j, r15z⟩ := cells5 hw8b r14z r14a r14b r14c r14g r14i r14d r14e r14f r14h r14j
  obtain ⟨x15a, x15b, x15c, x15g, x15i, x15d, x15e, x15f, x15h, x15j, x15z⟩ := cells5 hw8b x14z x14a x14b x14c x14g x14i x14d x14e x14f x14h x14j
  obtain ⟨y15a, y15b, y15c, y15g, y15d, y15e, y15f, y15h, y15z⟩ := cells4 (b := w8.heap.size) hw9 (by go_size) (by go_simp <;> rfl) (by go_simp <;> rfl) (by go_simp <;> rfl) (by go_simp <;> rfl) (by go_simp <;> rfl) (by go_simp <;> rfl) (by go_simp <;> rfl) (by go_simp <;> rfl)
  clear r14a r14b r14c r14g r14i r14d r14e r14f r14h r14j r14z x14a x14b x14c x14g x14i x14d x14e x14f x14h x14j x14z hw9 hw8b
  go_wp2_with fail
  refine (HCQ.out B d _ (HB9.out.keep (by go_grown))).mono ?_
  rintro e w10 ⟨rfl, hw10⟩
  have bw10 := below_of (w := w) (by go_grown) hw10
  have zw10 := hw10.size
  have HR10 := Lib.hid ((HR9.out.keep (by go_grown)).keep hw10)
  have HB10 := Lib.hid ((HB9.out.keep (by go_grown)).keep hw10)
  have HD10 := Lib.hid ((HD9.out.keep (by go_grown)).keep hw10)
  clear HR9 HB9 HD9
  have hw9b := below_of (w := w9) (by go_grown) hw10
  obtain ⟨r16a, r16b, r16c, r16g, r16i, r16d, r16e, r16f, r16h, r16j, r16z⟩ := cells5 hw9b r15z r15a r15b r15c r15g r15i r15d r15e r15f r15h r15j
  obtain ⟨x16a, x16b, x16c, x16g, x16i, x16d, x16e, x16f, x16h, x16j, x16z⟩ := cells5 hw9b x15z x15a x15b x15c x15g x15i x15d x15e x15f x15h x15j
  obtain ⟨y16a, y16b, y16c, y16g, y16d, y16e, y16f, y16h, y16z⟩ := cells4 hw9b y15z y15a y15b y15c y15g y15d y15e y15f y15h
  clear r15a r15b r15c r15g r15i r15d r15e r15f r15h r15j r15z x15a x15b x15c x15g x15i x15d x15e x15f x15h x15j x15z y15a y15b y15c y15g y15d y15e y15f y15h y15z hw10 hw9b
  go_upto_region 14 with fail
  clear q1 q2
  have hb10 : Below w10.heap.size w10 (World.alloc w10 _) := (Below.refl _ w10).alloc (Nat.le_refl _) (Obj.cells #[.int .u64 0, .int .u64 0, .bool false, .int .i64 0] 27)
  generalize hW : World.alloc _ _ = W
  have hz : w.heap.size ≤ W.heap.size := by subst hW; go_size
  have hB : Below w.heap.size w W := by subst hW; go_grown
  rw [hW] at hb10
  have cv1 := conv_rd (HD10.out.keep hb10)
  have cv2 := conv_rd (HR.out.keep hB)
  have cv3 := conv_rd (HB10.out.keep hb10)
  rw [List.length_append, str_append] at cv1
  have hsz : (strOfNums l).size + (strOfNums (putR r)).size ≤ 600 := by rw [strOfNums_size, strOfNums_size]; omega
  have hsz2 : ¬ 9223372036854775807 < (strOfNums l).size + (strOfNums (putR r)).size := by omega
  clear hW hb10
  go_wp2
  go_ret
  exact ⟨rfl, hB⟩
theorem wback_law (r : Rt) (A : Option Addr) (c : Nat) (l : List Int) (w : World) (h : Rd w A c l) : Calls Try.prog 4 #[.agg #[.int .u64 (u r.p.a.hi), .int .u64 (u r.p.a.lo), .bool r.p.a.v6, .int .i64 r.p.n, .int .i64 r.hop], .slice A l.length c] w fun e w' => e = .returned (.bool true) ∧ Below w.heap.size w w' := by
  rcases Nat.lt_or_ge 500 l.length with hl | hl
  · exact wback_long r A _ c w hl
  · cases hg : rgood r
    · exact wback_bad r A _ c w hl hg
    · exact wback_good r A c l w h hl hg

end Go.Proofs.Ytibhabglmkgaaaa
