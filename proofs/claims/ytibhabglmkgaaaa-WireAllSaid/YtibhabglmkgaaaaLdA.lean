/-
  WireApart returns true, whatever two routes. No condition.
-/
import Derived.Test.YtibhabglmkgaaaaLdG
namespace Go.Proofs.Ytibhabglmkgaaaa
open Go.RowKit Go.WideShapes
set_option maxRecDepth 100000

theorem putR0_any (r : Rt) (w : World) : Calls Try.prog 19 #[.slice none 0 0, .agg #[.int .u64 (u r.p.a.hi), .int .u64 (u r.p.a.lo), .bool r.p.a.v6, .int .i64 r.p.n, .int .i64 r.hop]] w (RowPost w (putR r)) :=
  putRoute_any none 0 [] r w ⟨Nat.le_refl _, Nat.zero_le _, fun x hx => absurd hx (List.not_mem_nil), fun h => absurd rfl h⟩ (by simp)
theorem strOf_inj {l m : List Int} (hl : ∀ x ∈ l, 0 ≤ x ∧ x < 256) (hm : ∀ x ∈ m, 0 ≤ x ∧ x < 256) (h : strOfNums l = strOfNums m) : l = m := by
  have h2 : l.map (fun n => UInt8.ofNat n.toNat) = m.map (fun n => UInt8.ofNat n.toNat) := by
    rw [← strOfNums_data, ← strOfNums_data, h]
  have hlen : l.length = m.length := by simpa using congrArg List.length h2
  refine List.ext_getElem hlen fun j h1 h3 => ?_
  have h4 : (l.map (fun n => UInt8.ofNat n.toNat))[j]? = (m.map (fun n => UInt8.ofNat n.toNat))[j]? := by rw [h2]
  rw [List.getElem?_map, List.getElem?_map, List.getElem?_eq_getElem h1, List.getElem?_eq_getElem h3] at h4
  simp at h4
  have a := hl _ (List.getElem_mem h1)
  have b := hm _ (List.getElem_mem h3)
  have h5 := congrArg UInt8.toNat h4
  simp at h5
  omega
theorem str_ne {x y : ByteArray} (h : x ≠ y) : (x.toList == y.toList) = false := by
  rw [ByteArray.toList_eq, ByteArray.toList_eq]
  have : x.data.toList ≠ y.data.toList := fun e => h (bytes_inj e)
  simpa using this
theorem conv_first {w : World} {A : Option Addr} {c : Nat} {l : List Int} (h : Rd w A c l) (k : Nat) (hk : k ≤ l.length) : (convert 22 9 (.slice A k c)).run Try.prog w = .ok (.string (strOfNums (l.take k))) w := by
  have e := conv_rd (h.first k hk)
  rw [List.length_take, Nat.min_eq_left hk] at e
  exact e
theorem take_ne {r s : Rt} (hr : rgood r = true) (hs : rgood s = true) (hne : r ≠ s) (k : Nat) (hk : k = min (putR r).length (putR s).length) : (putR r).take k ≠ (putR s).take k := by
  intro h
  rcases Nat.le_total (putR r).length (putR s).length with hle | hle
  · have : k = (putR r).length := by omega
    rw [this, List.take_length] at h
    refine hne (putR_inj hr hs (m := (putR s).drop (putR r).length) (n := []) ?_)
    rw [List.append_nil]
    have e := List.take_append_drop (putR r).length (putR s)
    rw [← h] at e
    exact e
  · have : k = (putR s).length := by omega
    rw [this, List.take_length] at h
    refine hne (putR_inj hr hs (m := []) (n := (putR r).drop (putR s).length) ?_)
    rw [List.append_nil]
    have e := List.take_append_drop (putR s).length (putR r)
    rw [h] at e
    exact e.symm

set_option maxHeartbeats 2000000 in
theorem apart_no (r s : Rt) (w : World) (h : ¬ (rgood r = true ∧ rgood s = true)) : Calls Try.prog 7 #[.agg #[.int .u64 (u r.p.a.hi), .int .u64 (u r.p.a.lo), .bool r.p.a.v6, .int .i64 r.p.n, .int .i64 r.hop], .agg #[.int .u64 (u s.p.a.hi), .int .u64 (u s.p.a.lo), .bool s.p.a.v6, .int .i64 s.p.n, .int .i64 s.hop]] w fun e w' => e = .returned (.bool true) ∧ Below w.heap.size w w' := by
  cases h1 : rgood r
  · clear h
    go_enter Try.func7, Try.ntmps7
    go_wp2_with fail
    refine (awake4_any _).mono ?_
    rintro e w1 ⟨rfl, hw1⟩
    have zw1 := hw1.size
    have bw1 := below_of (w := w) (by go_grown) hw1
    try simp at zw1
    obtain ⟨r1a, r1b, r1c, r1g, r1i, r1d, r1e, r1f, r1h, r1j, r1z⟩ := cells5 (b := w.heap.size) hw1 (by go_size) (by go_simp <;> rfl) (by go_simp <;> rfl) (by go_simp <;> rfl) (by go_simp <;> rfl) (by go_simp <;> rfl) (by go_simp <;> rfl) (by go_simp <;> rfl) (by go_simp <;> rfl) (by go_simp <;> rfl) (by go_simp <;> rfl)
    obtain ⟨s1a, s1b, s1c, s1g, s1i, s1d, s1e, s1f, s1h, s1j, s1z⟩ := cells5 (b := w.heap.size + 1) hw1 (by go_size) (by go_simp <;> rfl) (by go_simp <;> rfl) (by go_simp <;> rfl) (by go_simp <;> rfl) (by go_simp <;> rfl) (by go_simp <;> rfl) (by go_simp <;> rfl) (by go_simp <;> rfl) (by go_simp <;> rfl) (by go_simp <;> rfl)
    clear hw1
    go_wp2_with fail
    refine (good_any r _).mono ?_
    rintro e w2 ⟨rfl, hw2⟩
    have zw2 := hw2.size
    have bw2 := below_of (w := w) (by go_grown) hw2
    try simp at zw2
    have hw1b := below_of (w := w1) (by go_grown) hw2
    obtain ⟨r2a, r2b, r2c, r2g, r2i, r2d, r2e, r2f, r2h, r2j, r2z⟩ := cells5 hw1b r1z r1a r1b r1c r1g r1i r1d r1e r1f r1h r1j
    obtain ⟨s2a, s2b, s2c, s2g, s2i, s2d, s2e, s2f, s2h, s2j, s2z⟩ := cells5 hw1b s1z s1a s1b s1c s1g s1i s1d s1e s1f s1h s1j
    clear r1a r1b r1c r1g r1i r1d r1e r1f r1h r1j r1z s1a s1b s1c s1g s1i s1d s1e s1f s1h s1j s1z hw2 hw1b
    go_wp2
    go_ret
    exact ⟨rfl, bw2⟩
  · have h2 : rgood s = false := by
      cases h2 : rgood s
      · rfl
      · exact absurd ⟨h1, h2⟩ h
    clear h
    go_enter Try.func7, Try.ntmps7
    go_wp2_with fail
    refine (awake4_any _).mono ?_
    rintro e w1 ⟨rfl, hw1⟩
    have zw1 := hw1.size
    have bw1 := below_of (w := w) (by go_grown) hw1
    try simp at zw1
    obtain ⟨r3a, r3b, r3c, r3g, r3i, r3d, r3e, r3f, r3h, r3j, r3z⟩ := cells5 (b := w.heap.size) hw1 (by go_size) (by go_simp <;> rfl) (by go_simp <;> rfl) (by go_simp <;> rfl) (by go_simp <;> rfl) (by go_simp <;> rfl) (by go_simp <;> rfl) (by go_simp <;> rfl) (by go_simp <;> rfl) (by go_simp <;> rfl) (by go_simp <;> rfl)
    obtain ⟨s3a, s3b, s3c, s3g, s3i, s3d, s3e, s3f, s3h, s3j, s3z⟩ := cells5 (b := w.heap.size + 1) hw1 (by go_size) (by go_simp <;> rfl) (by go_simp <;> rfl) (by go_simp <;> rfl) (by go_simp <;> rfl) (by go_simp <;> rfl) (by go_simp <;> rfl) (by go_simp <;> rfl) (by go_simp <;> rfl) (by go_simp <;> rfl) (by go_simp <;> rfl)
    clear hw1
    go_wp2_with fail
    refine (good_any r _).mono ?_
    rintro e w2 ⟨rfl, hw2⟩
    have zw2 := hw2.size
    have bw2 := below_of (w := w) (by go_grown) hw2
    try simp at zw2
    have hw1b := below_of (w := w1) (by go_grown) hw2
    obtain ⟨r4a, r4b, r4c, r4g, r4i, r4d, r4e, r4f, r4h, r4j, r4z⟩ := cells5 hw1b r3z r3a r3b r3c r3g r3i r3d r3e r3f r3h r3j
    obtain ⟨s4a, s4b, s4c, s4g, s4i, s4d, s4e, s4f, s4h, s4j, s4z⟩ := cells5 hw1b s3z s3a s3b s3c s3g s3i s3d s3e s3f s3h s3j
    clear r3a r3b r3c r3g r3i r3d r3e r3f r3h r3j r3z s3a s3b s3c s3g s3i s3d s3e s3f s3h s3j s3z hw2 hw1b
    go_wp2_with fail
    refine (good_any s _).mono ?_
    rintro e w3 ⟨rfl, hw3⟩
    have zw3 := hw3.size
    have bw3 := below_of (w := w) (by go_grown) hw3
    try simp at zw3
    have hw2b := below_of (w := w2) (by go_grown) hw3
    obtain ⟨r5a, r5b, r5c, r5g, r5i, r5d, r5e, r5f, r5h, r5j, r5z⟩ := cells5 hw2b r4z r4a r4b r4c r4g r4i r4d r4e r4f r4h r4j
    obtain ⟨s5a, s5b, s5c, s5g, s5i, s5d, s5e, s5f, s5h, s5j, s5z⟩ := cells5 hw2b s4z s4a s4b s4c s4g s4i s4d s4e s4f s4h s4j
    clear r4a r4b r4c r4g r4i r4d r4e r4f r4h r4j r4z s4a s4b s4c s4g s4i s4d s4e s4f s4h s4j s4z hw3 hw2b
    go_wp2
    go_ret
    exact ⟨rfl, bw3⟩

set_option maxHeartbeats 4000000 in
theorem apart_yes (r s : Rt) (w : World) (h1 : rgood r = true) (h2 : rgood s = true) : Calls Try.prog 7 #[.agg #[.int .u64 (u r.p.a.hi), .int .u64 (u r.p.a.lo), .bool r.p.a.v6, .int .i64 r.p.n, .int .i64 r.hop], .agg #[.int .u64 (u s.p.a.hi), .int .u64 (u s.p.a.lo), .bool s.p.a.v6, .int .i64 s.p.n, .int .i64 s.hop]] w fun e w' => e = .returned (.bool true) ∧ Below w.heap.size w w' := by
  have H1 := Lib.hid h1
  have H2 := Lib.hid h2
  go_enter Try.func7, Try.ntmps7
  go_wp2_with fail
  refine (awake4_any _).mono ?_
  rintro e w1 ⟨rfl, hw1⟩
  have zw1 := hw1.size
  have bw1 := below_of (w := w) (by go_grown) hw1
  try simp at zw1
  obtain ⟨r6a, r6b, r6c, r6g, r6i, r6d, r6e, r6f, r6h, r6j, r6z⟩ := cells5 (b := w.heap.size) hw1 (by go_size) (by go_simp <;> rfl) (by go_simp <;> rfl) (by go_simp <;> rfl) (by go_simp <;> rfl) (by go_simp <;> rfl) (by go_simp <;> rfl) (by go_simp <;> rfl) (by go_simp <;> rfl) (by go_simp <;> rfl) (by go_simp <;> rfl)
  obtain ⟨s6a, s6b, s6c, s6g, s6i, s6d, s6e, s6f, s6h, s6j, s6z⟩ := cells5 (b := w.heap.size + 1) hw1 (by go_size) (by go_simp <;> rfl) (by go_simp <;> rfl) (by go_simp <;> rfl) (by go_simp <;> rfl) (by go_simp <;> rfl) (by go_simp <;> rfl) (by go_simp <;> rfl) (by go_simp <;> rfl) (by go_simp <;> rfl) (by go_simp <;> rfl)
  clear hw1
  go_wp2_with fail
  refine (good_any r _).mono ?_
  rintro e w2 ⟨rfl, hw2⟩
  have zw2 := hw2.size
  have bw2 := below_of (w := w) (by go_grown) hw2
  try simp at zw2
  have hw1b := below_of (w := w1) (by go_grown) hw2
  obtain ⟨r7a, r7b, r7c, r7g, r7i, r7d, r7e, r7f, r7h, r7j, r7z⟩ := cells5 hw1b r6z r6a r6b r6c r6g r6i r6d r6e r6f r6h r6j
  obtain ⟨s7a, s7b, s7c, s7g, s7i, s7d, s7e, s7f, s7h, s7j, s7z⟩ := cells5 hw1b s6z s6a s6b s6c s6g s6i s6d s6e s6f s6h s6j
  clear r6a r6b r6c r6g r6i r6d r6e r6f r6h r6j r6z s6a s6b s6c s6g s6i s6d s6e s6f s6h s6j s6z hw2 hw1b
  go_wp2_with fail
  refine (good_any s _).mono ?_
  rintro e w3 ⟨rfl, hw3⟩
  have zw3 := hw3.size
  have bw3 := below_of (w := w) (by go_grown) hw3
  try simp at zw3
  have hw2b := below_of (w := w2) (by go_grown) hw3
  obtain ⟨r8a, r8b, r8c, r8g, r8i, r8d, r8e, r8f, r8h, r8j, r8z⟩ := cells5 hw2b r7z r7a r7b r7c r7g r7i r7d r7e r7f r7h r7j
  obtain ⟨s8a, s8b, s8c, s8g, s8i, s8d, s8e, s8f, s8h, s8j, s8z⟩ := cells5 hw2b s7z s7a s7b s7c s7g s7i s7d s7e s7f s7h s7j
  clear r7a r7b r7c r7g r7i r7d r7e r7f r7h r7j r7z s7a s7b s7c s7g s7i s7d s7e s7f s7h s7j s7z hw3 hw2b
  go_wp2_with fail
  refine (putR0_any r _).mono ?_
  rintro e w4 ⟨v4, rfl, ho4, hw4⟩
  obtain ⟨_, A, c, rfl, hr4⟩ := own_rd ho4 (bd_putR r)
  have bw4 := below_of (w := w) (by go_grown) hw4
  have zw4 := hw4.size
  have hw3b := below_of (w := w3) (by go_grown) hw4
  obtain ⟨r9a, r9b, r9c, r9g, r9i, r9d, r9e, r9f, r9h, r9j, r9z⟩ := cells5 hw3b r8z r8a r8b r8c r8g r8i r8d r8e r8f r8h r8j
  obtain ⟨s9a, s9b, s9c, s9g, s9i, s9d, s9e, s9f, s9h, s9j, s9z⟩ := cells5 hw3b s8z s8a s8b s8c s8g s8i s8d s8e s8f s8h s8j
  clear r8a r8b r8c r8g r8i r8d r8e r8f r8h r8j r8z s8a s8b s8c s8g s8i s8d s8e s8f s8h s8j s8z hw4 hw3b
  clear ho4
  go_wp2_with fail
  refine (putR0_any s _).mono ?_
  rintro e w5 ⟨v5, rfl, ho5, hw5⟩
  obtain ⟨_, B, d, rfl, hr5⟩ := own_rd ho5 (bd_putR s)
  have bw5 := below_of (w := w) (by go_grown) hw5
  have zw5 := hw5.size
  have hr4' := hr4.keep hw5
  have hw4b := below_of (w := w4) (by go_grown) hw5
  obtain ⟨r10a, r10b, r10c, r10g, r10i, r10d, r10e, r10f, r10h, r10j, r10z⟩ := cells5 hw4b r9z r9a r9b r9c r9g r9i r9d r9e r9f r9h r9j
  obtain ⟨s10a, s10b, s10c, s10g, s10i, s10d, s10e, s10f, s10h, s10j, s10z⟩ := cells5 hw4b s9z s9a s9b s9c s9g s9i s9d s9e s9f s9h s9j
  clear r9a r9b r9c r9g r9i r9d r9e r9f r9h r9j r9z s9a s9b s9c s9g s9i s9d s9e s9f s9h s9j s9z hw5 hw4b
  clear ho5 hr4
  go_wp2_with fail
  · have hk1 : (putR s).length ≤ (putR r).length := by omega
    have hk2 : (putR s).length ≤ (putR s).length := by omega
    have hka : (putR s).length = min (putR r).length (putR s).length := by omega
    have sl1 := fun X : World => slice_to A (putR r).length c (putR s).length hk1 hr4'.1 X
    have sl2 := fun X : World => slice_to B (putR s).length d (putR s).length hk2 hr5.1 X
    have HKA := Lib.hid hka
    clear hka
    have c1 := fun x : Later w5.heap.size w5 => conv_rd (hr4'.keep x.below)
    have c2 := fun x : Later w5.heap.size w5 => conv_rd (hr5.keep x.below)
    have c3 := fun x : Later w5.heap.size w5 => conv_first (hr4'.keep x.below) (putR s).length hk1
    have c4 := fun x : Later w5.heap.size w5 => conv_first (hr5.keep x.below) (putR s).length hk2
    have b1 := bd_putR r
    have b2 := bd_putR s
    have HF1 := Lib.hid (fun hne : r ≠ s => fun e => hne (putR_inj (m := []) (n := []) h1 h2 (by rw [List.append_nil, List.append_nil]; exact strOf_inj b1 b2 e)))
    have HF2 := Lib.hid (fun hne : r ≠ s => fun e => take_ne h1 h2 hne _ HKA.out (strOf_inj (bd_take b1 _) (bd_take b2 _) e))
    clear hr4' hr5 b1 b2
    by_cases hrs : r = s
    · subst hrs
      omega
    · have f1 : rtB (u r.p.a.hi) (u r.p.a.lo) r.p.a.v6 r.p.n r.hop (u s.p.a.hi) (u s.p.a.lo) s.p.a.v6 s.p.n s.hop = false := by
        cases e : rtB (u r.p.a.hi) (u r.p.a.lo) r.p.a.v6 r.p.n r.hop (u s.p.a.hi) (u s.p.a.lo) s.p.a.v6 s.p.n s.hop
        · rfl
        · exact absurd ((rtEq_iff r s).1 e) hrs
      have f2 := str_ne (HF1.out hrs)
      have f3 := str_ne (HF2.out hrs)
      rw [List.take_length] at f3
      clear hrs HF1 HF2
      go_wp2_with fail
      obtain ⟨W, rfl⟩ : ∃ W, W = w5 := ⟨_, rfl⟩
      have hB := bw5
      have hz := bw5.size
      have Lr10a := fun x : Later W.heap.size W => (x.cell r10z).trans r10a
      have Lr10b := fun x : Later W.heap.size W => (x.cell r10z).trans r10b
      have Lr10c := fun x : Later W.heap.size W => (x.cell r10z).trans r10c
      have Lr10g := fun x : Later W.heap.size W => (x.cell r10z).trans r10g
      have Lr10i := fun x : Later W.heap.size W => (x.cell r10z).trans r10i
      have Ls10a := fun x : Later W.heap.size W => (x.cell s10z).trans s10a
      have Ls10b := fun x : Later W.heap.size W => (x.cell s10z).trans s10b
      have Ls10c := fun x : Later W.heap.size W => (x.cell s10z).trans s10c
      have Ls10g := fun x : Later W.heap.size W => (x.cell s10z).trans s10g
      have Ls10i := fun x : Later W.heap.size W => (x.cell s10z).trans s10i
      try simp only [List.append_eq, List.cons_append, List.nil_append]
      refine region_later W.heap.size (by kernel_rfl) (by kernel_rfl) ?_
      repeat (go_big_quiet_step (fail))
      refine wpQuiet_nil ?_
      intro x
      have hx : Below w.heap.size w x.at := hB.trans (x.below.mono hz)
      go_wp2
      go_ret
      exact ⟨rfl, hx⟩
  · have hk1 : (putR r).length ≤ (putR r).length := by omega
    have hk2 : (putR r).length ≤ (putR s).length := by omega
    have hka : (putR r).length = min (putR r).length (putR s).length := by omega
    have sl1 := fun X : World => slice_to A (putR r).length c (putR r).length hk1 hr4'.1 X
    have sl2 := fun X : World => slice_to B (putR s).length d (putR r).length hk2 hr5.1 X
    have HKA := Lib.hid hka
    clear hka
    have c1 := fun x : Later w5.heap.size w5 => conv_rd (hr4'.keep x.below)
    have c2 := fun x : Later w5.heap.size w5 => conv_rd (hr5.keep x.below)
    have c3 := fun x : Later w5.heap.size w5 => conv_first (hr4'.keep x.below) (putR r).length hk1
    have c4 := fun x : Later w5.heap.size w5 => conv_first (hr5.keep x.below) (putR r).length hk2
    have b1 := bd_putR r
    have b2 := bd_putR s
    have HF1 := Lib.hid (fun hne : r ≠ s => fun e => hne (putR_inj (m := []) (n := []) h1 h2 (by rw [List.append_nil, List.append_nil]; exact strOf_inj b1 b2 e)))
    have HF2 := Lib.hid (fun hne : r ≠ s => fun e => take_ne h1 h2 hne _ HKA.out (strOf_inj (bd_take b1 _) (bd_take b2 _) e))
    clear hr4' hr5 b1 b2
    by_cases hrs : r = s
    · subst hrs
      clear HF1 HF2
      go_wp2_with fail
      obtain ⟨W, rfl⟩ : ∃ W, W = w5 := ⟨_, rfl⟩
      have hB := bw5
      have hz := bw5.size
      have Lr10a := fun x : Later W.heap.size W => (x.cell r10z).trans r10a
      have Lr10b := fun x : Later W.heap.size W => (x.cell r10z).trans r10b
      have Lr10c := fun x : Later W.heap.size W => (x.cell r10z).trans r10c
      have Lr10g := fun x : Later W.heap.size W => (x.cell r10z).trans r10g
      have Lr10i := fun x : Later W.heap.size W => (x.cell r10z).trans r10i
      have Ls10a := fun x : Later W.heap.size W => (x.cell s10z).trans s10a
      have Ls10b := fun x : Later W.heap.size W => (x.cell s10z).trans s10b
      have Ls10c := fun x : Later W.heap.size W => (x.cell s10z).trans s10c
      have Ls10g := fun x : Later W.heap.size W => (x.cell s10z).trans s10g
      have Ls10i := fun x : Later W.heap.size W => (x.cell s10z).trans s10i
      try simp only [List.append_eq, List.cons_append, List.nil_append]
      refine region_later W.heap.size (by kernel_rfl) (by kernel_rfl) ?_
      repeat (go_big_quiet_step (fail))
      refine wpQuiet_nil ?_
      intro x
      have hx : Below w.heap.size w x.at := hB.trans (x.below.mono hz)
      go_wp2
      go_ret
      exact ⟨rfl, hx⟩
    · have f1 : rtB (u r.p.a.hi) (u r.p.a.lo) r.p.a.v6 r.p.n r.hop (u s.p.a.hi) (u s.p.a.lo) s.p.a.v6 s.p.n s.hop = false := by
        cases e : rtB (u r.p.a.hi) (u r.p.a.lo) r.p.a.v6 r.p.n r.hop (u s.p.a.hi) (u s.p.a.lo) s.p.a.v6 s.p.n s.hop
        · rfl
        · exact absurd ((rtEq_iff r s).1 e) hrs
      have f2 := str_ne (HF1.out hrs)
      have f3 := str_ne (HF2.out hrs)
      rw [List.take_length] at f3
      clear hrs HF1 HF2
      go_wp2_with fail
      obtain ⟨W, rfl⟩ : ∃ W, W = w5 := ⟨_, rfl⟩
      have hB := bw5
      have hz := bw5.size
      have Lr10a := fun x : Later W.heap.size W => (x.cell r10z).trans r10a
      have Lr10b := fun x : Later W.heap.size W => (x.cell r10z).trans r10b
      have Lr10c := fun x : Later W.heap.size W => (x.cell r10z).trans r10c
      have Lr10g := fun x : Later W.heap.size W => (x.cell r10z).trans r10g
      have Lr10i := fun x : Later W.heap.size W => (x.cell r10z).trans r10i
      have Ls10a := fun x : Later W.heap.size W => (x.cell s10z).trans s10a
      have Ls10b := fun x : Later W.heap.size W => (x.cell s10z).trans s10b
      have Ls10c := fun x : Later W.heap.size W => (x.cell s10z).trans s10c
      have Ls10g := fun x : Later W.heap.size W => (x.cell s10z).trans s10g
      have Ls10i := fun x : Later W.heap.size W => (x.cell s10z).trans s10i
      try simp only [List.append_eq, List.cons_append, List.nil_append]
      refine region_later W.heap.size (by kernel_rfl) (by kernel_rfl) ?_
      repeat (go_big_quiet_step (fail))
      refine wpQuiet_nil ?_
      intro x
      have hx : Below w.heap.size w x.at := hB.trans (x.below.mono hz)
      go_wp2
      go_ret
      exact ⟨rfl, hx⟩
theorem apart_law (r s : Rt) (w : World) : Calls Try.prog 7 #[.agg #[.int .u64 (u r.p.a.hi), .int .u64 (u r.p.a.lo), .bool r.p.a.v6, .int .i64 r.p.n, .int .i64 r.hop], .agg #[.int .u64 (u s.p.a.hi), .int .u64 (u s.p.a.lo), .bool s.p.a.v6, .int .i64 s.p.n, .int .i64 s.hop]] w fun e w' => e = .returned (.bool true) ∧ Below w.heap.size w w' := by
  by_cases h : rgood r = true ∧ rgood s = true
  · exact apart_yes r s w h.1 h.2
  · exact apart_no r s w h

end Go.Proofs.Ytibhabglmkgaaaa
