/-
  TextErrors returns true, whatever address, byte and prefix. Condition: the library's tables hold what its text lays.
-/
import Derived.Test.YtgmlpcmplglnoaaDoorTw
import Derived.Test.YtgmlpcmplglnoaaDoorLate
namespace Go.Proofs.YtgmlpcmplglnoaaDoor
open Go.RowKit
set_option maxRecDepth 100000

theorem index_pos (c b : UInt8) (l : List UInt8) (sub : List UInt8) (h : ¬ c = b) (hn : Lib.index (b :: l) (c :: sub) ≠ -1) : ∃ i : Nat, Lib.index (b :: l) (c :: sub) = ((i + 1 : Nat) : Int) := by
  have e : Lib.index (b :: l) (c :: sub) = if (c :: sub).isPrefixOf (b :: l) then 0 else if Lib.index l (c :: sub) == -1 then -1 else Lib.index l (c :: sub) + 1 := rfl
  rw [if_neg (by simp [List.isPrefixOf, h])] at e
  have hg := Lib.index_ge l (c :: sub)
  by_cases h1 : Lib.index l (c :: sub) = -1
  · rw [h1] at e
    exact absurd e hn
  · rw [if_neg (by simpa using h1)] at e
    exact ⟨(Lib.index l (c :: sub)).toNat, by rw [e]; omega⟩
theorem splitK_head (c b : UInt8) (l : List UInt8) (h : ¬ c = b) : ∀ k, ∃ x r, Lib.splitK [c] 0 k (b :: l) = (b :: x) :: r
  | 0 => ⟨l, [], rfl⟩
  | k + 1 => by
    have e : Lib.splitK [c] 0 (k + 1) (b :: l) = if Lib.index (b :: l) [c] == -1 then [b :: l] else (b :: l).take ((Lib.index (b :: l) [c]).toNat + 0) :: Lib.splitK [c] 0 k ((b :: l).drop ((Lib.index (b :: l) [c]).toNat + [c].length)) := rfl
    by_cases h1 : Lib.index (b :: l) [c] = -1
    · rw [if_pos (by simpa using h1)] at e
      exact ⟨l, [], e⟩
    · obtain ⟨i, hi⟩ := index_pos c b l [] h h1
      rw [if_neg (by simpa using h1), hi] at e
      exact ⟨l.take i, _, e⟩
theorem cut_head (b : UInt8) (l : List UInt8) (h : ¬ (58 : UInt8) = b) : ∃ x, (Lib.cut (b :: l) [58, 58]).1 = b :: x := by
  unfold Lib.cut
  split
  · rename_i h0
    obtain ⟨i, hi⟩ := index_pos 58 b l [58] h (by omega)
    rw [hi]
    exact ⟨l.take i, rfl⟩
  · exact ⟨l, rfl⟩
/-- What begins with no digit, no point and no colon is no address. -/
theorem parse_bad (b : UInt8) (l : List UInt8) (hd : dgo b.toNat = false) (h1 : ¬ (58 : UInt8) = b) (h2 : ¬ (46 : UInt8) = b) : parseA (b :: l) = none := by
  refine parseA_none ?_ ?_
  · obtain ⟨x, r, e⟩ := splitK_head 46 b l h2 (min 4 (b :: l).length)
    unfold shortL partsL
    rw [e]
    split
    · refine bytesGo_none ?_
      unfold one numL
      rw [if_neg (by simp), numGo_cons, hd, if_neg (by simp)]
      rfl
    · rfl
  · obtain ⟨y, hy⟩ := cut_head b l h1
    refine longL_none1 ?_
    rw [hy]
    obtain ⟨x, r, e⟩ := splitK_head 58 b y h1 (min 8 (b :: y).length)
    unfold grsL partsL
    rw [if_neg (by simp), e]
    refine bytesGo_none ?_
    unfold two grpL
    split
    · rfl
    · rw [grpGo_cons, hd, if_neg (by simp)]
      rfl
theorem noslash_any (a : Ad) (w : World) (he : Env w) :
    Calls Tryd.prog 12 #[.string ⟨(printA a).toArray⟩] w fun e w' => e = .returned (.tuple #[.agg #[.int .u64 0, .int .u64 0, .bool false, .int .i64 0], .int .i64 5]) ∧ Below w.heap.size w w' := by
  have h := parse_any ⟨(printA a).toArray⟩ w he (by rw [ba_size]; have := printA_le a; omega)
  rw [bl, parseP_none1 (by rw [cut1_none 47 _ (slash_free a)])] at h
  exact h
theorem slashend_any (a : Ad) (w : World) (he : Env w) :
    Calls Tryd.prog 12 #[.string (⟨(printA a).toArray⟩ ++ ⟨#[47]⟩)] w fun e w' => e = .returned (.tuple #[.agg #[.int .u64 0, .int .u64 0, .bool false, .int .i64 0], .int .i64 5]) ∧ Below w.heap.size w w' := by
  have hc : Lib.cut (printA a ++ [47]) [47] = (printA a, [], true) := by
    have := cut1_at 47 (printA a) [] (slash_free a)
    rwa [List.append_nil] at this
  have h := parse_any ⟨(printA a ++ [47]).toArray⟩ w he (by rw [ba_size, List.length_append]; have := printA_le a; simp; omega)
  rw [bl, parseP_none3 (by rw [hc]) (by rw [hc]; exact parse_print a) (by rw [hc]; rfl), ← ba_append] at h
  exact h

set_option maxHeartbeats 1000000 in
theorem textErrors_gen (a : Ad) (c : Int) (p : Pf) (cb : UInt8) (hcb : (cb.toNat : Int) = c) (xh xl : Int) (xv : Bool) (er : Int)
    (cx : ∀ w, Env w → Calls Tryd.prog 10 #[.string (⟨#[cb]⟩ ++ ⟨(printA a).toArray⟩)] w fun e w' => e = .returned (.tuple #[.agg #[.int .u64 xh, .int .u64 xl, .bool xv], .int .i64 er]) ∧ Below w.heap.size w w')
    (hbad : ((48 ≤ c ∧ c ≤ 57) ∨ (97 ≤ c ∧ c ≤ 102) ∨ (65 ≤ c ∧ c ≤ 70) ∨ c = 58 ∨ c = 46) ∨ (xh = 0 ∧ xl = 0 ∧ xv = false ∧ er = 5)) (w : World) (he : Env w) :
    Calls Tryd.prog 8 #[.agg #[.int .u64 (u a.hi), .int .u64 (u a.lo), .bool a.v6], .int .u8 c, .agg #[.int .u64 (u p.a.hi), .int .u64 (u p.a.lo), .bool p.a.v6, .int .i64 p.n]] w fun e w' => e = .returned (.bool true) ∧ Below w.heap.size w w' := by
  have hcv : ∀ W : World, (convert 40 9 (.slice (some ⟨W.heap.size, 0, none⟩) 1 1)).run Tryd.prog (W.alloc (.cells #[.int .u8 c] 5)) = .ok (.string ⟨#[cb]⟩) (W.alloc (.cells #[.int .u8 c] 5)) := fun W =>
    run_convert_bytes_back (P := Tryd.prog) (W.alloc (.cells #[.int .u8 c] 5)) 40 9 5 ⟨W.heap.size, 0, none⟩ 1 [cb] Tryd.underlying40 Tryd.underlying5 Tryd.underlying9 (fun j hj => by
      obtain rfl : j = 0 := by simpa using hj
      rw [addr_add, World.cell?_alloc_new]
      simp [hcb])
  have hsz : ((⟨#[cb]⟩ : ByteArray).size + (⟨(printA a).toArray⟩ : ByteArray).size) ≤ 9223372036854775807 := by rw [ba_size]; have := printA_le a; simp [ByteArray.size]; omega
  have hsp : ((⟨(printA p.a).toArray⟩ : ByteArray).size + (⟨#[47]⟩ : ByteArray).size) ≤ 9223372036854775807 := by rw [ba_size]; have := printA_le p.a; simp [ByteArray.size]; omega
  have CX := fun w he => Lib.hid (cx w he)
  have Hcb := Lib.hid hcb
  clear cx hcb
  have t58 : c = 58 ∨ ¬ c = 58 := by omega
  have t46 : c = 46 ∨ ¬ c = 46 := by omega
  by_cases hd : 48 ≤ c ∧ c ≤ 57
  · obtain ⟨r1, r2⟩ := hd
    clear hbad t58 t46
    skip
    go_enter Tryd.func8, Tryd.ntmps8
    go_wp2_with fail
    refine (awake3_any _ (he.go (by go_grown))).mono ?_
    rintro e w1 ⟨rfl, hw1⟩
    have zw1 := hw1.size
    have bw1 := below_of (w := w) (by go_grown) hw1
    try simp at zw1
    obtain ⟨a1a, a1b, a1c, a1d, a1e, a1f, a1z⟩ := cells3 (b := w.heap.size) hw1 (by go_size) (by go_simp <;> rfl) (by go_simp <;> rfl) (by go_simp <;> rfl) (by go_simp <;> rfl) (by go_simp <;> rfl) (by go_simp <;> rfl)
    obtain ⟨p1a, p1b, p1c, p1g, p1d, p1e, p1f, p1h, p1z⟩ := cells4 (b := w.heap.size + 1) hw1 (by go_size) (by go_simp <;> rfl) (by go_simp <;> rfl) (by go_simp <;> rfl) (by go_simp <;> rfl) (by go_simp <;> rfl) (by go_simp <;> rfl) (by go_simp <;> rfl) (by go_simp <;> rfl)
    clear hw1
    go_wp2_with fail
    refine (printAddr_any a _ (he.go (by go_grown))).mono ?_
    rintro e w2 ⟨rfl, hw2⟩
    have zw2 := hw2.size
    have bw2 := below_of (w := w) (by go_grown) hw2
    try simp at zw2
    have hw1b := below_of (w := w1) (by go_grown) hw2
    obtain ⟨a2a, a2b, a2c, a2d, a2e, a2f, a2z⟩ := cells3 hw1b a1z a1a a1b a1c a1d a1e a1f
    obtain ⟨p2a, p2b, p2c, p2g, p2d, p2e, p2f, p2h, p2z⟩ := cells4 hw1b p1z p1a p1b p1c p1g p1d p1e p1f p1h
    clear a1a a1b a1c a1d a1e a1f a1z p1a p1b p1c p1g p1d p1e p1f p1h p1z hw2 hw1b
    go_wp2_with fail
    refine ((CX _ (he.go (by go_grown))).out).mono ?_
    rintro e w3 ⟨rfl, hw3⟩
    have zw3 := hw3.size
    have bw3 := below_of (w := w) (by go_grown) hw3
    try simp at zw3
    have hw2b := below_of (w := w2) (by go_grown) hw3
    obtain ⟨a3a, a3b, a3c, a3d, a3e, a3f, a3z⟩ := cells3 hw2b a2z a2a a2b a2c a2d a2e a2f
    obtain ⟨p3a, p3b, p3c, p3g, p3d, p3e, p3f, p3h, p3z⟩ := cells4 hw2b p2z p2a p2b p2c p2g p2d p2e p2f p2h
    clear a2a a2b a2c a2d a2e a2f a2z p2a p2b p2c p2g p2d p2e p2f p2h p2z hw3 hw2b
    go_wp2_with fail
    refine (printAddr_any p.a _ (he.go (by go_grown))).mono ?_
    rintro e w4 ⟨rfl, hw4⟩
    have zw4 := hw4.size
    have bw4 := below_of (w := w) (by go_grown) hw4
    try simp at zw4
    have hw3b := below_of (w := w3) (by go_grown) hw4
    obtain ⟨a4a, a4b, a4c, a4d, a4e, a4f, a4z⟩ := cells3 hw3b a3z a3a a3b a3c a3d a3e a3f
    obtain ⟨p4a, p4b, p4c, p4g, p4d, p4e, p4f, p4h, p4z⟩ := cells4 hw3b p3z p3a p3b p3c p3g p3d p3e p3f p3h
    obtain ⟨x4a, x4b, x4c, x4d, x4e, x4f, x4z⟩ := cells3 (b := w3.heap.size) hw4 (by go_size) (by go_simp <;> rfl) (by go_simp <;> rfl) (by go_simp <;> rfl) (by go_simp <;> rfl) (by go_simp <;> rfl) (by go_simp <;> rfl)
    clear a3a a3b a3c a3d a3e a3f a3z p3a p3b p3c p3g p3d p3e p3f p3h p3z hw4 hw3b
    go_wp2_with fail
    refine (noslash_any p.a _ (he.go (by go_grown))).mono ?_
    rintro e w5 ⟨rfl, hw5⟩
    have zw5 := hw5.size
    have bw5 := below_of (w := w) (by go_grown) hw5
    try simp at zw5
    have hw4b := below_of (w := w4) (by go_grown) hw5
    obtain ⟨a5a, a5b, a5c, a5d, a5e, a5f, a5z⟩ := cells3 hw4b a4z a4a a4b a4c a4d a4e a4f
    obtain ⟨p5a, p5b, p5c, p5g, p5d, p5e, p5f, p5h, p5z⟩ := cells4 hw4b p4z p4a p4b p4c p4g p4d p4e p4f p4h
    obtain ⟨x5a, x5b, x5c, x5d, x5e, x5f, x5z⟩ := cells3 hw4b x4z x4a x4b x4c x4d x4e x4f
    clear a4a a4b a4c a4d a4e a4f a4z p4a p4b p4c p4g p4d p4e p4f p4h p4z x4a x4b x4c x4d x4e x4f x4z hw5 hw4b
    go_wp2_with fail
    refine (printAddr_any p.a _ (he.go (by go_grown))).mono ?_
    rintro e w6 ⟨rfl, hw6⟩
    have zw6 := hw6.size
    have bw6 := below_of (w := w) (by go_grown) hw6
    try simp at zw6
    have hw5b := below_of (w := w5) (by go_grown) hw6
    obtain ⟨a6a, a6b, a6c, a6d, a6e, a6f, a6z⟩ := cells3 hw5b a5z a5a a5b a5c a5d a5e a5f
    obtain ⟨p6a, p6b, p6c, p6g, p6d, p6e, p6f, p6h, p6z⟩ := cells4 hw5b p5z p5a p5b p5c p5g p5d p5e p5f p5h
    obtain ⟨x6a, x6b, x6c, x6d, x6e, x6f, x6z⟩ := cells3 hw5b x5z x5a x5b x5c x5d x5e x5f
    obtain ⟨q6a, q6b, q6c, q6g, q6d, q6e, q6f, q6h, q6z⟩ := cells4 (b := w5.heap.size) hw6 (by go_size) (by go_simp <;> rfl) (by go_simp <;> rfl) (by go_simp <;> rfl) (by go_simp <;> rfl) (by go_simp <;> rfl) (by go_simp <;> rfl) (by go_simp <;> rfl) (by go_simp <;> rfl)
    clear a5a a5b a5c a5d a5e a5f a5z p5a p5b p5c p5g p5d p5e p5f p5h p5z x5a x5b x5c x5d x5e x5f x5z hw6 hw5b
    go_wp2_with fail
    refine (slashend_any p.a _ (he.go (by go_grown))).mono ?_
    rintro e w7 ⟨rfl, hw7⟩
    have zw7 := hw7.size
    have bw7 := below_of (w := w) (by go_grown) hw7
    try simp at zw7
    have hw6b := below_of (w := w6) (by go_grown) hw7
    obtain ⟨a7a, a7b, a7c, a7d, a7e, a7f, a7z⟩ := cells3 hw6b a6z a6a a6b a6c a6d a6e a6f
    obtain ⟨p7a, p7b, p7c, p7g, p7d, p7e, p7f, p7h, p7z⟩ := cells4 hw6b p6z p6a p6b p6c p6g p6d p6e p6f p6h
    obtain ⟨x7a, x7b, x7c, x7d, x7e, x7f, x7z⟩ := cells3 hw6b x6z x6a x6b x6c x6d x6e x6f
    obtain ⟨q7a, q7b, q7c, q7g, q7d, q7e, q7f, q7h, q7z⟩ := cells4 hw6b q6z q6a q6b q6c q6g q6d q6e q6f q6h
    clear a6a a6b a6c a6d a6e a6f a6z p6a p6b p6c p6g p6d p6e p6f p6h p6z x6a x6b x6c x6d x6e x6f x6z q6a q6b q6c q6g q6d q6e q6f q6h q6z hw7 hw6b
    go_wp2
    go_ret
    refine ⟨rfl, ?_⟩
    go_grown
  · by_cases hl : 97 ≤ c ∧ c ≤ 102
    · obtain ⟨r3, r4⟩ := hl
      have r1 : 48 ≤ c := by omega
      have r2 : ¬ c ≤ 57 := by omega
      clear hbad hd t58 t46
      skip
      go_enter Tryd.func8, Tryd.ntmps8
      go_wp2_with fail
      refine (awake3_any _ (he.go (by go_grown))).mono ?_
      rintro e w1 ⟨rfl, hw1⟩
      have zw1 := hw1.size
      have bw1 := below_of (w := w) (by go_grown) hw1
      try simp at zw1
      obtain ⟨a8a, a8b, a8c, a8d, a8e, a8f, a8z⟩ := cells3 (b := w.heap.size) hw1 (by go_size) (by go_simp <;> rfl) (by go_simp <;> rfl) (by go_simp <;> rfl) (by go_simp <;> rfl) (by go_simp <;> rfl) (by go_simp <;> rfl)
      obtain ⟨p8a, p8b, p8c, p8g, p8d, p8e, p8f, p8h, p8z⟩ := cells4 (b := w.heap.size + 1) hw1 (by go_size) (by go_simp <;> rfl) (by go_simp <;> rfl) (by go_simp <;> rfl) (by go_simp <;> rfl) (by go_simp <;> rfl) (by go_simp <;> rfl) (by go_simp <;> rfl) (by go_simp <;> rfl)
      clear hw1
      go_wp2_with fail
      refine (printAddr_any a _ (he.go (by go_grown))).mono ?_
      rintro e w2 ⟨rfl, hw2⟩
      have zw2 := hw2.size
      have bw2 := below_of (w := w) (by go_grown) hw2
      try simp at zw2
      have hw1b := below_of (w := w1) (by go_grown) hw2
      obtain ⟨a9a, a9b, a9c, a9d, a9e, a9f, a9z⟩ := cells3 hw1b a8z a8a a8b a8c a8d a8e a8f
      obtain ⟨p9a, p9b, p9c, p9g, p9d, p9e, p9f, p9h, p9z⟩ := cells4 hw1b p8z p8a p8b p8c p8g p8d p8e p8f p8h
      clear a8a a8b a8c a8d a8e a8f a8z p8a p8b p8c p8g p8d p8e p8f p8h p8z hw2 hw1b
      go_wp2_with fail
      refine ((CX _ (he.go (by go_grown))).out).mono ?_
      rintro e w3 ⟨rfl, hw3⟩
      have zw3 := hw3.size
      have bw3 := below_of (w := w) (by go_grown) hw3
      try simp at zw3
      have hw2b := below_of (w := w2) (by go_grown) hw3
      obtain ⟨a10a, a10b, a10c, a10d, a10e, a10f, a10z⟩ := cells3 hw2b a9z a9a a9b a9c a9d a9e a9f
      obtain ⟨p10a, p10b, p10c, p10g, p10d, p10e, p10f, p10h, p10z⟩ := cells4 hw2b p9z p9a p9b p9c p9g p9d p9e p9f p9h
      clear a9a a9b a9c a9d a9e a9f a9z p9a p9b p9c p9g p9d p9e p9f p9h p9z hw3 hw2b
      go_wp2_with fail
      refine (printAddr_any p.a _ (he.go (by go_grown))).mono ?_
      rintro e w4 ⟨rfl, hw4⟩
      have zw4 := hw4.size
      have bw4 := below_of (w := w) (by go_grown) hw4
      try simp at zw4
      have hw3b := below_of (w := w3) (by go_grown) hw4
      obtain ⟨a11a, a11b, a11c, a11d, a11e, a11f, a11z⟩ := cells3 hw3b a10z a10a a10b a10c a10d a10e a10f
      obtain ⟨p11a, p11b, p11c, p11g, p11d, p11e, p11f, p11h, p11z⟩ := cells4 hw3b p10z p10a p10b p10c p10g p10d p10e p10f p10h
      obtain ⟨x11a, x11b, x11c, x11d, x11e, x11f, x11z⟩ := cells3 (b := w3.heap.size) hw4 (by go_size) (by go_simp <;> rfl) (by go_simp <;> rfl) (by go_simp <;> rfl) (by go_simp <;> rfl) (by go_simp <;> rfl) (by go_simp <;> rfl)
      clear a10a a10b a10c a10d a10e a10f a10z p10a p10b p10c p10g p10d p10e p10f p10h p10z hw4 hw3b
      go_wp2_with fail
      refine (noslash_any p.a _ (he.go (by go_grown))).mono ?_
      rintro e w5 ⟨rfl, hw5⟩
      have zw5 := hw5.size
      have bw5 := below_of (w := w) (by go_grown) hw5
      try simp at zw5
      have hw4b := below_of (w := w4) (by go_grown) hw5
      obtain ⟨a12a, a12b, a12c, a12d, a12e, a12f, a12z⟩ := cells3 hw4b a11z a11a a11b a11c a11d a11e a11f
      obtain ⟨p12a, p12b, p12c, p12g, p12d, p12e, p12f, p12h, p12z⟩ := cells4 hw4b p11z p11a p11b p11c p11g p11d p11e p11f p11h
      obtain ⟨x12a, x12b, x12c, x12d, x12e, x12f, x12z⟩ := cells3 hw4b x11z x11a x11b x11c x11d x11e x11f
      clear a11a a11b a11c a11d a11e a11f a11z p11a p11b p11c p11g p11d p11e p11f p11h p11z x11a x11b x11c x11d x11e x11f x11z hw5 hw4b
      go_wp2_with fail
      refine (printAddr_any p.a _ (he.go (by go_grown))).mono ?_
      rintro e w6 ⟨rfl, hw6⟩
      have zw6 := hw6.size
      have bw6 := below_of (w := w) (by go_grown) hw6
      try simp at zw6
      have hw5b := below_of (w := w5) (by go_grown) hw6
      obtain ⟨a13a, a13b, a13c, a13d, a13e, a13f, a13z⟩ := cells3 hw5b a12z a12a a12b a12c a12d a12e a12f
      obtain ⟨p13a, p13b, p13c, p13g, p13d, p13e, p13f, p13h, p13z⟩ := cells4 hw5b p12z p12a p12b p12c p12g p12d p12e p12f p12h
      obtain ⟨x13a, x13b, x13c, x13d, x13e, x13f, x13z⟩ := cells3 hw5b x12z x12a x12b x12c x12d x12e x12f
      obtain ⟨q13a, q13b, q13c, q13g, q13d, q13e, q13f, q13h, q13z⟩ := cells4 (b := w5.heap.size) hw6 (by go_size) (by go_simp <;> rfl) (by go_simp <;> rfl) (by go_simp <;> rfl) (by go_simp <;> rfl) (by go_simp <;> rfl) (by go_simp <;> rfl) (by go_simp <;> rfl) (by go_simp <;> rfl)
      clear a12a a12b a12c a12d a12e a12f a12z p12a p12b p12c p12g p12d p12e p12f p12h p12z x12a x12b x12c x12d x12e x12f x12z hw6 hw5b
      go_wp2_with fail
      refine (slashend_any p.a _ (he.go (by go_grown))).mono ?_
      rintro e w7 ⟨rfl, hw7⟩
      have zw7 := hw7.size
      have bw7 := below_of (w := w) (by go_grown) hw7
      try simp at zw7
      have hw6b := below_of (w := w6) (by go_grown) hw7
      obtain ⟨a14a, a14b, a14c, a14d, a14e, a14f, a14z⟩ := cells3 hw6b a13z a13a a13b a13c a13d a13e a13f
      obtain ⟨p14a, p14b, p14c, p14g, p14d, p14e, p14f, p14h, p14z⟩ := cells4 hw6b p13z p13a p13b p13c p13g p13d p13e p13f p13h
      obtain ⟨x14a, x14b, x14c, x14d, x14e, x14f, x14z⟩ := cells3 hw6b x13z x13a x13b x13c x13d x13e x13f
      obtain ⟨q14a, q14b, q14c, q14g, q14d, q14e, q14f, q14h, q14z⟩ := cells4 hw6b q13z q13a q13b q13c q13g q13d q13e q13f q13h
      clear a13a a13b a13c a13d a13e a13f a13z p13a p13b p13c p13g p13d p13e p13f p13h p13z x13a x13b x13c x13d x13e x13f x13z q13a q13b q13c q13g q13d q13e q13f q13h q13z hw7 hw6b
      go_wp2
      go_ret
      refine ⟨rfl, ?_⟩
      go_grown
    · by_cases hu : 65 ≤ c ∧ c ≤ 70
      · obtain ⟨r5, r6⟩ := hu
        have r1 : 48 ≤ c := by omega
        have r2 : ¬ c ≤ 57 := by omega
        have r3 : ¬ 97 ≤ c := by omega
        clear hbad hd hl t58 t46
        skip
        go_enter Tryd.func8, Tryd.ntmps8
        go_wp2_with fail
        refine (awake3_any _ (he.go (by go_grown))).mono ?_
        rintro e w1 ⟨rfl, hw1⟩
        have zw1 := hw1.size
        have bw1 := below_of (w := w) (by go_grown) hw1
        try simp at zw1
        obtain ⟨a15a, a15b, a15c, a15d, a15e, a15f, a15z⟩ := cells3 (b := w.heap.size) hw1 (by go_size) (by go_simp <;> rfl) (by go_simp <;> rfl) (by go_simp <;> rfl) (by go_simp <;> rfl) (by go_simp <;> rfl) (by go_simp <;> rfl)
        obtain ⟨p15a, p15b, p15c, p15g, p15d, p15e, p15f, p15h, p15z⟩ := cells4 (b := w.heap.size + 1) hw1 (by go_size) (by go_simp <;> rfl) (by go_simp <;> rfl) (by go_simp <;> rfl) (by go_simp <;> rfl) (by go_simp <;> rfl) (by go_simp <;> rfl) (by go_simp <;> rfl) (by go_simp <;> rfl)
        clear hw1
        go_wp2_with fail
        refine (printAddr_any a _ (he.go (by go_grown))).mono ?_
        rintro e w2 ⟨rfl, hw2⟩
        have zw2 := hw2.size
        have bw2 := below_of (w := w) (by go_grown) hw2
        try simp at zw2
        have hw1b := below_of (w := w1) (by go_grown) hw2
        obtain ⟨a16a, a16b, a16c, a16d, a16e, a16f, a16z⟩ := cells3 hw1b a15z a15a a15b a15c a15d a15e a15f
        obtain ⟨p16a, p16b, p16c, p16g, p16d, p16e, p16f, p16h, p16z⟩ := cells4 hw1b p15z p15a p15b p15c p15g p15d p15e p15f p15h
        clear a15a a15b a15c a15d a15e a15f a15z p15a p15b p15c p15g p15d p15e p15f p15h p15z hw2 hw1b
        go_wp2_with fail
        refine ((CX _ (he.go (by go_grown))).out).mono ?_
        rintro e w3 ⟨rfl, hw3⟩
        have zw3 := hw3.size
        have bw3 := below_of (w := w) (by go_grown) hw3
        try simp at zw3
        have hw2b := below_of (w := w2) (by go_grown) hw3
        obtain ⟨a17a, a17b, a17c, a17d, a17e, a17f, a17z⟩ := cells3 hw2b a16z a16a a16b a16c a16d a16e a16f
        obtain ⟨p17a, p17b, p17c, p17g, p17d, p17e, p17f, p17h, p17z⟩ := cells4 hw2b p16z p16a p16b p16c p16g p16d p16e p16f p16h
        clear a16a a16b a16c a16d a16e a16f a16z p16a p16b p16c p16g p16d p16e p16f p16h p16z hw3 hw2b
        go_wp2_with fail
        refine (printAddr_any p.a _ (he.go (by go_grown))).mono ?_
        rintro e w4 ⟨rfl, hw4⟩
        have zw4 := hw4.size
        have bw4 := below_of (w := w) (by go_grown) hw4
        try simp at zw4
        have hw3b := below_of (w := w3) (by go_grown) hw4
        obtain ⟨a18a, a18b, a18c, a18d, a18e, a18f, a18z⟩ := cells3 hw3b a17z a17a a17b a17c a17d a17e a17f
        obtain ⟨p18a, p18b, p18c, p18g, p18d, p18e, p18f, p18h, p18z⟩ := cells4 hw3b p17z p17a p17b p17c p17g p17d p17e p17f p17h
        obtain ⟨x18a, x18b, x18c, x18d, x18e, x18f, x18z⟩ := cells3 (b := w3.heap.size) hw4 (by go_size) (by go_simp <;> rfl) (by go_simp <;> rfl) (by go_simp <;> rfl) (by go_simp <;> rfl) (by go_simp <;> rfl) (by go_simp <;> rfl)
        clear a17a a17b a17c a17d a17e a17f a17z p17a p17b p17c p17g p17d p17e p17f p17h p17z hw4 hw3b
        go_wp2_with fail
        refine (noslash_any p.a _ (he.go (by go_grown))).mono ?_
        rintro e w5 ⟨rfl, hw5⟩
        have zw5 := hw5.size
        have bw5 := below_of (w := w) (by go_grown) hw5
        try simp at zw5
        have hw4b := below_of (w := w4) (by go_grown) hw5
        obtain ⟨a19a, a19b, a19c, a19d, a19e, a19f, a19z⟩ := cells3 hw4b a18z a18a a18b a18c a18d a18e a18f
        obtain ⟨p19a, p19b, p19c, p19g, p19d, p19e, p19f, p19h, p19z⟩ := cells4 hw4b p18z p18a p18b p18c p18g p18d p18e p18f p18h
        obtain ⟨x19a, x19b, x19c, x19d, x19e, x19f, x19z⟩ := cells3 hw4b x18z x18a x18b x18c x18d x18e x18f
        clear a18a a18b a18c a18d a18e a18f a18z p18a p18b p18c p18g p18d p18e p18f p18h p18z x18a x18b x18c x18d x18e x18f x18z hw5 hw4b
        go_wp2_with fail
        refine (printAddr_any p.a _ (he.go (by go_grown))).mono ?_
        rintro e w6 ⟨rfl, hw6⟩
        have zw6 := hw6.size
        have bw6 := below_of (w := w) (by go_grown) hw6
        try simp at zw6
        have hw5b := below_of (w := w5) (by go_grown) hw6
        obtain ⟨a20a, a20b, a20c, a20d, a20e, a20f, a20z⟩ := cells3 hw5b a19z a19a a19b a19c a19d a19e a19f
        obtain ⟨p20a, p20b, p20c, p20g, p20d, p20e, p20f, p20h, p20z⟩ := cells4 hw5b p19z p19a p19b p19c p19g p19d p19e p19f p19h
        obtain ⟨x20a, x20b, x20c, x20d, x20e, x20f, x20z⟩ := cells3 hw5b x19z x19a x19b x19c x19d x19e x19f
        obtain ⟨q20a, q20b, q20c, q20g, q20d, q20e, q20f, q20h, q20z⟩ := cells4 (b := w5.heap.size) hw6 (by go_size) (by go_simp <;> rfl) (by go_simp <;> rfl) (by go_simp <;> rfl) (by go_simp <;> rfl) (by go_simp <;> rfl) (by go_simp <;> rfl) (by go_simp <;> rfl) (by go_simp <;> rfl)
        clear a19a a19b a19c a19d a19e a19f a19z p19a p19b p19c p19g p19d p19e p19f p19h p19z x19a x19b x19c x19d x19e x19f x19z hw6 hw5b
        go_wp2_with fail
        refine (slashend_any p.a _ (he.go (by go_grown))).mono ?_
        rintro e w7 ⟨rfl, hw7⟩
        have zw7 := hw7.size
        have bw7 := below_of (w := w) (by go_grown) hw7
        try simp at zw7
        have hw6b := below_of (w := w6) (by go_grown) hw7
        obtain ⟨a21a, a21b, a21c, a21d, a21e, a21f, a21z⟩ := cells3 hw6b a20z a20a a20b a20c a20d a20e a20f
        obtain ⟨p21a, p21b, p21c, p21g, p21d, p21e, p21f, p21h, p21z⟩ := cells4 hw6b p20z p20a p20b p20c p20g p20d p20e p20f p20h
        obtain ⟨x21a, x21b, x21c, x21d, x21e, x21f, x21z⟩ := cells3 hw6b x20z x20a x20b x20c x20d x20e x20f
        obtain ⟨q21a, q21b, q21c, q21g, q21d, q21e, q21f, q21h, q21z⟩ := cells4 hw6b q20z q20a q20b q20c q20g q20d q20e q20f q20h
        clear a20a a20b a20c a20d a20e a20f a20z p20a p20b p20c p20g p20d p20e p20f p20h p20z x20a x20b x20c x20d x20e x20f x20z q20a q20b q20c q20g q20d q20e q20f q20h q20z hw7 hw6b
        go_wp2
        go_ret
        refine ⟨rfl, ?_⟩
        go_grown
      · rcases t58 with rfl | n58
        · clear hbad hd hl hu t46
          skip
          go_enter Tryd.func8, Tryd.ntmps8
          go_wp2_with fail
          refine (awake3_any _ (he.go (by go_grown))).mono ?_
          rintro e w1 ⟨rfl, hw1⟩
          have zw1 := hw1.size
          have bw1 := below_of (w := w) (by go_grown) hw1
          try simp at zw1
          obtain ⟨a22a, a22b, a22c, a22d, a22e, a22f, a22z⟩ := cells3 (b := w.heap.size) hw1 (by go_size) (by go_simp <;> rfl) (by go_simp <;> rfl) (by go_simp <;> rfl) (by go_simp <;> rfl) (by go_simp <;> rfl) (by go_simp <;> rfl)
          obtain ⟨p22a, p22b, p22c, p22g, p22d, p22e, p22f, p22h, p22z⟩ := cells4 (b := w.heap.size + 1) hw1 (by go_size) (by go_simp <;> rfl) (by go_simp <;> rfl) (by go_simp <;> rfl) (by go_simp <;> rfl) (by go_simp <;> rfl) (by go_simp <;> rfl) (by go_simp <;> rfl) (by go_simp <;> rfl)
          clear hw1
          go_wp2_with fail
          refine (printAddr_any a _ (he.go (by go_grown))).mono ?_
          rintro e w2 ⟨rfl, hw2⟩
          have zw2 := hw2.size
          have bw2 := below_of (w := w) (by go_grown) hw2
          try simp at zw2
          have hw1b := below_of (w := w1) (by go_grown) hw2
          obtain ⟨a23a, a23b, a23c, a23d, a23e, a23f, a23z⟩ := cells3 hw1b a22z a22a a22b a22c a22d a22e a22f
          obtain ⟨p23a, p23b, p23c, p23g, p23d, p23e, p23f, p23h, p23z⟩ := cells4 hw1b p22z p22a p22b p22c p22g p22d p22e p22f p22h
          clear a22a a22b a22c a22d a22e a22f a22z p22a p22b p22c p22g p22d p22e p22f p22h p22z hw2 hw1b
          go_wp2_with fail
          refine ((CX _ (he.go (by go_grown))).out).mono ?_
          rintro e w3 ⟨rfl, hw3⟩
          have zw3 := hw3.size
          have bw3 := below_of (w := w) (by go_grown) hw3
          try simp at zw3
          have hw2b := below_of (w := w2) (by go_grown) hw3
          obtain ⟨a24a, a24b, a24c, a24d, a24e, a24f, a24z⟩ := cells3 hw2b a23z a23a a23b a23c a23d a23e a23f
          obtain ⟨p24a, p24b, p24c, p24g, p24d, p24e, p24f, p24h, p24z⟩ := cells4 hw2b p23z p23a p23b p23c p23g p23d p23e p23f p23h
          clear a23a a23b a23c a23d a23e a23f a23z p23a p23b p23c p23g p23d p23e p23f p23h p23z hw3 hw2b
          go_wp2_with fail
          refine (printAddr_any p.a _ (he.go (by go_grown))).mono ?_
          rintro e w4 ⟨rfl, hw4⟩
          have zw4 := hw4.size
          have bw4 := below_of (w := w) (by go_grown) hw4
          try simp at zw4
          have hw3b := below_of (w := w3) (by go_grown) hw4
          obtain ⟨a25a, a25b, a25c, a25d, a25e, a25f, a25z⟩ := cells3 hw3b a24z a24a a24b a24c a24d a24e a24f
          obtain ⟨p25a, p25b, p25c, p25g, p25d, p25e, p25f, p25h, p25z⟩ := cells4 hw3b p24z p24a p24b p24c p24g p24d p24e p24f p24h
          obtain ⟨x25a, x25b, x25c, x25d, x25e, x25f, x25z⟩ := cells3 (b := w3.heap.size) hw4 (by go_size) (by go_simp <;> rfl) (by go_simp <;> rfl) (by go_simp <;> rfl) (by go_simp <;> rfl) (by go_simp <;> rfl) (by go_simp <;> rfl)
          clear a24a a24b a24c a24d a24e a24f a24z p24a p24b p24c p24g p24d p24e p24f p24h p24z hw4 hw3b
          go_wp2_with fail
          refine (noslash_any p.a _ (he.go (by go_grown))).mono ?_
          rintro e w5 ⟨rfl, hw5⟩
          have zw5 := hw5.size
          have bw5 := below_of (w := w) (by go_grown) hw5
          try simp at zw5
          have hw4b := below_of (w := w4) (by go_grown) hw5
          obtain ⟨a26a, a26b, a26c, a26d, a26e, a26f, a26z⟩ := cells3 hw4b a25z a25a a25b a25c a25d a25e a25f
          obtain ⟨p26a, p26b, p26c, p26g, p26d, p26e, p26f, p26h, p26z⟩ := cells4 hw4b p25z p25a p25b p25c p25g p25d p25e p25f p25h
          obtain ⟨x26a, x26b, x26c, x26d, x26e, x26f, x26z⟩ := cells3 hw4b x25z x25a x25b x25c x25d x25e x25f
          clear a25a a25b a25c a25d a25e a25f a25z p25a p25b p25c p25g p25d p25e p25f p25h p25z x25a x25b x25c x25d x25e x25f x25z hw5 hw4b
          go_wp2_with fail
          refine (printAddr_any p.a _ (he.go (by go_grown))).mono ?_
          rintro e w6 ⟨rfl, hw6⟩
          have zw6 := hw6.size
          have bw6 := below_of (w := w) (by go_grown) hw6
          try simp at zw6
          have hw5b := below_of (w := w5) (by go_grown) hw6
          obtain ⟨a27a, a27b, a27c, a27d, a27e, a27f, a27z⟩ := cells3 hw5b a26z a26a a26b a26c a26d a26e a26f
          obtain ⟨p27a, p27b, p27c, p27g, p27d, p27e, p27f, p27h, p27z⟩ := cells4 hw5b p26z p26a p26b p26c p26g p26d p26e p26f p26h
          obtain ⟨x27a, x27b, x27c, x27d, x27e, x27f, x27z⟩ := cells3 hw5b x26z x26a x26b x26c x26d x26e x26f
          obtain ⟨q27a, q27b, q27c, q27g, q27d, q27e, q27f, q27h, q27z⟩ := cells4 (b := w5.heap.size) hw6 (by go_size) (by go_simp <;> rfl) (by go_simp <;> rfl) (by go_simp <;> rfl) (by go_simp <;> rfl) (by go_simp <;> rfl) (by go_simp <;> rfl) (by go_simp <;> rfl) (by go_simp <;> rfl)
          clear a26a a26b a26c a26d a26e a26f a26z p26a p26b p26c p26g p26d p26e p26f p26h p26z x26a x26b x26c x26d x26e x26f x26z hw6 hw5b
          go_wp2_with fail
          refine (slashend_any p.a _ (he.go (by go_grown))).mono ?_
          rintro e w7 ⟨rfl, hw7⟩
          have zw7 := hw7.size
          have bw7 := below_of (w := w) (by go_grown) hw7
          try simp at zw7
          have hw6b := below_of (w := w6) (by go_grown) hw7
          obtain ⟨a28a, a28b, a28c, a28d, a28e, a28f, a28z⟩ := cells3 hw6b a27z a27a a27b a27c a27d a27e a27f
          obtain ⟨p28a, p28b, p28c, p28g, p28d, p28e, p28f, p28h, p28z⟩ := cells4 hw6b p27z p27a p27b p27c p27g p27d p27e p27f p27h
          obtain ⟨x28a, x28b, x28c, x28d, x28e, x28f, x28z⟩ := cells3 hw6b x27z x27a x27b x27c x27d x27e x27f
          obtain ⟨q28a, q28b, q28c, q28g, q28d, q28e, q28f, q28h, q28z⟩ := cells4 hw6b q27z q27a q27b q27c q27g q27d q27e q27f q27h
          clear a27a a27b a27c a27d a27e a27f a27z p27a p27b p27c p27g p27d p27e p27f p27h p27z x27a x27b x27c x27d x27e x27f x27z q27a q27b q27c q27g q27d q27e q27f q27h q27z hw7 hw6b
          go_wp2
          go_ret
          refine ⟨rfl, ?_⟩
          go_grown
        · rcases t46 with rfl | n46
          · clear hbad hd hl hu
            skip
            go_enter Tryd.func8, Tryd.ntmps8
            go_wp2_with fail
            refine (awake3_any _ (he.go (by go_grown))).mono ?_
            rintro e w1 ⟨rfl, hw1⟩
            have zw1 := hw1.size
            have bw1 := below_of (w := w) (by go_grown) hw1
            try simp at zw1
            obtain ⟨a29a, a29b, a29c, a29d, a29e, a29f, a29z⟩ := cells3 (b := w.heap.size) hw1 (by go_size) (by go_simp <;> rfl) (by go_simp <;> rfl) (by go_simp <;> rfl) (by go_simp <;> rfl) (by go_simp <;> rfl) (by go_simp <;> rfl)
            obtain ⟨p29a, p29b, p29c, p29g, p29d, p29e, p29f, p29h, p29z⟩ := cells4 (b := w.heap.size + 1) hw1 (by go_size) (by go_simp <;> rfl) (by go_simp <;> rfl) (by go_simp <;> rfl) (by go_simp <;> rfl) (by go_simp <;> rfl) (by go_simp <;> rfl) (by go_simp <;> rfl) (by go_simp <;> rfl)
            clear hw1
            go_wp2_with fail
            refine (printAddr_any a _ (he.go (by go_grown))).mono ?_
            rintro e w2 ⟨rfl, hw2⟩
            have zw2 := hw2.size
            have bw2 := below_of (w := w) (by go_grown) hw2
            try simp at zw2
            have hw1b := below_of (w := w1) (by go_grown) hw2
            obtain ⟨a30a, a30b, a30c, a30d, a30e, a30f, a30z⟩ := cells3 hw1b a29z a29a a29b a29c a29d a29e a29f
            obtain ⟨p30a, p30b, p30c, p30g, p30d, p30e, p30f, p30h, p30z⟩ := cells4 hw1b p29z p29a p29b p29c p29g p29d p29e p29f p29h
            clear a29a a29b a29c a29d a29e a29f a29z p29a p29b p29c p29g p29d p29e p29f p29h p29z hw2 hw1b
            go_wp2_with fail
            refine ((CX _ (he.go (by go_grown))).out).mono ?_
            rintro e w3 ⟨rfl, hw3⟩
            have zw3 := hw3.size
            have bw3 := below_of (w := w) (by go_grown) hw3
            try simp at zw3
            have hw2b := below_of (w := w2) (by go_grown) hw3
            obtain ⟨a31a, a31b, a31c, a31d, a31e, a31f, a31z⟩ := cells3 hw2b a30z a30a a30b a30c a30d a30e a30f
            obtain ⟨p31a, p31b, p31c, p31g, p31d, p31e, p31f, p31h, p31z⟩ := cells4 hw2b p30z p30a p30b p30c p30g p30d p30e p30f p30h
            clear a30a a30b a30c a30d a30e a30f a30z p30a p30b p30c p30g p30d p30e p30f p30h p30z hw3 hw2b
            go_wp2_with fail
            refine (printAddr_any p.a _ (he.go (by go_grown))).mono ?_
            rintro e w4 ⟨rfl, hw4⟩
            have zw4 := hw4.size
            have bw4 := below_of (w := w) (by go_grown) hw4
            try simp at zw4
            have hw3b := below_of (w := w3) (by go_grown) hw4
            obtain ⟨a32a, a32b, a32c, a32d, a32e, a32f, a32z⟩ := cells3 hw3b a31z a31a a31b a31c a31d a31e a31f
            obtain ⟨p32a, p32b, p32c, p32g, p32d, p32e, p32f, p32h, p32z⟩ := cells4 hw3b p31z p31a p31b p31c p31g p31d p31e p31f p31h
            obtain ⟨x32a, x32b, x32c, x32d, x32e, x32f, x32z⟩ := cells3 (b := w3.heap.size) hw4 (by go_size) (by go_simp <;> rfl) (by go_simp <;> rfl) (by go_simp <;> rfl) (by go_simp <;> rfl) (by go_simp <;> rfl) (by go_simp <;> rfl)
            clear a31a a31b a31c a31d a31e a31f a31z p31a p31b p31c p31g p31d p31e p31f p31h p31z hw4 hw3b
            go_wp2_with fail
            refine (noslash_any p.a _ (he.go (by go_grown))).mono ?_
            rintro e w5 ⟨rfl, hw5⟩
            have zw5 := hw5.size
            have bw5 := below_of (w := w) (by go_grown) hw5
            try simp at zw5
            have hw4b := below_of (w := w4) (by go_grown) hw5
            obtain ⟨a33a, a33b, a33c, a33d, a33e, a33f, a33z⟩ := cells3 hw4b a32z a32a a32b a32c a32d a32e a32f
            obtain ⟨p33a, p33b, p33c, p33g, p33d, p33e, p33f, p33h, p33z⟩ := cells4 hw4b p32z p32a p32b p32c p32g p32d p32e p32f p32h
            obtain ⟨x33a, x33b, x33c, x33d, x33e, x33f, x33z⟩ := cells3 hw4b x32z x32a x32b x32c x32d x32e x32f
            clear a32a a32b a32c a32d a32e a32f a32z p32a p32b p32c p32g p32d p32e p32f p32h p32z x32a x32b x32c x32d x32e x32f x32z hw5 hw4b
            go_wp2_with fail
            refine (printAddr_any p.a _ (he.go (by go_grown))).mono ?_
            rintro e w6 ⟨rfl, hw6⟩
            have zw6 := hw6.size
            have bw6 := below_of (w := w) (by go_grown) hw6
            try simp at zw6
            have hw5b := below_of (w := w5) (by go_grown) hw6
            obtain ⟨a34a, a34b, a34c, a34d, a34e, a34f, a34z⟩ := cells3 hw5b a33z a33a a33b a33c a33d a33e a33f
            obtain ⟨p34a, p34b, p34c, p34g, p34d, p34e, p34f, p34h, p34z⟩ := cells4 hw5b p33z p33a p33b p33c p33g p33d p33e p33f p33h
            obtain ⟨x34a, x34b, x34c, x34d, x34e, x34f, x34z⟩ := cells3 hw5b x33z x33a x33b x33c x33d x33e x33f
            obtain ⟨q34a, q34b, q34c, q34g, q34d, q34e, q34f, q34h, q34z⟩ := cells4 (b := w5.heap.size) hw6 (by go_size) (by go_simp <;> rfl) (by go_simp <;> rfl) (by go_simp <;> rfl) (by go_simp <;> rfl) (by go_simp <;> rfl) (by go_simp <;> rfl) (by go_simp <;> rfl) (by go_simp <;> rfl)
            clear a33a a33b a33c a33d a33e a33f a33z p33a p33b p33c p33g p33d p33e p33f p33h p33z x33a x33b x33c x33d x33e x33f x33z hw6 hw5b
            go_wp2_with fail
            refine (slashend_any p.a _ (he.go (by go_grown))).mono ?_
            rintro e w7 ⟨rfl, hw7⟩
            have zw7 := hw7.size
            have bw7 := below_of (w := w) (by go_grown) hw7
            try simp at zw7
            have hw6b := below_of (w := w6) (by go_grown) hw7
            obtain ⟨a35a, a35b, a35c, a35d, a35e, a35f, a35z⟩ := cells3 hw6b a34z a34a a34b a34c a34d a34e a34f
            obtain ⟨p35a, p35b, p35c, p35g, p35d, p35e, p35f, p35h, p35z⟩ := cells4 hw6b p34z p34a p34b p34c p34g p34d p34e p34f p34h
            obtain ⟨x35a, x35b, x35c, x35d, x35e, x35f, x35z⟩ := cells3 hw6b x34z x34a x34b x34c x34d x34e x34f
            obtain ⟨q35a, q35b, q35c, q35g, q35d, q35e, q35f, q35h, q35z⟩ := cells4 hw6b q34z q34a q34b q34c q34g q34d q34e q34f q34h
            clear a34a a34b a34c a34d a34e a34f a34z p34a p34b p34c p34g p34d p34e p34f p34h p34z x34a x34b x34c x34d x34e x34f x34z q34a q34b q34c q34g q34d q34e q34f q34h q34z hw7 hw6b
            go_wp2
            go_ret
            refine ⟨rfl, ?_⟩
            go_grown
          · obtain ⟨rfl, rfl, rfl, rfl⟩ := hbad.resolve_left (by omega)
            have m58 : (c != 58) = true := by rw [bne_iff_ne]; exact n58
            have m46 : (c != 46) = true := by rw [bne_iff_ne]; exact n46
            clear hbad
            by_cases r1 : 48 ≤ c
            · have r2 : ¬ c ≤ 57 := by omega
              by_cases r5 : 65 ≤ c
              · have r6 : ¬ c ≤ 70 := by omega
                by_cases r3 : 97 ≤ c
                · have r4 : ¬ c ≤ 102 := by omega
                  clear hd hl hu
                  skip
                  go_enter Tryd.func8, Tryd.ntmps8
                  go_wp2_with fail
                  refine (awake3_any _ (he.go (by go_grown))).mono ?_
                  rintro e w1 ⟨rfl, hw1⟩
                  have zw1 := hw1.size
                  have bw1 := below_of (w := w) (by go_grown) hw1
                  try simp at zw1
                  obtain ⟨a36a, a36b, a36c, a36d, a36e, a36f, a36z⟩ := cells3 (b := w.heap.size) hw1 (by go_size) (by go_simp <;> rfl) (by go_simp <;> rfl) (by go_simp <;> rfl) (by go_simp <;> rfl) (by go_simp <;> rfl) (by go_simp <;> rfl)
                  obtain ⟨p36a, p36b, p36c, p36g, p36d, p36e, p36f, p36h, p36z⟩ := cells4 (b := w.heap.size + 1) hw1 (by go_size) (by go_simp <;> rfl) (by go_simp <;> rfl) (by go_simp <;> rfl) (by go_simp <;> rfl) (by go_simp <;> rfl) (by go_simp <;> rfl) (by go_simp <;> rfl) (by go_simp <;> rfl)
                  clear hw1
                  go_wp2_with fail
                  refine (printAddr_any a _ (he.go (by go_grown))).mono ?_
                  rintro e w2 ⟨rfl, hw2⟩
                  have zw2 := hw2.size
                  have bw2 := below_of (w := w) (by go_grown) hw2
                  try simp at zw2
                  have hw1b := below_of (w := w1) (by go_grown) hw2
                  obtain ⟨a37a, a37b, a37c, a37d, a37e, a37f, a37z⟩ := cells3 hw1b a36z a36a a36b a36c a36d a36e a36f
                  obtain ⟨p37a, p37b, p37c, p37g, p37d, p37e, p37f, p37h, p37z⟩ := cells4 hw1b p36z p36a p36b p36c p36g p36d p36e p36f p36h
                  clear a36a a36b a36c a36d a36e a36f a36z p36a p36b p36c p36g p36d p36e p36f p36h p36z hw2 hw1b
                  go_wp2_with fail
                  refine ((CX _ (he.go (by go_grown))).out).mono ?_
                  rintro e w3 ⟨rfl, hw3⟩
                  have zw3 := hw3.size
                  have bw3 := below_of (w := w) (by go_grown) hw3
                  try simp at zw3
                  have hw2b := below_of (w := w2) (by go_grown) hw3
                  obtain ⟨a38a, a38b, a38c, a38d, a38e, a38f, a38z⟩ := cells3 hw2b a37z a37a a37b a37c a37d a37e a37f
                  obtain ⟨p38a, p38b, p38c, p38g, p38d, p38e, p38f, p38h, p38z⟩ := cells4 hw2b p37z p37a p37b p37c p37g p37d p37e p37f p37h
                  clear a37a a37b a37c a37d a37e a37f a37z p37a p37b p37c p37g p37d p37e p37f p37h p37z hw3 hw2b
                  go_wp2_with fail
                  refine (printAddr_any p.a _ (he.go (by go_grown))).mono ?_
                  rintro e w4 ⟨rfl, hw4⟩
                  have zw4 := hw4.size
                  have bw4 := below_of (w := w) (by go_grown) hw4
                  try simp at zw4
                  have hw3b := below_of (w := w3) (by go_grown) hw4
                  obtain ⟨a39a, a39b, a39c, a39d, a39e, a39f, a39z⟩ := cells3 hw3b a38z a38a a38b a38c a38d a38e a38f
                  obtain ⟨p39a, p39b, p39c, p39g, p39d, p39e, p39f, p39h, p39z⟩ := cells4 hw3b p38z p38a p38b p38c p38g p38d p38e p38f p38h
                  obtain ⟨x39a, x39b, x39c, x39d, x39e, x39f, x39z⟩ := cells3 (b := w3.heap.size) hw4 (by go_size) (by go_simp <;> rfl) (by go_simp <;> rfl) (by go_simp <;> rfl) (by go_simp <;> rfl) (by go_simp <;> rfl) (by go_simp <;> rfl)
                  clear a38a a38b a38c a38d a38e a38f a38z p38a p38b p38c p38g p38d p38e p38f p38h p38z hw4 hw3b
                  go_wp2_with fail
                  refine (noslash_any p.a _ (he.go (by go_grown))).mono ?_
                  rintro e w5 ⟨rfl, hw5⟩
                  have zw5 := hw5.size
                  have bw5 := below_of (w := w) (by go_grown) hw5
                  try simp at zw5
                  have hw4b := below_of (w := w4) (by go_grown) hw5
                  obtain ⟨a40a, a40b, a40c, a40d, a40e, a40f, a40z⟩ := cells3 hw4b a39z a39a a39b a39c a39d a39e a39f
                  obtain ⟨p40a, p40b, p40c, p40g, p40d, p40e, p40f, p40h, p40z⟩ := cells4 hw4b p39z p39a p39b p39c p39g p39d p39e p39f p39h
                  obtain ⟨x40a, x40b, x40c, x40d, x40e, x40f, x40z⟩ := cells3 hw4b x39z x39a x39b x39c x39d x39e x39f
                  clear a39a a39b a39c a39d a39e a39f a39z p39a p39b p39c p39g p39d p39e p39f p39h p39z x39a x39b x39c x39d x39e x39f x39z hw5 hw4b
                  go_wp2_with fail
                  refine (printAddr_any p.a _ (he.go (by go_grown))).mono ?_
                  rintro e w6 ⟨rfl, hw6⟩
                  have zw6 := hw6.size
                  have bw6 := below_of (w := w) (by go_grown) hw6
                  try simp at zw6
                  have hw5b := below_of (w := w5) (by go_grown) hw6
                  obtain ⟨a41a, a41b, a41c, a41d, a41e, a41f, a41z⟩ := cells3 hw5b a40z a40a a40b a40c a40d a40e a40f
                  obtain ⟨p41a, p41b, p41c, p41g, p41d, p41e, p41f, p41h, p41z⟩ := cells4 hw5b p40z p40a p40b p40c p40g p40d p40e p40f p40h
                  obtain ⟨x41a, x41b, x41c, x41d, x41e, x41f, x41z⟩ := cells3 hw5b x40z x40a x40b x40c x40d x40e x40f
                  obtain ⟨q41a, q41b, q41c, q41g, q41d, q41e, q41f, q41h, q41z⟩ := cells4 (b := w5.heap.size) hw6 (by go_size) (by go_simp <;> rfl) (by go_simp <;> rfl) (by go_simp <;> rfl) (by go_simp <;> rfl) (by go_simp <;> rfl) (by go_simp <;> rfl) (by go_simp <;> rfl) (by go_simp <;> rfl)
                  clear a40a a40b a40c a40d a40e a40f a40z p40a p40b p40c p40g p40d p40e p40f p40h p40z x40a x40b x40c x40d x40e x40f x40z hw6 hw5b
                  go_wp2_with fail
                  refine (slashend_any p.a _ (he.go (by go_grown))).mono ?_
                  rintro e w7 ⟨rfl, hw7⟩
                  have zw7 := hw7.size
                  have bw7 := below_of (w := w) (by go_grown) hw7
                  try simp at zw7
                  have hw6b := below_of (w := w6) (by go_grown) hw7
                  obtain ⟨a42a, a42b, a42c, a42d, a42e, a42f, a42z⟩ := cells3 hw6b a41z a41a a41b a41c a41d a41e a41f
                  obtain ⟨p42a, p42b, p42c, p42g, p42d, p42e, p42f, p42h, p42z⟩ := cells4 hw6b p41z p41a p41b p41c p41g p41d p41e p41f p41h
                  obtain ⟨x42a, x42b, x42c, x42d, x42e, x42f, x42z⟩ := cells3 hw6b x41z x41a x41b x41c x41d x41e x41f
                  obtain ⟨q42a, q42b, q42c, q42g, q42d, q42e, q42f, q42h, q42z⟩ := cells4 hw6b q41z q41a q41b q41c q41g q41d q41e q41f q41h
                  clear a41a a41b a41c a41d a41e a41f a41z p41a p41b p41c p41g p41d p41e p41f p41h p41z x41a x41b x41c x41d x41e x41f x41z q41a q41b q41c q41g q41d q41e q41f q41h q41z hw7 hw6b
                  go_wp2
                  go_ret
                  refine ⟨rfl, ?_⟩
                  go_grown
                · clear hd hl hu
                  skip
                  go_enter Tryd.func8, Tryd.ntmps8
                  go_wp2_with fail
                  refine (awake3_any _ (he.go (by go_grown))).mono ?_
                  rintro e w1 ⟨rfl, hw1⟩
                  have zw1 := hw1.size
                  have bw1 := below_of (w := w) (by go_grown) hw1
                  try simp at zw1
                  obtain ⟨a43a, a43b, a43c, a43d, a43e, a43f, a43z⟩ := cells3 (b := w.heap.size) hw1 (by go_size) (by go_simp <;> rfl) (by go_simp <;> rfl) (by go_simp <;> rfl) (by go_simp <;> rfl) (by go_simp <;> rfl) (by go_simp <;> rfl)
                  obtain ⟨p43a, p43b, p43c, p43g, p43d, p43e, p43f, p43h, p43z⟩ := cells4 (b := w.heap.size + 1) hw1 (by go_size) (by go_simp <;> rfl) (by go_simp <;> rfl) (by go_simp <;> rfl) (by go_simp <;> rfl) (by go_simp <;> rfl) (by go_simp <;> rfl) (by go_simp <;> rfl) (by go_simp <;> rfl)
                  clear hw1
                  go_wp2_with fail
                  refine (printAddr_any a _ (he.go (by go_grown))).mono ?_
                  rintro e w2 ⟨rfl, hw2⟩
                  have zw2 := hw2.size
                  have bw2 := below_of (w := w) (by go_grown) hw2
                  try simp at zw2
                  have hw1b := below_of (w := w1) (by go_grown) hw2
                  obtain ⟨a44a, a44b, a44c, a44d, a44e, a44f, a44z⟩ := cells3 hw1b a43z a43a a43b a43c a43d a43e a43f
                  obtain ⟨p44a, p44b, p44c, p44g, p44d, p44e, p44f, p44h, p44z⟩ := cells4 hw1b p43z p43a p43b p43c p43g p43d p43e p43f p43h
                  clear a43a a43b a43c a43d a43e a43f a43z p43a p43b p43c p43g p43d p43e p43f p43h p43z hw2 hw1b
                  go_wp2_with fail
                  refine ((CX _ (he.go (by go_grown))).out).mono ?_
                  rintro e w3 ⟨rfl, hw3⟩
                  have zw3 := hw3.size
                  have bw3 := below_of (w := w) (by go_grown) hw3
                  try simp at zw3
                  have hw2b := below_of (w := w2) (by go_grown) hw3
                  obtain ⟨a45a, a45b, a45c, a45d, a45e, a45f, a45z⟩ := cells3 hw2b a44z a44a a44b a44c a44d a44e a44f
                  obtain ⟨p45a, p45b, p45c, p45g, p45d, p45e, p45f, p45h, p45z⟩ := cells4 hw2b p44z p44a p44b p44c p44g p44d p44e p44f p44h
                  clear a44a a44b a44c a44d a44e a44f a44z p44a p44b p44c p44g p44d p44e p44f p44h p44z hw3 hw2b
                  go_wp2_with fail
                  refine (printAddr_any p.a _ (he.go (by go_grown))).mono ?_
                  rintro e w4 ⟨rfl, hw4⟩
                  have zw4 := hw4.size
                  have bw4 := below_of (w := w) (by go_grown) hw4
                  try simp at zw4
                  have hw3b := below_of (w := w3) (by go_grown) hw4
                  obtain ⟨a46a, a46b, a46c, a46d, a46e, a46f, a46z⟩ := cells3 hw3b a45z a45a a45b a45c a45d a45e a45f
                  obtain ⟨p46a, p46b, p46c, p46g, p46d, p46e, p46f, p46h, p46z⟩ := cells4 hw3b p45z p45a p45b p45c p45g p45d p45e p45f p45h
                  obtain ⟨x46a, x46b, x46c, x46d, x46e, x46f, x46z⟩ := cells3 (b := w3.heap.size) hw4 (by go_size) (by go_simp <;> rfl) (by go_simp <;> rfl) (by go_simp <;> rfl) (by go_simp <;> rfl) (by go_simp <;> rfl) (by go_simp <;> rfl)
                  clear a45a a45b a45c a45d a45e a45f a45z p45a p45b p45c p45g p45d p45e p45f p45h p45z hw4 hw3b
                  go_wp2_with fail
                  refine (noslash_any p.a _ (he.go (by go_grown))).mono ?_
                  rintro e w5 ⟨rfl, hw5⟩
                  have zw5 := hw5.size
                  have bw5 := below_of (w := w) (by go_grown) hw5
                  try simp at zw5
                  have hw4b := below_of (w := w4) (by go_grown) hw5
                  obtain ⟨a47a, a47b, a47c, a47d, a47e, a47f, a47z⟩ := cells3 hw4b a46z a46a a46b a46c a46d a46e a46f
                  obtain ⟨p47a, p47b, p47c, p47g, p47d, p47e, p47f, p47h, p47z⟩ := cells4 hw4b p46z p46a p46b p46c p46g p46d p46e p46f p46h
                  obtain ⟨x47a, x47b, x47c, x47d, x47e, x47f, x47z⟩ := cells3 hw4b x46z x46a x46b x46c x46d x46e x46f
                  clear a46a a46b a46c a46d a46e a46f a46z p46a p46b p46c p46g p46d p46e p46f p46h p46z x46a x46b x46c x46d x46e x46f x46z hw5 hw4b
                  go_wp2_with fail
                  refine (printAddr_any p.a _ (he.go (by go_grown))).mono ?_
                  rintro e w6 ⟨rfl, hw6⟩
                  have zw6 := hw6.size
                  have bw6 := below_of (w := w) (by go_grown) hw6
                  try simp at zw6
                  have hw5b := below_of (w := w5) (by go_grown) hw6
                  obtain ⟨a48a, a48b, a48c, a48d, a48e, a48f, a48z⟩ := cells3 hw5b a47z a47a a47b a47c a47d a47e a47f
                  obtain ⟨p48a, p48b, p48c, p48g, p48d, p48e, p48f, p48h, p48z⟩ := cells4 hw5b p47z p47a p47b p47c p47g p47d p47e p47f p47h
                  obtain ⟨x48a, x48b, x48c, x48d, x48e, x48f, x48z⟩ := cells3 hw5b x47z x47a x47b x47c x47d x47e x47f
                  obtain ⟨q48a, q48b, q48c, q48g, q48d, q48e, q48f, q48h, q48z⟩ := cells4 (b := w5.heap.size) hw6 (by go_size) (by go_simp <;> rfl) (by go_simp <;> rfl) (by go_simp <;> rfl) (by go_simp <;> rfl) (by go_simp <;> rfl) (by go_simp <;> rfl) (by go_simp <;> rfl) (by go_simp <;> rfl)
                  clear a47a a47b a47c a47d a47e a47f a47z p47a p47b p47c p47g p47d p47e p47f p47h p47z x47a x47b x47c x47d x47e x47f x47z hw6 hw5b
                  go_wp2_with fail
                  refine (slashend_any p.a _ (he.go (by go_grown))).mono ?_
                  rintro e w7 ⟨rfl, hw7⟩
                  have zw7 := hw7.size
                  have bw7 := below_of (w := w) (by go_grown) hw7
                  try simp at zw7
                  have hw6b := below_of (w := w6) (by go_grown) hw7
                  obtain ⟨a49a, a49b, a49c, a49d, a49e, a49f, a49z⟩ := cells3 hw6b a48z a48a a48b a48c a48d a48e a48f
                  obtain ⟨p49a, p49b, p49c, p49g, p49d, p49e, p49f, p49h, p49z⟩ := cells4 hw6b p48z p48a p48b p48c p48g p48d p48e p48f p48h
                  obtain ⟨x49a, x49b, x49c, x49d, x49e, x49f, x49z⟩ := cells3 hw6b x48z x48a x48b x48c x48d x48e x48f
                  obtain ⟨q49a, q49b, q49c, q49g, q49d, q49e, q49f, q49h, q49z⟩ := cells4 hw6b q48z q48a q48b q48c q48g q48d q48e q48f q48h
                  clear a48a a48b a48c a48d a48e a48f a48z p48a p48b p48c p48g p48d p48e p48f p48h p48z x48a x48b x48c x48d x48e x48f x48z q48a q48b q48c q48g q48d q48e q48f q48h q48z hw7 hw6b
                  go_wp2
                  go_ret
                  refine ⟨rfl, ?_⟩
                  go_grown
              · have r3 : ¬ 97 ≤ c := by omega
                clear hd hl hu
                skip
                go_enter Tryd.func8, Tryd.ntmps8
                go_wp2_with fail
                refine (awake3_any _ (he.go (by go_grown))).mono ?_
                rintro e w1 ⟨rfl, hw1⟩
                have zw1 := hw1.size
                have bw1 := below_of (w := w) (by go_grown) hw1
                try simp at zw1
                obtain ⟨a50a, a50b, a50c, a50d, a50e, a50f, a50z⟩ := cells3 (b := w.heap.size) hw1 (by go_size) (by go_simp <;> rfl) (by go_simp <;> rfl) (by go_simp <;> rfl) (by go_simp <;> rfl) (by go_simp <;> rfl) (by go_simp <;> rfl)
                obtain ⟨p50a, p50b, p50c, p50g, p50d, p50e, p50f, p50h, p50z⟩ := cells4 (b := w.heap.size + 1) hw1 (by go_size) (by go_simp <;> rfl) (by go_simp <;> rfl) (by go_simp <;> rfl) (by go_simp <;> rfl) (by go_simp <;> rfl) (by go_simp <;> rfl) (by go_simp <;> rfl) (by go_simp <;> rfl)
                clear hw1
                go_wp2_with fail
                refine (printAddr_any a _ (he.go (by go_grown))).mono ?_
                rintro e w2 ⟨rfl, hw2⟩
                have zw2 := hw2.size
                have bw2 := below_of (w := w) (by go_grown) hw2
                try simp at zw2
                have hw1b := below_of (w := w1) (by go_grown) hw2
                obtain ⟨a51a, a51b, a51c, a51d, a51e, a51f, a51z⟩ := cells3 hw1b a50z a50a a50b a50c a50d a50e a50f
                obtain ⟨p51a, p51b, p51c, p51g, p51d, p51e, p51f, p51h, p51z⟩ := cells4 hw1b p50z p50a p50b p50c p50g p50d p50e p50f p50h
                clear a50a a50b a50c a50d a50e a50f a50z p50a p50b p50c p50g p50d p50e p50f p50h p50z hw2 hw1b
                go_wp2_with fail
                refine ((CX _ (he.go (by go_grown))).out).mono ?_
                rintro e w3 ⟨rfl, hw3⟩
                have zw3 := hw3.size
                have bw3 := below_of (w := w) (by go_grown) hw3
                try simp at zw3
                have hw2b := below_of (w := w2) (by go_grown) hw3
                obtain ⟨a52a, a52b, a52c, a52d, a52e, a52f, a52z⟩ := cells3 hw2b a51z a51a a51b a51c a51d a51e a51f
                obtain ⟨p52a, p52b, p52c, p52g, p52d, p52e, p52f, p52h, p52z⟩ := cells4 hw2b p51z p51a p51b p51c p51g p51d p51e p51f p51h
                clear a51a a51b a51c a51d a51e a51f a51z p51a p51b p51c p51g p51d p51e p51f p51h p51z hw3 hw2b
                go_wp2_with fail
                refine (printAddr_any p.a _ (he.go (by go_grown))).mono ?_
                rintro e w4 ⟨rfl, hw4⟩
                have zw4 := hw4.size
                have bw4 := below_of (w := w) (by go_grown) hw4
                try simp at zw4
                have hw3b := below_of (w := w3) (by go_grown) hw4
                obtain ⟨a53a, a53b, a53c, a53d, a53e, a53f, a53z⟩ := cells3 hw3b a52z a52a a52b a52c a52d a52e a52f
                obtain ⟨p53a, p53b, p53c, p53g, p53d, p53e, p53f, p53h, p53z⟩ := cells4 hw3b p52z p52a p52b p52c p52g p52d p52e p52f p52h
                obtain ⟨x53a, x53b, x53c, x53d, x53e, x53f, x53z⟩ := cells3 (b := w3.heap.size) hw4 (by go_size) (by go_simp <;> rfl) (by go_simp <;> rfl) (by go_simp <;> rfl) (by go_simp <;> rfl) (by go_simp <;> rfl) (by go_simp <;> rfl)
                clear a52a a52b a52c a52d a52e a52f a52z p52a p52b p52c p52g p52d p52e p52f p52h p52z hw4 hw3b
                go_wp2_with fail
                refine (noslash_any p.a _ (he.go (by go_grown))).mono ?_
                rintro e w5 ⟨rfl, hw5⟩
                have zw5 := hw5.size
                have bw5 := below_of (w := w) (by go_grown) hw5
                try simp at zw5
                have hw4b := below_of (w := w4) (by go_grown) hw5
                obtain ⟨a54a, a54b, a54c, a54d, a54e, a54f, a54z⟩ := cells3 hw4b a53z a53a a53b a53c a53d a53e a53f
                obtain ⟨p54a, p54b, p54c, p54g, p54d, p54e, p54f, p54h, p54z⟩ := cells4 hw4b p53z p53a p53b p53c p53g p53d p53e p53f p53h
                obtain ⟨x54a, x54b, x54c, x54d, x54e, x54f, x54z⟩ := cells3 hw4b x53z x53a x53b x53c x53d x53e x53f
                clear a53a a53b a53c a53d a53e a53f a53z p53a p53b p53c p53g p53d p53e p53f p53h p53z x53a x53b x53c x53d x53e x53f x53z hw5 hw4b
                go_wp2_with fail
                refine (printAddr_any p.a _ (he.go (by go_grown))).mono ?_
                rintro e w6 ⟨rfl, hw6⟩
                have zw6 := hw6.size
                have bw6 := below_of (w := w) (by go_grown) hw6
                try simp at zw6
                have hw5b := below_of (w := w5) (by go_grown) hw6
                obtain ⟨a55a, a55b, a55c, a55d, a55e, a55f, a55z⟩ := cells3 hw5b a54z a54a a54b a54c a54d a54e a54f
                obtain ⟨p55a, p55b, p55c, p55g, p55d, p55e, p55f, p55h, p55z⟩ := cells4 hw5b p54z p54a p54b p54c p54g p54d p54e p54f p54h
                obtain ⟨x55a, x55b, x55c, x55d, x55e, x55f, x55z⟩ := cells3 hw5b x54z x54a x54b x54c x54d x54e x54f
                obtain ⟨q55a, q55b, q55c, q55g, q55d, q55e, q55f, q55h, q55z⟩ := cells4 (b := w5.heap.size) hw6 (by go_size) (by go_simp <;> rfl) (by go_simp <;> rfl) (by go_simp <;> rfl) (by go_simp <;> rfl) (by go_simp <;> rfl) (by go_simp <;> rfl) (by go_simp <;> rfl) (by go_simp <;> rfl)
                clear a54a a54b a54c a54d a54e a54f a54z p54a p54b p54c p54g p54d p54e p54f p54h p54z x54a x54b x54c x54d x54e x54f x54z hw6 hw5b
                go_wp2_with fail
                refine (slashend_any p.a _ (he.go (by go_grown))).mono ?_
                rintro e w7 ⟨rfl, hw7⟩
                have zw7 := hw7.size
                have bw7 := below_of (w := w) (by go_grown) hw7
                try simp at zw7
                have hw6b := below_of (w := w6) (by go_grown) hw7
                obtain ⟨a56a, a56b, a56c, a56d, a56e, a56f, a56z⟩ := cells3 hw6b a55z a55a a55b a55c a55d a55e a55f
                obtain ⟨p56a, p56b, p56c, p56g, p56d, p56e, p56f, p56h, p56z⟩ := cells4 hw6b p55z p55a p55b p55c p55g p55d p55e p55f p55h
                obtain ⟨x56a, x56b, x56c, x56d, x56e, x56f, x56z⟩ := cells3 hw6b x55z x55a x55b x55c x55d x55e x55f
                obtain ⟨q56a, q56b, q56c, q56g, q56d, q56e, q56f, q56h, q56z⟩ := cells4 hw6b q55z q55a q55b q55c q55g q55d q55e q55f q55h
                clear a55a a55b a55c a55d a55e a55f a55z p55a p55b p55c p55g p55d p55e p55f p55h p55z x55a x55b x55c x55d x55e x55f x55z q55a q55b q55c q55g q55d q55e q55f q55h q55z hw7 hw6b
                go_wp2
                go_ret
                refine ⟨rfl, ?_⟩
                go_grown
            · have r5 : ¬ 65 ≤ c := by omega
              have r3 : ¬ 97 ≤ c := by omega
              clear hd hl hu
              skip
              go_enter Tryd.func8, Tryd.ntmps8
              go_wp2_with fail
              refine (awake3_any _ (he.go (by go_grown))).mono ?_
              rintro e w1 ⟨rfl, hw1⟩
              have zw1 := hw1.size
              have bw1 := below_of (w := w) (by go_grown) hw1
              try simp at zw1
              obtain ⟨a57a, a57b, a57c, a57d, a57e, a57f, a57z⟩ := cells3 (b := w.heap.size) hw1 (by go_size) (by go_simp <;> rfl) (by go_simp <;> rfl) (by go_simp <;> rfl) (by go_simp <;> rfl) (by go_simp <;> rfl) (by go_simp <;> rfl)
              obtain ⟨p57a, p57b, p57c, p57g, p57d, p57e, p57f, p57h, p57z⟩ := cells4 (b := w.heap.size + 1) hw1 (by go_size) (by go_simp <;> rfl) (by go_simp <;> rfl) (by go_simp <;> rfl) (by go_simp <;> rfl) (by go_simp <;> rfl) (by go_simp <;> rfl) (by go_simp <;> rfl) (by go_simp <;> rfl)
              clear hw1
              go_wp2_with fail
              refine (printAddr_any a _ (he.go (by go_grown))).mono ?_
              rintro e w2 ⟨rfl, hw2⟩
              have zw2 := hw2.size
              have bw2 := below_of (w := w) (by go_grown) hw2
              try simp at zw2
              have hw1b := below_of (w := w1) (by go_grown) hw2
              obtain ⟨a58a, a58b, a58c, a58d, a58e, a58f, a58z⟩ := cells3 hw1b a57z a57a a57b a57c a57d a57e a57f
              obtain ⟨p58a, p58b, p58c, p58g, p58d, p58e, p58f, p58h, p58z⟩ := cells4 hw1b p57z p57a p57b p57c p57g p57d p57e p57f p57h
              clear a57a a57b a57c a57d a57e a57f a57z p57a p57b p57c p57g p57d p57e p57f p57h p57z hw2 hw1b
              go_wp2_with fail
              refine ((CX _ (he.go (by go_grown))).out).mono ?_
              rintro e w3 ⟨rfl, hw3⟩
              have zw3 := hw3.size
              have bw3 := below_of (w := w) (by go_grown) hw3
              try simp at zw3
              have hw2b := below_of (w := w2) (by go_grown) hw3
              obtain ⟨a59a, a59b, a59c, a59d, a59e, a59f, a59z⟩ := cells3 hw2b a58z a58a a58b a58c a58d a58e a58f
              obtain ⟨p59a, p59b, p59c, p59g, p59d, p59e, p59f, p59h, p59z⟩ := cells4 hw2b p58z p58a p58b p58c p58g p58d p58e p58f p58h
              clear a58a a58b a58c a58d a58e a58f a58z p58a p58b p58c p58g p58d p58e p58f p58h p58z hw3 hw2b
              go_wp2_with fail
              refine (printAddr_any p.a _ (he.go (by go_grown))).mono ?_
              rintro e w4 ⟨rfl, hw4⟩
              have zw4 := hw4.size
              have bw4 := below_of (w := w) (by go_grown) hw4
              try simp at zw4
              have hw3b := below_of (w := w3) (by go_grown) hw4
              obtain ⟨a60a, a60b, a60c, a60d, a60e, a60f, a60z⟩ := cells3 hw3b a59z a59a a59b a59c a59d a59e a59f
              obtain ⟨p60a, p60b, p60c, p60g, p60d, p60e, p60f, p60h, p60z⟩ := cells4 hw3b p59z p59a p59b p59c p59g p59d p59e p59f p59h
              obtain ⟨x60a, x60b, x60c, x60d, x60e, x60f, x60z⟩ := cells3 (b := w3.heap.size) hw4 (by go_size) (by go_simp <;> rfl) (by go_simp <;> rfl) (by go_simp <;> rfl) (by go_simp <;> rfl) (by go_simp <;> rfl) (by go_simp <;> rfl)
              clear a59a a59b a59c a59d a59e a59f a59z p59a p59b p59c p59g p59d p59e p59f p59h p59z hw4 hw3b
              go_wp2_with fail
              refine (noslash_any p.a _ (he.go (by go_grown))).mono ?_
              rintro e w5 ⟨rfl, hw5⟩
              have zw5 := hw5.size
              have bw5 := below_of (w := w) (by go_grown) hw5
              try simp at zw5
              have hw4b := below_of (w := w4) (by go_grown) hw5
              obtain ⟨a61a, a61b, a61c, a61d, a61e, a61f, a61z⟩ := cells3 hw4b a60z a60a a60b a60c a60d a60e a60f
              obtain ⟨p61a, p61b, p61c, p61g, p61d, p61e, p61f, p61h, p61z⟩ := cells4 hw4b p60z p60a p60b p60c p60g p60d p60e p60f p60h
              obtain ⟨x61a, x61b, x61c, x61d, x61e, x61f, x61z⟩ := cells3 hw4b x60z x60a x60b x60c x60d x60e x60f
              clear a60a a60b a60c a60d a60e a60f a60z p60a p60b p60c p60g p60d p60e p60f p60h p60z x60a x60b x60c x60d x60e x60f x60z hw5 hw4b
              go_wp2_with fail
              refine (printAddr_any p.a _ (he.go (by go_grown))).mono ?_
              rintro e w6 ⟨rfl, hw6⟩
              have zw6 := hw6.size
              have bw6 := below_of (w := w) (by go_grown) hw6
              try simp at zw6
              have hw5b := below_of (w := w5) (by go_grown) hw6
              obtain ⟨a62a, a62b, a62c, a62d, a62e, a62f, a62z⟩ := cells3 hw5b a61z a61a a61b a61c a61d a61e a61f
              obtain ⟨p62a, p62b, p62c, p62g, p62d, p62e, p62f, p62h, p62z⟩ := cells4 hw5b p61z p61a p61b p61c p61g p61d p61e p61f p61h
              obtain ⟨x62a, x62b, x62c, x62d, x62e, x62f, x62z⟩ := cells3 hw5b x61z x61a x61b x61c x61d x61e x61f
              obtain ⟨q62a, q62b, q62c, q62g, q62d, q62e, q62f, q62h, q62z⟩ := cells4 (b := w5.heap.size) hw6 (by go_size) (by go_simp <;> rfl) (by go_simp <;> rfl) (by go_simp <;> rfl) (by go_simp <;> rfl) (by go_simp <;> rfl) (by go_simp <;> rfl) (by go_simp <;> rfl) (by go_simp <;> rfl)
              clear a61a a61b a61c a61d a61e a61f a61z p61a p61b p61c p61g p61d p61e p61f p61h p61z x61a x61b x61c x61d x61e x61f x61z hw6 hw5b
              go_wp2_with fail
              refine (slashend_any p.a _ (he.go (by go_grown))).mono ?_
              rintro e w7 ⟨rfl, hw7⟩
              have zw7 := hw7.size
              have bw7 := below_of (w := w) (by go_grown) hw7
              try simp at zw7
              have hw6b := below_of (w := w6) (by go_grown) hw7
              obtain ⟨a63a, a63b, a63c, a63d, a63e, a63f, a63z⟩ := cells3 hw6b a62z a62a a62b a62c a62d a62e a62f
              obtain ⟨p63a, p63b, p63c, p63g, p63d, p63e, p63f, p63h, p63z⟩ := cells4 hw6b p62z p62a p62b p62c p62g p62d p62e p62f p62h
              obtain ⟨x63a, x63b, x63c, x63d, x63e, x63f, x63z⟩ := cells3 hw6b x62z x62a x62b x62c x62d x62e x62f
              obtain ⟨q63a, q63b, q63c, q63g, q63d, q63e, q63f, q63h, q63z⟩ := cells4 hw6b q62z q62a q62b q62c q62g q62d q62e q62f q62h
              clear a62a a62b a62c a62d a62e a62f a62z p62a p62b p62c p62g p62d p62e p62f p62h p62z x62a x62b x62c x62d x62e x62f x62z q62a q62b q62c q62g q62d q62e q62f q62h q62z hw7 hw6b
              go_wp2
              go_ret
              refine ⟨rfl, ?_⟩
              go_grown

theorem textErrors_law (a : Ad) (c : Int) (c0 : 0 ≤ c) (c1 : c ≤ 255) (p : Pf) (_h0 : -9223372036854775808 ≤ p.n) (_h1 : p.n ≤ 9223372036854775807) (w : World) (he : Env w) :
    Calls Tryd.prog 8 #[.agg #[.int .u64 (u a.hi), .int .u64 (u a.lo), .bool a.v6], .int .u8 c, .agg #[.int .u64 (u p.a.hi), .int .u64 (u p.a.lo), .bool p.a.v6, .int .i64 p.n]] w fun e w' => e = .returned (.bool true) ∧ Below w.heap.size w w' := by
  obtain ⟨cb, hcb⟩ : ∃ cb : UInt8, (cb.toNat : Int) = c := ⟨UInt8.ofNat c.toNat, by rw [UInt8.toNat_ofNat']; omega⟩
  have hap : (⟨#[cb]⟩ ++ ⟨(printA a).toArray⟩ : ByteArray) = ⟨(cb :: printA a).toArray⟩ := ba_append [cb] (printA a)
  have cp := fun w he => parseAddr_any (⟨#[cb]⟩ ++ ⟨(printA a).toArray⟩) w he (by rw [hap, ba_size]; have := printA_le a; simp only [List.length_cons]; omega)
  have hl : (⟨#[cb]⟩ ++ ⟨(printA a).toArray⟩ : ByteArray).data.toList = cb :: printA a := by rw [hap, bl]
  rw [hl] at cp
  by_cases hg : (48 ≤ c ∧ c ≤ 57) ∨ (97 ≤ c ∧ c ≤ 102) ∨ (65 ≤ c ∧ c ≤ 70) ∨ c = 58 ∨ c = 46
  · exact textErrors_gen a c p cb hcb _ _ _ _ cp (.inl hg) w he
  · have hn : parseA (cb :: printA a) = none := by
      refine parse_bad cb _ ?_ (fun e => ?_) (fun e => ?_)
      · rw [hcb]
        unfold dgo
        simp only [Bool.or_eq_false_iff, decide_eq_false_iff_not]
        omega
      · rw [← e] at hcb
        simp at hcb
        omega
      · rw [← e] at hcb
        simp at hcb
        omega
    rw [hn] at cp
    exact textErrors_gen a c p cb hcb 0 0 false 5 cp (.inr ⟨rfl, rfl, rfl, rfl⟩) w he

end Go.Proofs.YtgmlpcmplglnoaaDoor
