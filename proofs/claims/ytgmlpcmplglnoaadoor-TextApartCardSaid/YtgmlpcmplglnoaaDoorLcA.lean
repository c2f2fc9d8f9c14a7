/-
  TextApart returns true, whatever addresses and prefixes. Condition: the library's tables hold what its text lays.
-/
import Derived.Test.YtgmlpcmplglnoaaDoorTw
import Derived.Test.YtgmlpcmplglnoaaDoorLate
namespace Go.Proofs.YtgmlpcmplglnoaaDoor
open Go.RowKit
set_option maxRecDepth 100000

theorem pof128 (a : Ad) : pof a 128 = ⟨norm a, wid a.v6⟩ := by
  have hw : wid a.v6 = 128 ∨ wid a.v6 = 32 := by cases a.v6 <;> simp [wid]
  have hc : clamp a.v6 128 = wid a.v6 := by unfold clamp; omega
  unfold pof
  rw [hc, ← mask_end a]
  congr 1
  refine mask_eq a a _ _ rfl fun j => ?_
  rw [D_mask, D_mask, hc, show clamp a.v6 (wid a.v6) = wid a.v6 by unfold clamp; omega]
theorem pof128_iff (a b : Ad) : pof a 128 = pof b 128 ↔ norm a = norm b := by
  rw [pof128, pof128]
  constructor
  · intro h
    exact congrArg Pf.a h
  · intro h
    have hv : a.v6 = b.v6 := (show (norm a).v6 = (norm b).v6 by rw [h])
    rw [h, hv]
theorem printA_iff (a b : Ad) : printA a = printA b ↔ norm a = norm b := by
  constructor
  · intro h
    have h1 := parse_print a
    rw [h, parse_print b] at h1
    exact (Option.some.inj h1).symm
  · intro h
    rw [← printA_norm a, h, printA_norm]
theorem printP_iff (p q : Pf) (hp : psane p = true) (hq : psane q = true) : printP p = printP q ↔ p = q := by
  constructor
  · intro h
    have h1 := back_sane p hp
    rw [h, back_sane q hq] at h1
    exact (congrArg Prod.fst h1).symm
  · intro h
    rw [h]

set_option maxHeartbeats 1000000 in
theorem textApart_gen (a b : Ad) (p q : Pf) (c d s t : Bool) (h0 : -9223372036854775808 ≤ p.n) (h1 : p.n ≤ 9223372036854775807) (h2 : -9223372036854775808 ≤ q.n) (h3 : q.n ≤ 9223372036854775807)
    (f1 : (printA a == printA b) = c) (f2 : pfB (u (pof a 128).a.hi) (u (pof a 128).a.lo) (pof a 128).a.v6 (pof a 128).n (u (pof b 128).a.hi) (u (pof b 128).a.lo) (pof b 128).a.v6 (pof b 128).n = c) (hs : psane p = s) (ht : psane q = t) (f3 : s = true → t = true → (printP p == printP q) = d) (f4 : s = true → t = true → pfB (u p.a.hi) (u p.a.lo) p.a.v6 p.n (u q.a.hi) (u q.a.lo) q.a.v6 q.n = d) (w : World) (he : Env w) :
    Calls Tryd.prog 7 #[.agg #[.int .u64 (u a.hi), .int .u64 (u a.lo), .bool a.v6], .agg #[.int .u64 (u b.hi), .int .u64 (u b.lo), .bool b.v6], .agg #[.int .u64 (u p.a.hi), .int .u64 (u p.a.lo), .bool p.a.v6, .int .i64 p.n], .agg #[.int .u64 (u q.a.hi), .int .u64 (u q.a.lo), .bool q.a.v6, .int .i64 q.n]] w fun e w' => e = .returned (.bool true) ∧ Below w.heap.size w w' := by
  cases s
  · clear f3 f4
    cases c
    · skip
      have HA := fun w he => Lib.hid (printAddr_any a w he)
      have HB := fun w he => Lib.hid (printAddr_any b w he)
      have HP := fun w he => Lib.hid (print_any p h0 h1 w he)
      have HQ := fun w he => Lib.hid (print_any q h2 h3 w he)
      go_enter Tryd.func7, Tryd.ntmps7
      go_wp2_with fail
      refine (awake3_any _ (he.go (by go_grown))).mono ?_
      rintro e w1 ⟨rfl, hw1⟩
      have zw1 := hw1.size
      have bw1 := below_of (w := w) (by go_grown) hw1
      try simp at zw1
      obtain ⟨a1a, a1b, a1c, a1d, a1e, a1f, a1z⟩ := cells3 (b := w.heap.size) hw1 (by go_size) (by go_simp <;> rfl) (by go_simp <;> rfl) (by go_simp <;> rfl) (by go_simp <;> rfl) (by go_simp <;> rfl) (by go_simp <;> rfl)
      obtain ⟨b1a, b1b, b1c, b1d, b1e, b1f, b1z⟩ := cells3 (b := w.heap.size + 1) hw1 (by go_size) (by go_simp <;> rfl) (by go_simp <;> rfl) (by go_simp <;> rfl) (by go_simp <;> rfl) (by go_simp <;> rfl) (by go_simp <;> rfl)
      obtain ⟨p1a, p1b, p1c, p1g, p1d, p1e, p1f, p1h, p1z⟩ := cells4 (b := w.heap.size + 1 + 1) hw1 (by go_size) (by go_simp <;> rfl) (by go_simp <;> rfl) (by go_simp <;> rfl) (by go_simp <;> rfl) (by go_simp <;> rfl) (by go_simp <;> rfl) (by go_simp <;> rfl) (by go_simp <;> rfl)
      obtain ⟨q1a, q1b, q1c, q1g, q1d, q1e, q1f, q1h, q1z⟩ := cells4 (b := w.heap.size + 1 + 1 + 1) hw1 (by go_size) (by go_simp <;> rfl) (by go_simp <;> rfl) (by go_simp <;> rfl) (by go_simp <;> rfl) (by go_simp <;> rfl) (by go_simp <;> rfl) (by go_simp <;> rfl) (by go_simp <;> rfl)
      clear hw1
      go_wp2_with fail
      refine (pof_any a 128 _).mono ?_
      rintro e w2 ⟨rfl, hw2⟩
      have zw2 := hw2.size
      have bw2 := below_of (w := w) (by go_grown) hw2
      try simp at zw2
      have hw1b := below_of (w := w1) (by go_grown) hw2
      obtain ⟨a2a, a2b, a2c, a2d, a2e, a2f, a2z⟩ := cells3 hw1b a1z a1a a1b a1c a1d a1e a1f
      obtain ⟨b2a, b2b, b2c, b2d, b2e, b2f, b2z⟩ := cells3 hw1b b1z b1a b1b b1c b1d b1e b1f
      obtain ⟨p2a, p2b, p2c, p2g, p2d, p2e, p2f, p2h, p2z⟩ := cells4 hw1b p1z p1a p1b p1c p1g p1d p1e p1f p1h
      obtain ⟨q2a, q2b, q2c, q2g, q2d, q2e, q2f, q2h, q2z⟩ := cells4 hw1b q1z q1a q1b q1c q1g q1d q1e q1f q1h
      clear a1a a1b a1c a1d a1e a1f a1z b1a b1b b1c b1d b1e b1f b1z p1a p1b p1c p1g p1d p1e p1f p1h p1z q1a q1b q1c q1g q1d q1e q1f q1h q1z hw2 hw1b
      go_wp2_with fail
      refine (pof_any b 128 _).mono ?_
      rintro e w3 ⟨rfl, hw3⟩
      have zw3 := hw3.size
      have bw3 := below_of (w := w) (by go_grown) hw3
      try simp at zw3
      have hw2b := below_of (w := w2) (by go_grown) hw3
      obtain ⟨a3a, a3b, a3c, a3d, a3e, a3f, a3z⟩ := cells3 hw2b a2z a2a a2b a2c a2d a2e a2f
      obtain ⟨b3a, b3b, b3c, b3d, b3e, b3f, b3z⟩ := cells3 hw2b b2z b2a b2b b2c b2d b2e b2f
      obtain ⟨p3a, p3b, p3c, p3g, p3d, p3e, p3f, p3h, p3z⟩ := cells4 hw2b p2z p2a p2b p2c p2g p2d p2e p2f p2h
      obtain ⟨q3a, q3b, q3c, q3g, q3d, q3e, q3f, q3h, q3z⟩ := cells4 hw2b q2z q2a q2b q2c q2g q2d q2e q2f q2h
      obtain ⟨x3a, x3b, x3c, x3g, x3d, x3e, x3f, x3h, x3z⟩ := cells4 (b := w2.heap.size) hw3 (by go_size) (by go_simp <;> rfl) (by go_simp <;> rfl) (by go_simp <;> rfl) (by go_simp <;> rfl) (by go_simp <;> rfl) (by go_simp <;> rfl) (by go_simp <;> rfl) (by go_simp <;> rfl)
      clear a2a a2b a2c a2d a2e a2f a2z b2a b2b b2c b2d b2e b2f b2z p2a p2b p2c p2g p2d p2e p2f p2h p2z q2a q2b q2c q2g q2d q2e q2f q2h q2z hw3 hw2b
      go_wp2_with fail
      generalize hW : World.alloc _ _ = W
      have hz : w.heap.size ≤ W.heap.size := by subst hW; go_size
      have hB : Below w.heap.size w W := by subst hW; go_grown
      have hw3b : Below w3.heap.size w3 W := by subst hW; go_grown
      obtain ⟨a4a, a4b, a4c, a4d, a4e, a4f, a4z⟩ := cells3 hw3b a3z a3a a3b a3c a3d a3e a3f
      obtain ⟨b4a, b4b, b4c, b4d, b4e, b4f, b4z⟩ := cells3 hw3b b3z b3a b3b b3c b3d b3e b3f
      obtain ⟨p4a, p4b, p4c, p4g, p4d, p4e, p4f, p4h, p4z⟩ := cells4 hw3b p3z p3a p3b p3c p3g p3d p3e p3f p3h
      obtain ⟨q4a, q4b, q4c, q4g, q4d, q4e, q4f, q4h, q4z⟩ := cells4 hw3b q3z q3a q3b q3c q3g q3d q3e q3f q3h
      obtain ⟨x4a, x4b, x4c, x4g, x4d, x4e, x4f, x4h, x4z⟩ := cells4 hw3b x3z x3a x3b x3c x3g x3d x3e x3f x3h
      obtain ⟨y4a, y4b, y4c, y4g, y4d, y4e, y4f, y4h, y4z⟩ := cells4 (W := W) (b := w3.heap.size) (Below.refl _ W) (by subst hW; go_size) (by subst hW; go_simp <;> rfl) (by subst hW; go_simp <;> rfl) (by subst hW; go_simp <;> rfl) (by subst hW; go_simp <;> rfl) (by subst hW; go_simp <;> rfl) (by subst hW; go_simp <;> rfl) (by subst hW; go_simp <;> rfl) (by subst hW; go_simp <;> rfl)
      clear a3a a3b a3c a3d a3e a3f a3z b3a b3b b3c b3d b3e b3f b3z p3a p3b p3c p3g p3d p3e p3f p3h p3z q3a q3b q3c q3g q3d q3e q3f q3h q3z x3a x3b x3c x3g x3d x3e x3f x3h x3z hW hw3b
      have La4a := fun x : Later W.heap.size W => (x.cell a4z).trans a4a
      have La4b := fun x : Later W.heap.size W => (x.cell a4z).trans a4b
      have La4c := fun x : Later W.heap.size W => (x.cell a4z).trans a4c
      have Lb4a := fun x : Later W.heap.size W => (x.cell b4z).trans b4a
      have Lb4b := fun x : Later W.heap.size W => (x.cell b4z).trans b4b
      have Lb4c := fun x : Later W.heap.size W => (x.cell b4z).trans b4c
      have Lp4a := fun x : Later W.heap.size W => (x.cell p4z).trans p4a
      have Lp4b := fun x : Later W.heap.size W => (x.cell p4z).trans p4b
      have Lp4c := fun x : Later W.heap.size W => (x.cell p4z).trans p4c
      have Lp4g := fun x : Later W.heap.size W => (x.cell p4z).trans p4g
      have Lq4a := fun x : Later W.heap.size W => (x.cell q4z).trans q4a
      have Lq4b := fun x : Later W.heap.size W => (x.cell q4z).trans q4b
      have Lq4c := fun x : Later W.heap.size W => (x.cell q4z).trans q4c
      have Lq4g := fun x : Later W.heap.size W => (x.cell q4z).trans q4g
      have Lx4a := fun x : Later W.heap.size W => (x.cell x4z).trans x4a
      have Lx4b := fun x : Later W.heap.size W => (x.cell x4z).trans x4b
      have Lx4c := fun x : Later W.heap.size W => (x.cell x4z).trans x4c
      have Lx4g := fun x : Later W.heap.size W => (x.cell x4z).trans x4g
      have Ly4a := fun x : Later W.heap.size W => (x.cell y4z).trans y4a
      have Ly4b := fun x : Later W.heap.size W => (x.cell y4z).trans y4b
      have Ly4c := fun x : Later W.heap.size W => (x.cell y4z).trans y4c
      have Ly4g := fun x : Later W.heap.size W => (x.cell y4z).trans y4g
      try simp only [List.append_eq, List.cons_append, List.nil_append]
      refine region_later W.heap.size (by kernel_rfl) (by kernel_rfl) ?_
      repeat (go_big_quiet_step (first | (go_at_call 14; with_reducible exact later_of (Nat.le_refl _) (HA _ ((he.go hB).go (Later.below _))).out) | (go_at_call 14; with_reducible exact later_of (Nat.le_refl _) (HB _ ((he.go hB).go (Later.below _))).out) | (go_at_call 16; with_reducible exact later_of (Nat.le_refl _) (HP _ ((he.go hB).go (Later.below _))).out) | (go_at_call 16; with_reducible exact later_of (Nat.le_refl _) (HQ _ ((he.go hB).go (Later.below _))).out) | (go_at_call 19; with_reducible exact later_bool hs (Nat.le_refl _) (psane_any p _)) | (go_at_call 19; with_reducible exact later_bool ht (Nat.le_refl _) (psane_any q _))))
      refine wpQuiet_nil ?_
      intro x
      have hx : Below w.heap.size w x.at := hB.trans (x.below.mono hz)
      generalize x.at = wz at *
      go_wp2
      go_ret
      exact ⟨rfl, hx⟩
    · skip
      have HA := fun w he => Lib.hid (printAddr_any a w he)
      have HB := fun w he => Lib.hid (printAddr_any b w he)
      have HP := fun w he => Lib.hid (print_any p h0 h1 w he)
      have HQ := fun w he => Lib.hid (print_any q h2 h3 w he)
      go_enter Tryd.func7, Tryd.ntmps7
      go_wp2_with fail
      refine (awake3_any _ (he.go (by go_grown))).mono ?_
      rintro e w1 ⟨rfl, hw1⟩
      have zw1 := hw1.size
      have bw1 := below_of (w := w) (by go_grown) hw1
      try simp at zw1
      obtain ⟨a5a, a5b, a5c, a5d, a5e, a5f, a5z⟩ := cells3 (b := w.heap.size) hw1 (by go_size) (by go_simp <;> rfl) (by go_simp <;> rfl) (by go_simp <;> rfl) (by go_simp <;> rfl) (by go_simp <;> rfl) (by go_simp <;> rfl)
      obtain ⟨b5a, b5b, b5c, b5d, b5e, b5f, b5z⟩ := cells3 (b := w.heap.size + 1) hw1 (by go_size) (by go_simp <;> rfl) (by go_simp <;> rfl) (by go_simp <;> rfl) (by go_simp <;> rfl) (by go_simp <;> rfl) (by go_simp <;> rfl)
      obtain ⟨p5a, p5b, p5c, p5g, p5d, p5e, p5f, p5h, p5z⟩ := cells4 (b := w.heap.size + 1 + 1) hw1 (by go_size) (by go_simp <;> rfl) (by go_simp <;> rfl) (by go_simp <;> rfl) (by go_simp <;> rfl) (by go_simp <;> rfl) (by go_simp <;> rfl) (by go_simp <;> rfl) (by go_simp <;> rfl)
      obtain ⟨q5a, q5b, q5c, q5g, q5d, q5e, q5f, q5h, q5z⟩ := cells4 (b := w.heap.size + 1 + 1 + 1) hw1 (by go_size) (by go_simp <;> rfl) (by go_simp <;> rfl) (by go_simp <;> rfl) (by go_simp <;> rfl) (by go_simp <;> rfl) (by go_simp <;> rfl) (by go_simp <;> rfl) (by go_simp <;> rfl)
      clear hw1
      go_wp2_with fail
      refine (pof_any a 128 _).mono ?_
      rintro e w2 ⟨rfl, hw2⟩
      have zw2 := hw2.size
      have bw2 := below_of (w := w) (by go_grown) hw2
      try simp at zw2
      have hw1b := below_of (w := w1) (by go_grown) hw2
      obtain ⟨a6a, a6b, a6c, a6d, a6e, a6f, a6z⟩ := cells3 hw1b a5z a5a a5b a5c a5d a5e a5f
      obtain ⟨b6a, b6b, b6c, b6d, b6e, b6f, b6z⟩ := cells3 hw1b b5z b5a b5b b5c b5d b5e b5f
      obtain ⟨p6a, p6b, p6c, p6g, p6d, p6e, p6f, p6h, p6z⟩ := cells4 hw1b p5z p5a p5b p5c p5g p5d p5e p5f p5h
      obtain ⟨q6a, q6b, q6c, q6g, q6d, q6e, q6f, q6h, q6z⟩ := cells4 hw1b q5z q5a q5b q5c q5g q5d q5e q5f q5h
      clear a5a a5b a5c a5d a5e a5f a5z b5a b5b b5c b5d b5e b5f b5z p5a p5b p5c p5g p5d p5e p5f p5h p5z q5a q5b q5c q5g q5d q5e q5f q5h q5z hw2 hw1b
      go_wp2_with fail
      refine (pof_any b 128 _).mono ?_
      rintro e w3 ⟨rfl, hw3⟩
      have zw3 := hw3.size
      have bw3 := below_of (w := w) (by go_grown) hw3
      try simp at zw3
      have hw2b := below_of (w := w2) (by go_grown) hw3
      obtain ⟨a7a, a7b, a7c, a7d, a7e, a7f, a7z⟩ := cells3 hw2b a6z a6a a6b a6c a6d a6e a6f
      obtain ⟨b7a, b7b, b7c, b7d, b7e, b7f, b7z⟩ := cells3 hw2b b6z b6a b6b b6c b6d b6e b6f
      obtain ⟨p7a, p7b, p7c, p7g, p7d, p7e, p7f, p7h, p7z⟩ := cells4 hw2b p6z p6a p6b p6c p6g p6d p6e p6f p6h
      obtain ⟨q7a, q7b, q7c, q7g, q7d, q7e, q7f, q7h, q7z⟩ := cells4 hw2b q6z q6a q6b q6c q6g q6d q6e q6f q6h
      obtain ⟨x7a, x7b, x7c, x7g, x7d, x7e, x7f, x7h, x7z⟩ := cells4 (b := w2.heap.size) hw3 (by go_size) (by go_simp <;> rfl) (by go_simp <;> rfl) (by go_simp <;> rfl) (by go_simp <;> rfl) (by go_simp <;> rfl) (by go_simp <;> rfl) (by go_simp <;> rfl) (by go_simp <;> rfl)
      clear a6a a6b a6c a6d a6e a6f a6z b6a b6b b6c b6d b6e b6f b6z p6a p6b p6c p6g p6d p6e p6f p6h p6z q6a q6b q6c q6g q6d q6e q6f q6h q6z hw3 hw2b
      go_wp2_with fail
      generalize hW : World.alloc _ _ = W
      have hz : w.heap.size ≤ W.heap.size := by subst hW; go_size
      have hB : Below w.heap.size w W := by subst hW; go_grown
      have hw3b : Below w3.heap.size w3 W := by subst hW; go_grown
      obtain ⟨a8a, a8b, a8c, a8d, a8e, a8f, a8z⟩ := cells3 hw3b a7z a7a a7b a7c a7d a7e a7f
      obtain ⟨b8a, b8b, b8c, b8d, b8e, b8f, b8z⟩ := cells3 hw3b b7z b7a b7b b7c b7d b7e b7f
      obtain ⟨p8a, p8b, p8c, p8g, p8d, p8e, p8f, p8h, p8z⟩ := cells4 hw3b p7z p7a p7b p7c p7g p7d p7e p7f p7h
      obtain ⟨q8a, q8b, q8c, q8g, q8d, q8e, q8f, q8h, q8z⟩ := cells4 hw3b q7z q7a q7b q7c q7g q7d q7e q7f q7h
      obtain ⟨x8a, x8b, x8c, x8g, x8d, x8e, x8f, x8h, x8z⟩ := cells4 hw3b x7z x7a x7b x7c x7g x7d x7e x7f x7h
      obtain ⟨y8a, y8b, y8c, y8g, y8d, y8e, y8f, y8h, y8z⟩ := cells4 (W := W) (b := w3.heap.size) (Below.refl _ W) (by subst hW; go_size) (by subst hW; go_simp <;> rfl) (by subst hW; go_simp <;> rfl) (by subst hW; go_simp <;> rfl) (by subst hW; go_simp <;> rfl) (by subst hW; go_simp <;> rfl) (by subst hW; go_simp <;> rfl) (by subst hW; go_simp <;> rfl) (by subst hW; go_simp <;> rfl)
      clear a7a a7b a7c a7d a7e a7f a7z b7a b7b b7c b7d b7e b7f b7z p7a p7b p7c p7g p7d p7e p7f p7h p7z q7a q7b q7c q7g q7d q7e q7f q7h q7z x7a x7b x7c x7g x7d x7e x7f x7h x7z hW hw3b
      have La8a := fun x : Later W.heap.size W => (x.cell a8z).trans a8a
      have La8b := fun x : Later W.heap.size W => (x.cell a8z).trans a8b
      have La8c := fun x : Later W.heap.size W => (x.cell a8z).trans a8c
      have Lb8a := fun x : Later W.heap.size W => (x.cell b8z).trans b8a
      have Lb8b := fun x : Later W.heap.size W => (x.cell b8z).trans b8b
      have Lb8c := fun x : Later W.heap.size W => (x.cell b8z).trans b8c
      have Lp8a := fun x : Later W.heap.size W => (x.cell p8z).trans p8a
      have Lp8b := fun x : Later W.heap.size W => (x.cell p8z).trans p8b
      have Lp8c := fun x : Later W.heap.size W => (x.cell p8z).trans p8c
      have Lp8g := fun x : Later W.heap.size W => (x.cell p8z).trans p8g
      have Lq8a := fun x : Later W.heap.size W => (x.cell q8z).trans q8a
      have Lq8b := fun x : Later W.heap.size W => (x.cell q8z).trans q8b
      have Lq8c := fun x : Later W.heap.size W => (x.cell q8z).trans q8c
      have Lq8g := fun x : Later W.heap.size W => (x.cell q8z).trans q8g
      have Lx8a := fun x : Later W.heap.size W => (x.cell x8z).trans x8a
      have Lx8b := fun x : Later W.heap.size W => (x.cell x8z).trans x8b
      have Lx8c := fun x : Later W.heap.size W => (x.cell x8z).trans x8c
      have Lx8g := fun x : Later W.heap.size W => (x.cell x8z).trans x8g
      have Ly8a := fun x : Later W.heap.size W => (x.cell y8z).trans y8a
      have Ly8b := fun x : Later W.heap.size W => (x.cell y8z).trans y8b
      have Ly8c := fun x : Later W.heap.size W => (x.cell y8z).trans y8c
      have Ly8g := fun x : Later W.heap.size W => (x.cell y8z).trans y8g
      try simp only [List.append_eq, List.cons_append, List.nil_append]
      refine region_later W.heap.size (by kernel_rfl) (by kernel_rfl) ?_
      repeat (go_big_quiet_step (first | (go_at_call 14; with_reducible exact later_of (Nat.le_refl _) (HA _ ((he.go hB).go (Later.below _))).out) | (go_at_call 14; with_reducible exact later_of (Nat.le_refl _) (HB _ ((he.go hB).go (Later.below _))).out) | (go_at_call 16; with_reducible exact later_of (Nat.le_refl _) (HP _ ((he.go hB).go (Later.below _))).out) | (go_at_call 16; with_reducible exact later_of (Nat.le_refl _) (HQ _ ((he.go hB).go (Later.below _))).out) | (go_at_call 19; with_reducible exact later_bool hs (Nat.le_refl _) (psane_any p _)) | (go_at_call 19; with_reducible exact later_bool ht (Nat.le_refl _) (psane_any q _))))
      refine wpQuiet_nil ?_
      intro x
      have hx : Below w.heap.size w x.at := hB.trans (x.below.mono hz)
      generalize x.at = wz at *
      go_wp2
      go_ret
      exact ⟨rfl, hx⟩
  · cases t
    · clear f3 f4
      cases c
      · skip
        have HA := fun w he => Lib.hid (printAddr_any a w he)
        have HB := fun w he => Lib.hid (printAddr_any b w he)
        have HP := fun w he => Lib.hid (print_any p h0 h1 w he)
        have HQ := fun w he => Lib.hid (print_any q h2 h3 w he)
        go_enter Tryd.func7, Tryd.ntmps7
        go_wp2_with fail
        refine (awake3_any _ (he.go (by go_grown))).mono ?_
        rintro e w1 ⟨rfl, hw1⟩
        have zw1 := hw1.size
        have bw1 := below_of (w := w) (by go_grown) hw1
        try simp at zw1
        obtain ⟨a9a, a9b, a9c, a9d, a9e, a9f, a9z⟩ := cells3 (b := w.heap.size) hw1 (by go_size) (by go_simp <;> rfl) (by go_simp <;> rfl) (by go_simp <;> rfl) (by go_simp <;> rfl) (by go_simp <;> rfl) (by go_simp <;> rfl)
        obtain ⟨b9a, b9b, b9c, b9d, b9e, b9f, b9z⟩ := cells3 (b := w.heap.size + 1) hw1 (by go_size) (by go_simp <;> rfl) (by go_simp <;> rfl) (by go_simp <;> rfl) (by go_simp <;> rfl) (by go_simp <;> rfl) (by go_simp <;> rfl)
        obtain ⟨p9a, p9b, p9c, p9g, p9d, p9e, p9f, p9h, p9z⟩ := cells4 (b := w.heap.size + 1 + 1) hw1 (by go_size) (by go_simp <;> rfl) (by go_simp <;> rfl) (by go_simp <;> rfl) (by go_simp <;> rfl) (by go_simp <;> rfl) (by go_simp <;> rfl) (by go_simp <;> rfl) (by go_simp <;> rfl)
        obtain ⟨q9a, q9b, q9c, q9g, q9d, q9e, q9f, q9h, q9z⟩ := cells4 (b := w.heap.size + 1 + 1 + 1) hw1 (by go_size) (by go_simp <;> rfl) (by go_simp <;> rfl) (by go_simp <;> rfl) (by go_simp <;> rfl) (by go_simp <;> rfl) (by go_simp <;> rfl) (by go_simp <;> rfl) (by go_simp <;> rfl)
        clear hw1
        go_wp2_with fail
        refine (pof_any a 128 _).mono ?_
        rintro e w2 ⟨rfl, hw2⟩
        have zw2 := hw2.size
        have bw2 := below_of (w := w) (by go_grown) hw2
        try simp at zw2
        have hw1b := below_of (w := w1) (by go_grown) hw2
        obtain ⟨a10a, a10b, a10c, a10d, a10e, a10f, a10z⟩ := cells3 hw1b a9z a9a a9b a9c a9d a9e a9f
        obtain ⟨b10a, b10b, b10c, b10d, b10e, b10f, b10z⟩ := cells3 hw1b b9z b9a b9b b9c b9d b9e b9f
        obtain ⟨p10a, p10b, p10c, p10g, p10d, p10e, p10f, p10h, p10z⟩ := cells4 hw1b p9z p9a p9b p9c p9g p9d p9e p9f p9h
        obtain ⟨q10a, q10b, q10c, q10g, q10d, q10e, q10f, q10h, q10z⟩ := cells4 hw1b q9z q9a q9b q9c q9g q9d q9e q9f q9h
        clear a9a a9b a9c a9d a9e a9f a9z b9a b9b b9c b9d b9e b9f b9z p9a p9b p9c p9g p9d p9e p9f p9h p9z q9a q9b q9c q9g q9d q9e q9f q9h q9z hw2 hw1b
        go_wp2_with fail
        refine (pof_any b 128 _).mono ?_
        rintro e w3 ⟨rfl, hw3⟩
        have zw3 := hw3.size
        have bw3 := below_of (w := w) (by go_grown) hw3
        try simp at zw3
        have hw2b := below_of (w := w2) (by go_grown) hw3
        obtain ⟨a11a, a11b, a11c, a11d, a11e, a11f, a11z⟩ := cells3 hw2b a10z a10a a10b a10c a10d a10e a10f
        obtain ⟨b11a, b11b, b11c, b11d, b11e, b11f, b11z⟩ := cells3 hw2b b10z b10a b10b b10c b10d b10e b10f
        obtain ⟨p11a, p11b, p11c, p11g, p11d, p11e, p11f, p11h, p11z⟩ := cells4 hw2b p10z p10a p10b p10c p10g p10d p10e p10f p10h
        obtain ⟨q11a, q11b, q11c, q11g, q11d, q11e, q11f, q11h, q11z⟩ := cells4 hw2b q10z q10a q10b q10c q10g q10d q10e q10f q10h
        obtain ⟨x11a, x11b, x11c, x11g, x11d, x11e, x11f, x11h, x11z⟩ := cells4 (b := w2.heap.size) hw3 (by go_size) (by go_simp <;> rfl) (by go_simp <;> rfl) (by go_simp <;> rfl) (by go_simp <;> rfl) (by go_simp <;> rfl) (by go_simp <;> rfl) (by go_simp <;> rfl) (by go_simp <;> rfl)
        clear a10a a10b a10c a10d a10e a10f a10z b10a b10b b10c b10d b10e b10f b10z p10a p10b p10c p10g p10d p10e p10f p10h p10z q10a q10b q10c q10g q10d q10e q10f q10h q10z hw3 hw2b
        go_wp2_with fail
        generalize hW : World.alloc _ _ = W
        have hz : w.heap.size ≤ W.heap.size := by subst hW; go_size
        have hB : Below w.heap.size w W := by subst hW; go_grown
        have hw3b : Below w3.heap.size w3 W := by subst hW; go_grown
        obtain ⟨a12a, a12b, a12c, a12d, a12e, a12f, a12z⟩ := cells3 hw3b a11z a11a a11b a11c a11d a11e a11f
        obtain ⟨b12a, b12b, b12c, b12d, b12e, b12f, b12z⟩ := cells3 hw3b b11z b11a b11b b11c b11d b11e b11f
        obtain ⟨p12a, p12b, p12c, p12g, p12d, p12e, p12f, p12h, p12z⟩ := cells4 hw3b p11z p11a p11b p11c p11g p11d p11e p11f p11h
        obtain ⟨q12a, q12b, q12c, q12g, q12d, q12e, q12f, q12h, q12z⟩ := cells4 hw3b q11z q11a q11b q11c q11g q11d q11e q11f q11h
        obtain ⟨x12a, x12b, x12c, x12g, x12d, x12e, x12f, x12h, x12z⟩ := cells4 hw3b x11z x11a x11b x11c x11g x11d x11e x11f x11h
        obtain ⟨y12a, y12b, y12c, y12g, y12d, y12e, y12f, y12h, y12z⟩ := cells4 (W := W) (b := w3.heap.size) (Below.refl _ W) (by subst hW; go_size) (by subst hW; go_simp <;> rfl) (by subst hW; go_simp <;> rfl) (by subst hW; go_simp <;> rfl) (by subst hW; go_simp <;> rfl) (by subst hW; go_simp <;> rfl) (by subst hW; go_simp <;> rfl) (by subst hW; go_simp <;> rfl) (by subst hW; go_simp <;> rfl)
        clear a11a a11b a11c a11d a11e a11f a11z b11a b11b b11c b11d b11e b11f b11z p11a p11b p11c p11g p11d p11e p11f p11h p11z q11a q11b q11c q11g q11d q11e q11f q11h q11z x11a x11b x11c x11g x11d x11e x11f x11h x11z hW hw3b
        have La12a := fun x : Later W.heap.size W => (x.cell a12z).trans a12a
        have La12b := fun x : Later W.heap.size W => (x.cell a12z).trans a12b
        have La12c := fun x : Later W.heap.size W => (x.cell a12z).trans a12c
        have Lb12a := fun x : Later W.heap.size W => (x.cell b12z).trans b12a
        have Lb12b := fun x : Later W.heap.size W => (x.cell b12z).trans b12b
        have Lb12c := fun x : Later W.heap.size W => (x.cell b12z).trans b12c
        have Lp12a := fun x : Later W.heap.size W => (x.cell p12z).trans p12a
        have Lp12b := fun x : Later W.heap.size W => (x.cell p12z).trans p12b
        have Lp12c := fun x : Later W.heap.size W => (x.cell p12z).trans p12c
        have Lp12g := fun x : Later W.heap.size W => (x.cell p12z).trans p12g
        have Lq12a := fun x : Later W.heap.size W => (x.cell q12z).trans q12a
        have Lq12b := fun x : Later W.heap.size W => (x.cell q12z).trans q12b
        have Lq12c := fun x : Later W.heap.size W => (x.cell q12z).trans q12c
        have Lq12g := fun x : Later W.heap.size W => (x.cell q12z).trans q12g
        have Lx12a := fun x : Later W.heap.size W => (x.cell x12z).trans x12a
        have Lx12b := fun x : Later W.heap.size W => (x.cell x12z).trans x12b
        have Lx12c := fun x : Later W.heap.size W => (x.cell x12z).trans x12c
        have Lx12g := fun x : Later W.heap.size W => (x.cell x12z).trans x12g
        have Ly12a := fun x : Later W.heap.size W => (x.cell y12z).trans y12a
        have Ly12b := fun x : Later W.heap.size W => (x.cell y12z).trans y12b
        have Ly12c := fun x : Later W.heap.size W => (x.cell y12z).trans y12c
        have Ly12g := fun x : Later W.heap.size W => (x.cell y12z).trans y12g
        try simp only [List.append_eq, List.cons_append, List.nil_append]
        refine region_later W.heap.size (by kernel_rfl) (by kernel_rfl) ?_
        repeat (go_big_quiet_step (first | (go_at_call 14; with_reducible exact later_of (Nat.le_refl _) (HA _ ((he.go hB).go (Later.below _))).out) | (go_at_call 14; with_reducible exact later_of (Nat.le_refl _) (HB _ ((he.go hB).go (Later.below _))).out) | (go_at_call 16; with_reducible exact later_of (Nat.le_refl _) (HP _ ((he.go hB).go (Later.below _))).out) | (go_at_call 16; with_reducible exact later_of (Nat.le_refl _) (HQ _ ((he.go hB).go (Later.below _))).out) | (go_at_call 19; with_reducible exact later_bool hs (Nat.le_refl _) (psane_any p _)) | (go_at_call 19; with_reducible exact later_bool ht (Nat.le_refl _) (psane_any q _))))
        refine wpQuiet_nil ?_
        intro x
        have hx : Below w.heap.size w x.at := hB.trans (x.below.mono hz)
        generalize x.at = wz at *
        go_wp2
        go_ret
        exact ⟨rfl, hx⟩
      · skip
        have HA := fun w he => Lib.hid (printAddr_any a w he)
        have HB := fun w he => Lib.hid (printAddr_any b w he)
        have HP := fun w he => Lib.hid (print_any p h0 h1 w he)
        have HQ := fun w he => Lib.hid (print_any q h2 h3 w he)
        go_enter Tryd.func7, Tryd.ntmps7
        go_wp2_with fail
        refine (awake3_any _ (he.go (by go_grown))).mono ?_
        rintro e w1 ⟨rfl, hw1⟩
        have zw1 := hw1.size
        have bw1 := below_of (w := w) (by go_grown) hw1
        try simp at zw1
        obtain ⟨a13a, a13b, a13c, a13d, a13e, a13f, a13z⟩ := cells3 (b := w.heap.size) hw1 (by go_size) (by go_simp <;> rfl) (by go_simp <;> rfl) (by go_simp <;> rfl) (by go_simp <;> rfl) (by go_simp <;> rfl) (by go_simp <;> rfl)
        obtain ⟨b13a, b13b, b13c, b13d, b13e, b13f, b13z⟩ := cells3 (b := w.heap.size + 1) hw1 (by go_size) (by go_simp <;> rfl) (by go_simp <;> rfl) (by go_simp <;> rfl) (by go_simp <;> rfl) (by go_simp <;> rfl) (by go_simp <;> rfl)
        obtain ⟨p13a, p13b, p13c, p13g, p13d, p13e, p13f, p13h, p13z⟩ := cells4 (b := w.heap.size + 1 + 1) hw1 (by go_size) (by go_simp <;> rfl) (by go_simp <;> rfl) (by go_simp <;> rfl) (by go_simp <;> rfl) (by go_simp <;> rfl) (by go_simp <;> rfl) (by go_simp <;> rfl) (by go_simp <;> rfl)
        obtain ⟨q13a, q13b, q13c, q13g, q13d, q13e, q13f, q13h, q13z⟩ := cells4 (b := w.heap.size + 1 + 1 + 1) hw1 (by go_size) (by go_simp <;> rfl) (by go_simp <;> rfl) (by go_simp <;> rfl) (by go_simp <;> rfl) (by go_simp <;> rfl) (by go_simp <;> rfl) (by go_simp <;> rfl) (by go_simp <;> rfl)
        clear hw1
        go_wp2_with fail
        refine (pof_any a 128 _).mono ?_
        rintro e w2 ⟨rfl, hw2⟩
        have zw2 := hw2.size
        have bw2 := below_of (w := w) (by go_grown) hw2
        try simp at zw2
        have hw1b := below_of (w := w1) (by go_grown) hw2
        obtain ⟨a14a, a14b, a14c, a14d, a14e, a14f, a14z⟩ := cells3 hw1b a13z a13a a13b a13c a13d a13e a13f
        obtain ⟨b14a, b14b, b14c, b14d, b14e, b14f, b14z⟩ := cells3 hw1b b13z b13a b13b b13c b13d b13e b13f
        obtain ⟨p14a, p14b, p14c, p14g, p14d, p14e, p14f, p14h, p14z⟩ := cells4 hw1b p13z p13a p13b p13c p13g p13d p13e p13f p13h
        obtain ⟨q14a, q14b, q14c, q14g, q14d, q14e, q14f, q14h, q14z⟩ := cells4 hw1b q13z q13a q13b q13c q13g q13d q13e q13f q13h
        clear a13a a13b a13c a13d a13e a13f a13z b13a b13b b13c b13d b13e b13f b13z p13a p13b p13c p13g p13d p13e p13f p13h p13z q13a q13b q13c q13g q13d q13e q13f q13h q13z hw2 hw1b
        go_wp2_with fail
        refine (pof_any b 128 _).mono ?_
        rintro e w3 ⟨rfl, hw3⟩
        have zw3 := hw3.size
        have bw3 := below_of (w := w) (by go_grown) hw3
        try simp at zw3
        have hw2b := below_of (w := w2) (by go_grown) hw3
        obtain ⟨a15a, a15b, a15c, a15d, a15e, a15f, a15z⟩ := cells3 hw2b a14z a14a a14b a14c a14d a14e a14f
        obtain ⟨b15a, b15b, b15c, b15d, b15e, b15f, b15z⟩ := cells3 hw2b b14z b14a b14b b14c b14d b14e b14f
        obtain ⟨p15a, p15b, p15c, p15g, p15d, p15e, p15f, p15h, p15z⟩ := cells4 hw2b p14z p14a p14b p14c p14g p14d p14e p14f p14h
        obtain ⟨q15a, q15b, q15c, q15g, q15d, q15e, q15f, q15h, q15z⟩ := cells4 hw2b q14z q14a q14b q14c q14g q14d q14e q14f q14h
        obtain ⟨x15a, x15b, x15c, x15g, x15d, x15e, x15f, x15h, x15z⟩ := cells4 (b := w2.heap.size) hw3 (by go_size) (by go_simp <;> rfl) (by go_simp <;> rfl) (by go_simp <;> rfl) (by go_simp <;> rfl) (by go_simp <;> rfl) (by go_simp <;> rfl) (by go_simp <;> rfl) (by go_simp <;> rfl)
        clear a14a a14b a14c a14d a14e a14f a14z b14a b14b b14c b14d b14e b14f b14z p14a p14b p14c p14g p14d p14e p14f p14h p14z q14a q14b q14c q14g q14d q14e q14f q14h q14z hw3 hw2b
        go_wp2_with fail
        generalize hW : World.alloc _ _ = W
        have hz : w.heap.size ≤ W.heap.size := by subst hW; go_size
        have hB : Below w.heap.size w W := by subst hW; go_grown
        have hw3b : Below w3.heap.size w3 W := by subst hW; go_grown
        obtain ⟨a16a, a16b, a16c, a16d, a16e, a16f, a16z⟩ := cells3 hw3b a15z a15a a15b a15c a15d a15e a15f
        obtain ⟨b16a, b16b, b16c, b16d, b16e, b16f, b16z⟩ := cells3 hw3b b15z b15a b15b b15c b15d b15e b15f
        obtain ⟨p16a, p16b, p16c, p16g, p16d, p16e, p16f, p16h, p16z⟩ := cells4 hw3b p15z p15a p15b p15c p15g p15d p15e p15f p15h
        obtain ⟨q16a, q16b, q16c, q16g, q16d, q16e, q16f, q16h, q16z⟩ := cells4 hw3b q15z q15a q15b q15c q15g q15d q15e q15f q15h
        obtain ⟨x16a, x16b, x16c, x16g, x16d, x16e, x16f, x16h, x16z⟩ := cells4 hw3b x15z x15a x15b x15c x15g x15d x15e x15f x15h
        obtain ⟨y16a, y16b, y16c, y16g, y16d, y16e, y16f, y16h, y16z⟩ := cells4 (W := W) (b := w3.heap.size) (Below.refl _ W) (by subst hW; go_size) (by subst hW; go_simp <;> rfl) (by subst hW; go_simp <;> rfl) (by subst hW; go_simp <;> rfl) (by subst hW; go_simp <;> rfl) (by subst hW; go_simp <;> rfl) (by subst hW; go_simp <;> rfl) (by subst hW; go_simp <;> rfl) (by subst hW; go_simp <;> rfl)
        clear a15a a15b a15c a15d a15e a15f a15z b15a b15b b15c b15d b15e b15f b15z p15a p15b p15c p15g p15d p15e p15f p15h p15z q15a q15b q15c q15g q15d q15e q15f q15h q15z x15a x15b x15c x15g x15d x15e x15f x15h x15z hW hw3b
        have La16a := fun x : Later W.heap.size W => (x.cell a16z).trans a16a
        have La16b := fun x : Later W.heap.size W => (x.cell a16z).trans a16b
        have La16c := fun x : Later W.heap.size W => (x.cell a16z).trans a16c
        have Lb16a := fun x : Later W.heap.size W => (x.cell b16z).trans b16a
        have Lb16b := fun x : Later W.heap.size W => (x.cell b16z).trans b16b
        have Lb16c := fun x : Later W.heap.size W => (x.cell b16z).trans b16c
        have Lp16a := fun x : Later W.heap.size W => (x.cell p16z).trans p16a
        have Lp16b := fun x : Later W.heap.size W => (x.cell p16z).trans p16b
        have Lp16c := fun x : Later W.heap.size W => (x.cell p16z).trans p16c
        have Lp16g := fun x : Later W.heap.size W => (x.cell p16z).trans p16g
        have Lq16a := fun x : Later W.heap.size W => (x.cell q16z).trans q16a
        have Lq16b := fun x : Later W.heap.size W => (x.cell q16z).trans q16b
        have Lq16c := fun x : Later W.heap.size W => (x.cell q16z).trans q16c
        have Lq16g := fun x : Later W.heap.size W => (x.cell q16z).trans q16g
        have Lx16a := fun x : Later W.heap.size W => (x.cell x16z).trans x16a
        have Lx16b := fun x : Later W.heap.size W => (x.cell x16z).trans x16b
        have Lx16c := fun x : Later W.heap.size W => (x.cell x16z).trans x16c
        have Lx16g := fun x : Later W.heap.size W => (x.cell x16z).trans x16g
        have Ly16a := fun x : Later W.heap.size W => (x.cell y16z).trans y16a
        have Ly16b := fun x : Later W.heap.size W => (x.cell y16z).trans y16b
        have Ly16c := fun x : Later W.heap.size W => (x.cell y16z).trans y16c
        have Ly16g := fun x : Later W.heap.size W => (x.cell y16z).trans y16g
        try simp only [List.append_eq, List.cons_append, List.nil_append]
        refine region_later W.heap.size (by kernel_rfl) (by kernel_rfl) ?_
        repeat (go_big_quiet_step (first | (go_at_call 14; with_reducible exact later_of (Nat.le_refl _) (HA _ ((he.go hB).go (Later.below _))).out) | (go_at_call 14; with_reducible exact later_of (Nat.le_refl _) (HB _ ((he.go hB).go (Later.below _))).out) | (go_at_call 16; with_reducible exact later_of (Nat.le_refl _) (HP _ ((he.go hB).go (Later.below _))).out) | (go_at_call 16; with_reducible exact later_of (Nat.le_refl _) (HQ _ ((he.go hB).go (Later.below _))).out) | (go_at_call 19; with_reducible exact later_bool hs (Nat.le_refl _) (psane_any p _)) | (go_at_call 19; with_reducible exact later_bool ht (Nat.le_refl _) (psane_any q _))))
        refine wpQuiet_nil ?_
        intro x
        have hx : Below w.heap.size w x.at := hB.trans (x.below.mono hz)
        generalize x.at = wz at *
        go_wp2
        go_ret
        exact ⟨rfl, hx⟩
    · have g3 := f3 rfl rfl
      have g4 := f4 rfl rfl
      clear f3 f4
      cases c
      · cases d
        · skip
          have HA := fun w he => Lib.hid (printAddr_any a w he)
          have HB := fun w he => Lib.hid (printAddr_any b w he)
          have HP := fun w he => Lib.hid (print_any p h0 h1 w he)
          have HQ := fun w he => Lib.hid (print_any q h2 h3 w he)
          go_enter Tryd.func7, Tryd.ntmps7
          go_wp2_with fail
          refine (awake3_any _ (he.go (by go_grown))).mono ?_
          rintro e w1 ⟨rfl, hw1⟩
          have zw1 := hw1.size
          have bw1 := below_of (w := w) (by go_grown) hw1
          try simp at zw1
          obtain ⟨a17a, a17b, a17c, a17d, a17e, a17f, a17z⟩ := cells3 (b := w.heap.size) hw1 (by go_size) (by go_simp <;> rfl) (by go_simp <;> rfl) (by go_simp <;> rfl) (by go_simp <;> rfl) (by go_simp <;> rfl) (by go_simp <;> rfl)
          obtain ⟨b17a, b17b, b17c, b17d, b17e, b17f, b17z⟩ := cells3 (b := w.heap.size + 1) hw1 (by go_size) (by go_simp <;> rfl) (by go_simp <;> rfl) (by go_simp <;> rfl) (by go_simp <;> rfl) (by go_simp <;> rfl) (by go_simp <;> rfl)
          obtain ⟨p17a, p17b, p17c, p17g, p17d, p17e, p17f, p17h, p17z⟩ := cells4 (b := w.heap.size + 1 + 1) hw1 (by go_size) (by go_simp <;> rfl) (by go_simp <;> rfl) (by go_simp <;> rfl) (by go_simp <;> rfl) (by go_simp <;> rfl) (by go_simp <;> rfl) (by go_simp <;> rfl) (by go_simp <;> rfl)
          obtain ⟨q17a, q17b, q17c, q17g, q17d, q17e, q17f, q17h, q17z⟩ := cells4 (b := w.heap.size + 1 + 1 + 1) hw1 (by go_size) (by go_simp <;> rfl) (by go_simp <;> rfl) (by go_simp <;> rfl) (by go_simp <;> rfl) (by go_simp <;> rfl) (by go_simp <;> rfl) (by go_simp <;> rfl) (by go_simp <;> rfl)
          clear hw1
          go_wp2_with fail
          refine (pof_any a 128 _).mono ?_
          rintro e w2 ⟨rfl, hw2⟩
          have zw2 := hw2.size
          have bw2 := below_of (w := w) (by go_grown) hw2
          try simp at zw2
          have hw1b := below_of (w := w1) (by go_grown) hw2
          obtain ⟨a18a, a18b, a18c, a18d, a18e, a18f, a18z⟩ := cells3 hw1b a17z a17a a17b a17c a17d a17e a17f
          obtain ⟨b18a, b18b, b18c, b18d, b18e, b18f, b18z⟩ := cells3 hw1b b17z b17a b17b b17c b17d b17e b17f
          obtain ⟨p18a, p18b, p18c, p18g, p18d, p18e, p18f, p18h, p18z⟩ := cells4 hw1b p17z p17a p17b p17c p17g p17d p17e p17f p17h
          obtain ⟨q18a, q18b, q18c, q18g, q18d, q18e, q18f, q18h, q18z⟩ := cells4 hw1b q17z q17a q17b q17c q17g q17d q17e q17f q17h
          clear a17a a17b a17c a17d a17e a17f a17z b17a b17b b17c b17d b17e b17f b17z p17a p17b p17c p17g p17d p17e p17f p17h p17z q17a q17b q17c q17g q17d q17e q17f q17h q17z hw2 hw1b
          go_wp2_with fail
          refine (pof_any b 128 _).mono ?_
          rintro e w3 ⟨rfl, hw3⟩
          have zw3 := hw3.size
          have bw3 := below_of (w := w) (by go_grown) hw3
          try simp at zw3
          have hw2b := below_of (w := w2) (by go_grown) hw3
          obtain ⟨a19a, a19b, a19c, a19d, a19e, a19f, a19z⟩ := cells3 hw2b a18z a18a a18b a18c a18d a18e a18f
          obtain ⟨b19a, b19b, b19c, b19d, b19e, b19f, b19z⟩ := cells3 hw2b b18z b18a b18b b18c b18d b18e b18f
          obtain ⟨p19a, p19b, p19c, p19g, p19d, p19e, p19f, p19h, p19z⟩ := cells4 hw2b p18z p18a p18b p18c p18g p18d p18e p18f p18h
          obtain ⟨q19a, q19b, q19c, q19g, q19d, q19e, q19f, q19h, q19z⟩ := cells4 hw2b q18z q18a q18b q18c q18g q18d q18e q18f q18h
          obtain ⟨x19a, x19b, x19c, x19g, x19d, x19e, x19f, x19h, x19z⟩ := cells4 (b := w2.heap.size) hw3 (by go_size) (by go_simp <;> rfl) (by go_simp <;> rfl) (by go_simp <;> rfl) (by go_simp <;> rfl) (by go_simp <;> rfl) (by go_simp <;> rfl) (by go_simp <;> rfl) (by go_simp <;> rfl)
          clear a18a a18b a18c a18d a18e a18f a18z b18a b18b b18c b18d b18e b18f b18z p18a p18b p18c p18g p18d p18e p18f p18h p18z q18a q18b q18c q18g q18d q18e q18f q18h q18z hw3 hw2b
          go_wp2_with fail
          generalize hW : World.alloc _ _ = W
          have hz : w.heap.size ≤ W.heap.size := by subst hW; go_size
          have hB : Below w.heap.size w W := by subst hW; go_grown
          have hw3b : Below w3.heap.size w3 W := by subst hW; go_grown
          obtain ⟨a20a, a20b, a20c, a20d, a20e, a20f, a20z⟩ := cells3 hw3b a19z a19a a19b a19c a19d a19e a19f
          obtain ⟨b20a, b20b, b20c, b20d, b20e, b20f, b20z⟩ := cells3 hw3b b19z b19a b19b b19c b19d b19e b19f
          obtain ⟨p20a, p20b, p20c, p20g, p20d, p20e, p20f, p20h, p20z⟩ := cells4 hw3b p19z p19a p19b p19c p19g p19d p19e p19f p19h
          obtain ⟨q20a, q20b, q20c, q20g, q20d, q20e, q20f, q20h, q20z⟩ := cells4 hw3b q19z q19a q19b q19c q19g q19d q19e q19f q19h
          obtain ⟨x20a, x20b, x20c, x20g, x20d, x20e, x20f, x20h, x20z⟩ := cells4 hw3b x19z x19a x19b x19c x19g x19d x19e x19f x19h
          obtain ⟨y20a, y20b, y20c, y20g, y20d, y20e, y20f, y20h, y20z⟩ := cells4 (W := W) (b := w3.heap.size) (Below.refl _ W) (by subst hW; go_size) (by subst hW; go_simp <;> rfl) (by subst hW; go_simp <;> rfl) (by subst hW; go_simp <;> rfl) (by subst hW; go_simp <;> rfl) (by subst hW; go_simp <;> rfl) (by subst hW; go_simp <;> rfl) (by subst hW; go_simp <;> rfl) (by subst hW; go_simp <;> rfl)
          clear a19a a19b a19c a19d a19e a19f a19z b19a b19b b19c b19d b19e b19f b19z p19a p19b p19c p19g p19d p19e p19f p19h p19z q19a q19b q19c q19g q19d q19e q19f q19h q19z x19a x19b x19c x19g x19d x19e x19f x19h x19z hW hw3b
          have La20a := fun x : Later W.heap.size W => (x.cell a20z).trans a20a
          have La20b := fun x : Later W.heap.size W => (x.cell a20z).trans a20b
          have La20c := fun x : Later W.heap.size W => (x.cell a20z).trans a20c
          have Lb20a := fun x : Later W.heap.size W => (x.cell b20z).trans b20a
          have Lb20b := fun x : Later W.heap.size W => (x.cell b20z).trans b20b
          have Lb20c := fun x : Later W.heap.size W => (x.cell b20z).trans b20c
          have Lp20a := fun x : Later W.heap.size W => (x.cell p20z).trans p20a
          have Lp20b := fun x : Later W.heap.size W => (x.cell p20z).trans p20b
          have Lp20c := fun x : Later W.heap.size W => (x.cell p20z).trans p20c
          have Lp20g := fun x : Later W.heap.size W => (x.cell p20z).trans p20g
          have Lq20a := fun x : Later W.heap.size W => (x.cell q20z).trans q20a
          have Lq20b := fun x : Later W.heap.size W => (x.cell q20z).trans q20b
          have Lq20c := fun x : Later W.heap.size W => (x.cell q20z).trans q20c
          have Lq20g := fun x : Later W.heap.size W => (x.cell q20z).trans q20g
          have Lx20a := fun x : Later W.heap.size W => (x.cell x20z).trans x20a
          have Lx20b := fun x : Later W.heap.size W => (x.cell x20z).trans x20b
          have Lx20c := fun x : Later W.heap.size W => (x.cell x20z).trans x20c
          have Lx20g := fun x : Later W.heap.size W => (x.cell x20z).trans x20g
          have Ly20a := fun x : Later W.heap.size W => (x.cell y20z).trans y20a
          have Ly20b := fun x : Later W.heap.size W => (x.cell y20z).trans y20b
          have Ly20c := fun x : Later W.heap.size W => (x.cell y20z).trans y20c
          have Ly20g := fun x : Later W.heap.size W => (x.cell y20z).trans y20g
          try simp only [List.append_eq, List.cons_append, List.nil_append]
          refine region_later W.heap.size (by kernel_rfl) (by kernel_rfl) ?_
          repeat (go_big_quiet_step (first | (go_at_call 14; with_reducible exact later_of (Nat.le_refl _) (HA _ ((he.go hB).go (Later.below _))).out) | (go_at_call 14; with_reducible exact later_of (Nat.le_refl _) (HB _ ((he.go hB).go (Later.below _))).out) | (go_at_call 16; with_reducible exact later_of (Nat.le_refl _) (HP _ ((he.go hB).go (Later.below _))).out) | (go_at_call 16; with_reducible exact later_of (Nat.le_refl _) (HQ _ ((he.go hB).go (Later.below _))).out) | (go_at_call 19; with_reducible exact later_bool hs (Nat.le_refl _) (psane_any p _)) | (go_at_call 19; with_reducible exact later_bool ht (Nat.le_refl _) (psane_any q _))))
          refine wpQuiet_nil ?_
          intro x
          have hx : Below w.heap.size w x.at := hB.trans (x.below.mono hz)
          generalize x.at = wz at *
          go_wp2
          go_ret
          exact ⟨rfl, hx⟩
        · skip
          have HA := fun w he => Lib.hid (printAddr_any a w he)
          have HB := fun w he => Lib.hid (printAddr_any b w he)
          have HP := fun w he => Lib.hid (print_any p h0 h1 w he)
          have HQ := fun w he => Lib.hid (print_any q h2 h3 w he)
          go_enter Tryd.func7, Tryd.ntmps7
          go_wp2_with fail
          refine (awake3_any _ (he.go (by go_grown))).mono ?_
          rintro e w1 ⟨rfl, hw1⟩
          have zw1 := hw1.size
          have bw1 := below_of (w := w) (by go_grown) hw1
          try simp at zw1
          obtain ⟨a21a, a21b, a21c, a21d, a21e, a21f, a21z⟩ := cells3 (b := w.heap.size) hw1 (by go_size) (by go_simp <;> rfl) (by go_simp <;> rfl) (by go_simp <;> rfl) (by go_simp <;> rfl) (by go_simp <;> rfl) (by go_simp <;> rfl)
          obtain ⟨b21a, b21b, b21c, b21d, b21e, b21f, b21z⟩ := cells3 (b := w.heap.size + 1) hw1 (by go_size) (by go_simp <;> rfl) (by go_simp <;> rfl) (by go_simp <;> rfl) (by go_simp <;> rfl) (by go_simp <;> rfl) (by go_simp <;> rfl)
          obtain ⟨p21a, p21b, p21c, p21g, p21d, p21e, p21f, p21h, p21z⟩ := cells4 (b := w.heap.size + 1 + 1) hw1 (by go_size) (by go_simp <;> rfl) (by go_simp <;> rfl) (by go_simp <;> rfl) (by go_simp <;> rfl) (by go_simp <;> rfl) (by go_simp <;> rfl) (by go_simp <;> rfl) (by go_simp <;> rfl)
          obtain ⟨q21a, q21b, q21c, q21g, q21d, q21e, q21f, q21h, q21z⟩ := cells4 (b := w.heap.size + 1 + 1 + 1) hw1 (by go_size) (by go_simp <;> rfl) (by go_simp <;> rfl) (by go_simp <;> rfl) (by go_simp <;> rfl) (by go_simp <;> rfl) (by go_simp <;> rfl) (by go_simp <;> rfl) (by go_simp <;> rfl)
          clear hw1
          go_wp2_with fail
          refine (pof_any a 128 _).mono ?_
          rintro e w2 ⟨rfl, hw2⟩
          have zw2 := hw2.size
          have bw2 := below_of (w := w) (by go_grown) hw2
          try simp at zw2
          have hw1b := below_of (w := w1) (by go_grown) hw2
          obtain ⟨a22a, a22b, a22c, a22d, a22e, a22f, a22z⟩ := cells3 hw1b a21z a21a a21b a21c a21d a21e a21f
          obtain ⟨b22a, b22b, b22c, b22d, b22e, b22f, b22z⟩ := cells3 hw1b b21z b21a b21b b21c b21d b21e b21f
          obtain ⟨p22a, p22b, p22c, p22g, p22d, p22e, p22f, p22h, p22z⟩ := cells4 hw1b p21z p21a p21b p21c p21g p21d p21e p21f p21h
          obtain ⟨q22a, q22b, q22c, q22g, q22d, q22e, q22f, q22h, q22z⟩ := cells4 hw1b q21z q21a q21b q21c q21g q21d q21e q21f q21h
          clear a21a a21b a21c a21d a21e a21f a21z b21a b21b b21c b21d b21e b21f b21z p21a p21b p21c p21g p21d p21e p21f p21h p21z q21a q21b q21c q21g q21d q21e q21f q21h q21z hw2 hw1b
          go_wp2_with fail
          refine (pof_any b 128 _).mono ?_
          rintro e w3 ⟨rfl, hw3⟩
          have zw3 := hw3.size
          have bw3 := below_of (w := w) (by go_grown) hw3
          try simp at zw3
          have hw2b := below_of (w := w2) (by go_grown) hw3
          obtain ⟨a23a, a23b, a23c, a23d, a23e, a23f, a23z⟩ := cells3 hw2b a22z a22a a22b a22c a22d a22e a22f
          obtain ⟨b23a, b23b, b23c, b23d, b23e, b23f, b23z⟩ := cells3 hw2b b22z b22a b22b b22c b22d b22e b22f
          obtain ⟨p23a, p23b, p23c, p23g, p23d, p23e, p23f, p23h, p23z⟩ := cells4 hw2b p22z p22a p22b p22c p22g p22d p22e p22f p22h
          obtain ⟨q23a, q23b, q23c, q23g, q23d, q23e, q23f, q23h, q23z⟩ := cells4 hw2b q22z q22a q22b q22c q22g q22d q22e q22f q22h
          obtain ⟨x23a, x23b, x23c, x23g, x23d, x23e, x23f, x23h, x23z⟩ := cells4 (b := w2.heap.size) hw3 (by go_size) (by go_simp <;> rfl) (by go_simp <;> rfl) (by go_simp <;> rfl) (by go_simp <;> rfl) (by go_simp <;> rfl) (by go_simp <;> rfl) (by go_simp <;> rfl) (by go_simp <;> rfl)
          clear a22a a22b a22c a22d a22e a22f a22z b22a b22b b22c b22d b22e b22f b22z p22a p22b p22c p22g p22d p22e p22f p22h p22z q22a q22b q22c q22g q22d q22e q22f q22h q22z hw3 hw2b
          go_wp2_with fail
          generalize hW : World.alloc _ _ = W
          have hz : w.heap.size ≤ W.heap.size := by subst hW; go_size
          have hB : Below w.heap.size w W := by subst hW; go_grown
          have hw3b : Below w3.heap.size w3 W := by subst hW; go_grown
          obtain ⟨a24a, a24b, a24c, a24d, a24e, a24f, a24z⟩ := cells3 hw3b a23z a23a a23b a23c a23d a23e a23f
          obtain ⟨b24a, b24b, b24c, b24d, b24e, b24f, b24z⟩ := cells3 hw3b b23z b23a b23b b23c b23d b23e b23f
          obtain ⟨p24a, p24b, p24c, p24g, p24d, p24e, p24f, p24h, p24z⟩ := cells4 hw3b p23z p23a p23b p23c p23g p23d p23e p23f p23h
          obtain ⟨q24a, q24b, q24c, q24g, q24d, q24e, q24f, q24h, q24z⟩ := cells4 hw3b q23z q23a q23b q23c q23g q23d q23e q23f q23h
          obtain ⟨x24a, x24b, x24c, x24g, x24d, x24e, x24f, x24h, x24z⟩ := cells4 hw3b x23z x23a x23b x23c x23g x23d x23e x23f x23h
          obtain ⟨y24a, y24b, y24c, y24g, y24d, y24e, y24f, y24h, y24z⟩ := cells4 (W := W) (b := w3.heap.size) (Below.refl _ W) (by subst hW; go_size) (by subst hW; go_simp <;> rfl) (by subst hW; go_simp <;> rfl) (by subst hW; go_simp <;> rfl) (by subst hW; go_simp <;> rfl) (by subst hW; go_simp <;> rfl) (by subst hW; go_simp <;> rfl) (by subst hW; go_simp <;> rfl) (by subst hW; go_simp <;> rfl)
          clear a23a a23b a23c a23d a23e a23f a23z b23a b23b b23c b23d b23e b23f b23z p23a p23b p23c p23g p23d p23e p23f p23h p23z q23a q23b q23c q23g q23d q23e q23f q23h q23z x23a x23b x23c x23g x23d x23e x23f x23h x23z hW hw3b
          have La24a := fun x : Later W.heap.size W => (x.cell a24z).trans a24a
          have La24b := fun x : Later W.heap.size W => (x.cell a24z).trans a24b
          have La24c := fun x : Later W.heap.size W => (x.cell a24z).trans a24c
          have Lb24a := fun x : Later W.heap.size W => (x.cell b24z).trans b24a
          have Lb24b := fun x : Later W.heap.size W => (x.cell b24z).trans b24b
          have Lb24c := fun x : Later W.heap.size W => (x.cell b24z).trans b24c
          have Lp24a := fun x : Later W.heap.size W => (x.cell p24z).trans p24a
          have Lp24b := fun x : Later W.heap.size W => (x.cell p24z).trans p24b
          have Lp24c := fun x : Later W.heap.size W => (x.cell p24z).trans p24c
          have Lp24g := fun x : Later W.heap.size W => (x.cell p24z).trans p24g
          have Lq24a := fun x : Later W.heap.size W => (x.cell q24z).trans q24a
          have Lq24b := fun x : Later W.heap.size W => (x.cell q24z).trans q24b
          have Lq24c := fun x : Later W.heap.size W => (x.cell q24z).trans q24c
          have Lq24g := fun x : Later W.heap.size W => (x.cell q24z).trans q24g
          have Lx24a := fun x : Later W.heap.size W => (x.cell x24z).trans x24a
          have Lx24b := fun x : Later W.heap.size W => (x.cell x24z).trans x24b
          have Lx24c := fun x : Later W.heap.size W => (x.cell x24z).trans x24c
          have Lx24g := fun x : Later W.heap.size W => (x.cell x24z).trans x24g
          have Ly24a := fun x : Later W.heap.size W => (x.cell y24z).trans y24a
          have Ly24b := fun x : Later W.heap.size W => (x.cell y24z).trans y24b
          have Ly24c := fun x : Later W.heap.size W => (x.cell y24z).trans y24c
          have Ly24g := fun x : Later W.heap.size W => (x.cell y24z).trans y24g
          try simp only [List.append_eq, List.cons_append, List.nil_append]
          refine region_later W.heap.size (by kernel_rfl) (by kernel_rfl) ?_
          repeat (go_big_quiet_step (first | (go_at_call 14; with_reducible exact later_of (Nat.le_refl _) (HA _ ((he.go hB).go (Later.below _))).out) | (go_at_call 14; with_reducible exact later_of (Nat.le_refl _) (HB _ ((he.go hB).go (Later.below _))).out) | (go_at_call 16; with_reducible exact later_of (Nat.le_refl _) (HP _ ((he.go hB).go (Later.below _))).out) | (go_at_call 16; with_reducible exact later_of (Nat.le_refl _) (HQ _ ((he.go hB).go (Later.below _))).out) | (go_at_call 19; with_reducible exact later_bool hs (Nat.le_refl _) (psane_any p _)) | (go_at_call 19; with_reducible exact later_bool ht (Nat.le_refl _) (psane_any q _))))
          refine wpQuiet_nil ?_
          intro x
          have hx : Below w.heap.size w x.at := hB.trans (x.below.mono hz)
          generalize x.at = wz at *
          go_wp2
          go_ret
          exact ⟨rfl, hx⟩
      · cases d
        · skip
          have HA := fun w he => Lib.hid (printAddr_any a w he)
          have HB := fun w he => Lib.hid (printAddr_any b w he)
          have HP := fun w he => Lib.hid (print_any p h0 h1 w he)
          have HQ := fun w he => Lib.hid (print_any q h2 h3 w he)
          go_enter Tryd.func7, Tryd.ntmps7
          go_wp2_with fail
          refine (awake3_any _ (he.go (by go_grown))).mono ?_
          rintro e w1 ⟨rfl, hw1⟩
          have zw1 := hw1.size
          have bw1 := below_of (w := w) (by go_grown) hw1
          try simp at zw1
          obtain ⟨a25a, a25b, a25c, a25d, a25e, a25f, a25z⟩ := cells3 (b := w.heap.size) hw1 (by go_size) (by go_simp <;> rfl) (by go_simp <;> rfl) (by go_simp <;> rfl) (by go_simp <;> rfl) (by go_simp <;> rfl) (by go_simp <;> rfl)
          obtain ⟨b25a, b25b, b25c, b25d, b25e, b25f, b25z⟩ := cells3 (b := w.heap.size + 1) hw1 (by go_size) (by go_simp <;> rfl) (by go_simp <;> rfl) (by go_simp <;> rfl) (by go_simp <;> rfl) (by go_simp <;> rfl) (by go_simp <;> rfl)
          obtain ⟨p25a, p25b, p25c, p25g, p25d, p25e, p25f, p25h, p25z⟩ := cells4 (b := w.heap.size + 1 + 1) hw1 (by go_size) (by go_simp <;> rfl) (by go_simp <;> rfl) (by go_simp <;> rfl) (by go_simp <;> rfl) (by go_simp <;> rfl) (by go_simp <;> rfl) (by go_simp <;> rfl) (by go_simp <;> rfl)
          obtain ⟨q25a, q25b, q25c, q25g, q25d, q25e, q25f, q25h, q25z⟩ := cells4 (b := w.heap.size + 1 + 1 + 1) hw1 (by go_size) (by go_simp <;> rfl) (by go_simp <;> rfl) (by go_simp <;> rfl) (by go_simp <;> rfl) (by go_simp <;> rfl) (by go_simp <;> rfl) (by go_simp <;> rfl) (by go_simp <;> rfl)
          clear hw1
          go_wp2_with fail
          refine (pof_any a 128 _).mono ?_
          rintro e w2 ⟨rfl, hw2⟩
          have zw2 := hw2.size
          have bw2 := below_of (w := w) (by go_grown) hw2
          try simp at zw2
          have hw1b := below_of (w := w1) (by go_grown) hw2
          obtain ⟨a26a, a26b, a26c, a26d, a26e, a26f, a26z⟩ := cells3 hw1b a25z a25a a25b a25c a25d a25e a25f
          obtain ⟨b26a, b26b, b26c, b26d, b26e, b26f, b26z⟩ := cells3 hw1b b25z b25a b25b b25c b25d b25e b25f
          obtain ⟨p26a, p26b, p26c, p26g, p26d, p26e, p26f, p26h, p26z⟩ := cells4 hw1b p25z p25a p25b p25c p25g p25d p25e p25f p25h
          obtain ⟨q26a, q26b, q26c, q26g, q26d, q26e, q26f, q26h, q26z⟩ := cells4 hw1b q25z q25a q25b q25c q25g q25d q25e q25f q25h
          clear a25a a25b a25c a25d a25e a25f a25z b25a b25b b25c b25d b25e b25f b25z p25a p25b p25c p25g p25d p25e p25f p25h p25z q25a q25b q25c q25g q25d q25e q25f q25h q25z hw2 hw1b
          go_wp2_with fail
          refine (pof_any b 128 _).mono ?_
          rintro e w3 ⟨rfl, hw3⟩
          have zw3 := hw3.size
          have bw3 := below_of (w := w) (by go_grown) hw3
          try simp at zw3
          have hw2b := below_of (w := w2) (by go_grown) hw3
          obtain ⟨a27a, a27b, a27c, a27d, a27e, a27f, a27z⟩ := cells3 hw2b a26z a26a a26b a26c a26d a26e a26f
          obtain ⟨b27a, b27b, b27c, b27d, b27e, b27f, b27z⟩ := cells3 hw2b b26z b26a b26b b26c b26d b26e b26f
          obtain ⟨p27a, p27b, p27c, p27g, p27d, p27e, p27f, p27h, p27z⟩ := cells4 hw2b p26z p26a p26b p26c p26g p26d p26e p26f p26h
          obtain ⟨q27a, q27b, q27c, q27g, q27d, q27e, q27f, q27h, q27z⟩ := cells4 hw2b q26z q26a q26b q26c q26g q26d q26e q26f q26h
          obtain ⟨x27a, x27b, x27c, x27g, x27d, x27e, x27f, x27h, x27z⟩ := cells4 (b := w2.heap.size) hw3 (by go_size) (by go_simp <;> rfl) (by go_simp <;> rfl) (by go_simp <;> rfl) (by go_simp <;> rfl) (by go_simp <;> rfl) (by go_simp <;> rfl) (by go_simp <;> rfl) (by go_simp <;> rfl)
          clear a26a a26b a26c a26d a26e a26f a26z b26a b26b b26c b26d b26e b26f b26z p26a p26b p26c p26g p26d p26e p26f p26h p26z q26a q26b q26c q26g q26d q26e q26f q26h q26z hw3 hw2b
          go_wp2_with fail
          generalize hW : World.alloc _ _ = W
          have hz : w.heap.size ≤ W.heap.size := by subst hW; go_size
          have hB : Below w.heap.size w W := by subst hW; go_grown
          have hw3b : Below w3.heap.size w3 W := by subst hW; go_grown
          obtain ⟨a28a, a28b, a28c, a28d, a28e, a28f, a28z⟩ := cells3 hw3b a27z a27a a27b a27c a27d a27e a27f
          obtain ⟨b28a, b28b, b28c, b28d, b28e, b28f, b28z⟩ := cells3 hw3b b27z b27a b27b b27c b27d b27e b27f
          obtain ⟨p28a, p28b, p28c, p28g, p28d, p28e, p28f, p28h, p28z⟩ := cells4 hw3b p27z p27a p27b p27c p27g p27d p27e p27f p27h
          obtain ⟨q28a, q28b, q28c, q28g, q28d, q28e, q28f, q28h, q28z⟩ := cells4 hw3b q27z q27a q27b q27c q27g q27d q27e q27f q27h
          obtain ⟨x28a, x28b, x28c, x28g, x28d, x28e, x28f, x28h, x28z⟩ := cells4 hw3b x27z x27a x27b x27c x27g x27d x27e x27f x27h
          obtain ⟨y28a, y28b, y28c, y28g, y28d, y28e, y28f, y28h, y28z⟩ := cells4 (W := W) (b := w3.heap.size) (Below.refl _ W) (by subst hW; go_size) (by subst hW; go_simp <;> rfl) (by subst hW; go_simp <;> rfl) (by subst hW; go_simp <;> rfl) (by subst hW; go_simp <;> rfl) (by subst hW; go_simp <;> rfl) (by subst hW; go_simp <;> rfl) (by subst hW; go_simp <;> rfl) (by subst hW; go_simp <;> rfl)
          clear a27a a27b a27c a27d a27e a27f a27z b27a b27b b27c b27d b27e b27f b27z p27a p27b p27c p27g p27d p27e p27f p27h p27z q27a q27b q27c q27g q27d q27e q27f q27h q27z x27a x27b x27c x27g x27d x27e x27f x27h x27z hW hw3b
          have La28a := fun x : Later W.heap.size W => (x.cell a28z).trans a28a
          have La28b := fun x : Later W.heap.size W => (x.cell a28z).trans a28b
          have La28c := fun x : Later W.heap.size W => (x.cell a28z).trans a28c
          have Lb28a := fun x : Later W.heap.size W => (x.cell b28z).trans b28a
          have Lb28b := fun x : Later W.heap.size W => (x.cell b28z).trans b28b
          have Lb28c := fun x : Later W.heap.size W => (x.cell b28z).trans b28c
          have Lp28a := fun x : Later W.heap.size W => (x.cell p28z).trans p28a
          have Lp28b := fun x : Later W.heap.size W => (x.cell p28z).trans p28b
          have Lp28c := fun x : Later W.heap.size W => (x.cell p28z).trans p28c
          have Lp28g := fun x : Later W.heap.size W => (x.cell p28z).trans p28g
          have Lq28a := fun x : Later W.heap.size W => (x.cell q28z).trans q28a
          have Lq28b := fun x : Later W.heap.size W => (x.cell q28z).trans q28b
          have Lq28c := fun x : Later W.heap.size W => (x.cell q28z).trans q28c
          have Lq28g := fun x : Later W.heap.size W => (x.cell q28z).trans q28g
          have Lx28a := fun x : Later W.heap.size W => (x.cell x28z).trans x28a
          have Lx28b := fun x : Later W.heap.size W => (x.cell x28z).trans x28b
          have Lx28c := fun x : Later W.heap.size W => (x.cell x28z).trans x28c
          have Lx28g := fun x : Later W.heap.size W => (x.cell x28z).trans x28g
          have Ly28a := fun x : Later W.heap.size W => (x.cell y28z).trans y28a
          have Ly28b := fun x : Later W.heap.size W => (x.cell y28z).trans y28b
          have Ly28c := fun x : Later W.heap.size W => (x.cell y28z).trans y28c
          have Ly28g := fun x : Later W.heap.size W => (x.cell y28z).trans y28g
          try simp only [List.append_eq, List.cons_append, List.nil_append]
          refine region_later W.heap.size (by kernel_rfl) (by kernel_rfl) ?_
          repeat (go_big_quiet_step (first | (go_at_call 14; with_reducible exact later_of (Nat.le_refl _) (HA _ ((he.go hB).go (Later.below _))).out) | (go_at_call 14; with_reducible exact later_of (Nat.le_refl _) (HB _ ((he.go hB).go (Later.below _))).out) | (go_at_call 16; with_reducible exact later_of (Nat.le_refl _) (HP _ ((he.go hB).go (Later.below _))).out) | (go_at_call 16; with_reducible exact later_of (Nat.le_refl _) (HQ _ ((he.go hB).go (Later.below _))).out) | (go_at_call 19; with_reducible exact later_bool hs (Nat.le_refl _) (psane_any p _)) | (go_at_call 19; with_reducible exact later_bool ht (Nat.le_refl _) (psane_any q _))))
          refine wpQuiet_nil ?_
          intro x
          have hx : Below w.heap.size w x.at := hB.trans (x.below.mono hz)
          generalize x.at = wz at *
          go_wp2
          go_ret
          exact ⟨rfl, hx⟩
        · skip
          have HA := fun w he => Lib.hid (printAddr_any a w he)
          have HB := fun w he => Lib.hid (printAddr_any b w he)
          have HP := fun w he => Lib.hid (print_any p h0 h1 w he)
          have HQ := fun w he => Lib.hid (print_any q h2 h3 w he)
          go_enter Tryd.func7, Tryd.ntmps7
          go_wp2_with fail
          refine (awake3_any _ (he.go (by go_grown))).mono ?_
          rintro e w1 ⟨rfl, hw1⟩
          have zw1 := hw1.size
          have bw1 := below_of (w := w) (by go_grown) hw1
          try simp at zw1
          obtain ⟨a29a, a29b, a29c, a29d, a29e, a29f, a29z⟩ := cells3 (b := w.heap.size) hw1 (by go_size) (by go_simp <;> rfl) (by go_simp <;> rfl) (by go_simp <;> rfl) (by go_simp <;> rfl) (by go_simp <;> rfl) (by go_simp <;> rfl)
          obtain ⟨b29a, b29b, b29c, b29d, b29e, b29f, b29z⟩ := cells3 (b := w.heap.size + 1) hw1 (by go_size) (by go_simp <;> rfl) (by go_simp <;> rfl) (by go_simp <;> rfl) (by go_simp <;> rfl) (by go_simp <;> rfl) (by go_simp <;> rfl)
          obtain ⟨p29a, p29b, p29c, p29g, p29d, p29e, p29f, p29h, p29z⟩ := cells4 (b := w.heap.size + 1 + 1) hw1 (by go_size) (by go_simp <;> rfl) (by go_simp <;> rfl) (by go_simp <;> rfl) (by go_simp <;> rfl) (by go_simp <;> rfl) (by go_simp <;> rfl) (by go_simp <;> rfl) (by go_simp <;> rfl)
          obtain ⟨q29a, q29b, q29c, q29g, q29d, q29e, q29f, q29h, q29z⟩ := cells4 (b := w.heap.size + 1 + 1 + 1) hw1 (by go_size) (by go_simp <;> rfl) (by go_simp <;> rfl) (by go_simp <;> rfl) (by go_simp <;> rfl) (by go_simp <;> rfl) (by go_simp <;> rfl) (by go_simp <;> rfl) (by go_simp <;> rfl)
          clear hw1
          go_wp2_with fail
          refine (pof_any a 128 _).mono ?_
          rintro e w2 ⟨rfl, hw2⟩
          have zw2 := hw2.size
          have bw2 := below_of (w := w) (by go_grown) hw2
          try simp at zw2
          have hw1b := below_of (w := w1) (by go_grown) hw2
          obtain ⟨a30a, a30b, a30c, a30d, a30e, a30f, a30z⟩ := cells3 hw1b a29z a29a a29b a29c a29d a29e a29f
          obtain ⟨b30a, b30b, b30c, b30d, b30e, b30f, b30z⟩ := cells3 hw1b b29z b29a b29b b29c b29d b29e b29f
          obtain ⟨p30a, p30b, p30c, p30g, p30d, p30e, p30f, p30h, p30z⟩ := cells4 hw1b p29z p29a p29b p29c p29g p29d p29e p29f p29h
          obtain ⟨q30a, q30b, q30c, q30g, q30d, q30e, q30f, q30h, q30z⟩ := cells4 hw1b q29z q29a q29b q29c q29g q29d q29e q29f q29h
          clear a29a a29b a29c a29d a29e a29f a29z b29a b29b b29c b29d b29e b29f b29z p29a p29b p29c p29g p29d p29e p29f p29h p29z q29a q29b q29c q29g q29d q29e q29f q29h q29z hw2 hw1b
          go_wp2_with fail
          refine (pof_any b 128 _).mono ?_
          rintro e w3 ⟨rfl, hw3⟩
          have zw3 := hw3.size
          have bw3 := below_of (w := w) (by go_grown) hw3
          try simp at zw3
          have hw2b := below_of (w := w2) (by go_grown) hw3
          obtain ⟨a31a, a31b, a31c, a31d, a31e, a31f, a31z⟩ := cells3 hw2b a30z a30a a30b a30c a30d a30e a30f
          obtain ⟨b31a, b31b, b31c, b31d, b31e, b31f, b31z⟩ := cells3 hw2b b30z b30a b30b b30c b30d b30e b30f
          obtain ⟨p31a, p31b, p31c, p31g, p31d, p31e, p31f, p31h, p31z⟩ := cells4 hw2b p30z p30a p30b p30c p30g p30d p30e p30f p30h
          obtain ⟨q31a, q31b, q31c, q31g, q31d, q31e, q31f, q31h, q31z⟩ := cells4 hw2b q30z q30a q30b q30c q30g q30d q30e q30f q30h
          obtain ⟨x31a, x31b, x31c, x31g, x31d, x31e, x31f, x31h, x31z⟩ := cells4 (b := w2.heap.size) hw3 (by go_size) (by go_simp <;> rfl) (by go_simp <;> rfl) (by go_simp <;> rfl) (by go_simp <;> rfl) (by go_simp <;> rfl) (by go_simp <;> rfl) (by go_simp <;> rfl) (by go_simp <;> rfl)
          clear a30a a30b a30c a30d a30e a30f a30z b30a b30b b30c b30d b30e b30f b30z p30a p30b p30c p30g p30d p30e p30f p30h p30z q30a q30b q30c q30g q30d q30e q30f q30h q30z hw3 hw2b
          go_wp2_with fail
          generalize hW : World.alloc _ _ = W
          have hz : w.heap.size ≤ W.heap.size := by subst hW; go_size
          have hB : Below w.heap.size w W := by subst hW; go_grown
          have hw3b : Below w3.heap.size w3 W := by subst hW; go_grown
          obtain ⟨a32a, a32b, a32c, a32d, a32e, a32f, a32z⟩ := cells3 hw3b a31z a31a a31b a31c a31d a31e a31f
          obtain ⟨b32a, b32b, b32c, b32d, b32e, b32f, b32z⟩ := cells3 hw3b b31z b31a b31b b31c b31d b31e b31f
          obtain ⟨p32a, p32b, p32c, p32g, p32d, p32e, p32f, p32h, p32z⟩ := cells4 hw3b p31z p31a p31b p31c p31g p31d p31e p31f p31h
          obtain ⟨q32a, q32b, q32c, q32g, q32d, q32e, q32f, q32h, q32z⟩ := cells4 hw3b q31z q31a q31b q31c q31g q31d q31e q31f q31h
          obtain ⟨x32a, x32b, x32c, x32g, x32d, x32e, x32f, x32h, x32z⟩ := cells4 hw3b x31z x31a x31b x31c x31g x31d x31e x31f x31h
          obtain ⟨y32a, y32b, y32c, y32g, y32d, y32e, y32f, y32h, y32z⟩ := cells4 (W := W) (b := w3.heap.size) (Below.refl _ W) (by subst hW; go_size) (by subst hW; go_simp <;> rfl) (by subst hW; go_simp <;> rfl) (by subst hW; go_simp <;> rfl) (by subst hW; go_simp <;> rfl) (by subst hW; go_simp <;> rfl) (by subst hW; go_simp <;> rfl) (by subst hW; go_simp <;> rfl) (by subst hW; go_simp <;> rfl)
          clear a31a a31b a31c a31d a31e a31f a31z b31a b31b b31c b31d b31e b31f b31z p31a p31b p31c p31g p31d p31e p31f p31h p31z q31a q31b q31c q31g q31d q31e q31f q31h q31z x31a x31b x31c x31g x31d x31e x31f x31h x31z hW hw3b
          have La32a := fun x : Later W.heap.size W => (x.cell a32z).trans a32a
          have La32b := fun x : Later W.heap.size W => (x.cell a32z).trans a32b
          have La32c := fun x : Later W.heap.size W => (x.cell a32z).trans a32c
          have Lb32a := fun x : Later W.heap.size W => (x.cell b32z).trans b32a
          have Lb32b := fun x : Later W.heap.size W => (x.cell b32z).trans b32b
          have Lb32c := fun x : Later W.heap.size W => (x.cell b32z).trans b32c
          have Lp32a := fun x : Later W.heap.size W => (x.cell p32z).trans p32a
          have Lp32b := fun x : Later W.heap.size W => (x.cell p32z).trans p32b
          have Lp32c := fun x : Later W.heap.size W => (x.cell p32z).trans p32c
          have Lp32g := fun x : Later W.heap.size W => (x.cell p32z).trans p32g
          have Lq32a := fun x : Later W.heap.size W => (x.cell q32z).trans q32a
          have Lq32b := fun x : Later W.heap.size W => (x.cell q32z).trans q32b
          have Lq32c := fun x : Later W.heap.size W => (x.cell q32z).trans q32c
          have Lq32g := fun x : Later W.heap.size W => (x.cell q32z).trans q32g
          have Lx32a := fun x : Later W.heap.size W => (x.cell x32z).trans x32a
          have Lx32b := fun x : Later W.heap.size W => (x.cell x32z).trans x32b
          have Lx32c := fun x : Later W.heap.size W => (x.cell x32z).trans x32c
          have Lx32g := fun x : Later W.heap.size W => (x.cell x32z).trans x32g
          have Ly32a := fun x : Later W.heap.size W => (x.cell y32z).trans y32a
          have Ly32b := fun x : Later W.heap.size W => (x.cell y32z).trans y32b
          have Ly32c := fun x : Later W.heap.size W => (x.cell y32z).trans y32c
          have Ly32g := fun x : Later W.heap.size W => (x.cell y32z).trans y32g
          try simp only [List.append_eq, List.cons_append, List.nil_append]
          refine region_later W.heap.size (by kernel_rfl) (by kernel_rfl) ?_
          repeat (go_big_quiet_step (first | (go_at_call 14; with_reducible exact later_of (Nat.le_refl _) (HA _ ((he.go hB).go (Later.below _))).out) | (go_at_call 14; with_reducible exact later_of (Nat.le_refl _) (HB _ ((he.go hB).go (Later.below _))).out) | (go_at_call 16; with_reducible exact later_of (Nat.le_refl _) (HP _ ((he.go hB).go (Later.below _))).out) | (go_at_call 16; with_reducible exact later_of (Nat.le_refl _) (HQ _ ((he.go hB).go (Later.below _))).out) | (go_at_call 19; with_reducible exact later_bool hs (Nat.le_refl _) (psane_any p _)) | (go_at_call 19; with_reducible exact later_bool ht (Nat.le_refl _) (psane_any q _))))
          refine wpQuiet_nil ?_
          intro x
          have hx : Below w.heap.size w x.at := hB.trans (x.below.mono hz)
          generalize x.at = wz at *
          go_wp2
          go_ret
          exact ⟨rfl, hx⟩

theorem textApart_law (a b : Ad) (p : Pf) (h0 : -9223372036854775808 ≤ p.n) (h1 : p.n ≤ 9223372036854775807) (q : Pf) (h2 : -9223372036854775808 ≤ q.n) (h3 : q.n ≤ 9223372036854775807) (w : World) (he : Env w) :
    Calls Tryd.prog 7 #[.agg #[.int .u64 (u a.hi), .int .u64 (u a.lo), .bool a.v6], .agg #[.int .u64 (u b.hi), .int .u64 (u b.lo), .bool b.v6], .agg #[.int .u64 (u p.a.hi), .int .u64 (u p.a.lo), .bool p.a.v6, .int .i64 p.n], .agg #[.int .u64 (u q.a.hi), .int .u64 (u q.a.lo), .bool q.a.v6, .int .i64 q.n]] w fun e w' => e = .returned (.bool true) ∧ Below w.heap.size w w' := by
  refine textApart_gen a b p q (decide (norm a = norm b)) (decide (p = q)) _ _ h0 h1 h2 h3 ?_ ?_ rfl rfl (fun hp hq => ?_) (fun hp hq => ?_) w he
  · rw [Bool.eq_iff_iff, beq_iff_eq, decide_eq_true_iff]
    exact printA_iff a b
  · rw [Bool.eq_iff_iff, decide_eq_true_iff, ← pof128_iff]
    exact pfEq_iff _ _
  · rw [Bool.eq_iff_iff, beq_iff_eq, decide_eq_true_iff]
    exact printP_iff p q hp hq
  · rw [Bool.eq_iff_iff, decide_eq_true_iff]
    exact pfEq_iff _ _

end Go.Proofs.YtgmlpcmplglnoaaDoor
