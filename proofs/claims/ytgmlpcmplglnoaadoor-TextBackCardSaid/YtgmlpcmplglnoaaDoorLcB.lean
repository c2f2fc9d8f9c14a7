/-
  TextBack returns true, whatever address and prefix. Condition: the library's tables hold what its text lays.
-/
import Derived.Test.YtgmlpcmplglnoaaDoorTw
import Derived.Test.YtgmlpcmplglnoaaDoorLate
namespace Go.Proofs.YtgmlpcmplglnoaaDoor
open Go.RowKit
set_option maxRecDepth 100000

set_option maxHeartbeats 1000000 in
theorem textBack_gen (a : Ad) (p q : Pf) (f : Int) (s : Bool) (hq : parseP (printP p) = (q, f)) (h0 : -9223372036854775808 ≤ p.n) (h1 : p.n ≤ 9223372036854775807) (hs : saneB a = s)
    (hp : (psane p = true ∧ q = p ∧ f = 0) ∨ (psane p = false ∧ saneB p.a = false) ∨ (psane p = false ∧ saneB p.a = true ∧ (f = 1 ∨ f = 5))) (w : World) (he : Env w) :
    Calls Tryd.prog 4 #[.agg #[.int .u64 (u a.hi), .int .u64 (u a.lo), .bool a.v6], .agg #[.int .u64 (u p.a.hi), .int .u64 (u p.a.lo), .bool p.a.v6, .int .i64 p.n]] w fun e w' => e = .returned (.bool true) ∧ Below w.heap.size w w' := by
  have t1 := saneB_ad a
  rw [hs] at t1
  have Hq := Lib.hid hq
  clear hq
  rcases hp with ⟨hp, hqp, rfl⟩ | ⟨hp, ha⟩ | ⟨hp, ha, hf⟩
  · obtain rfl : p = q := hqp.symm
    cases s
    · skip
      go_enter Tryd.func4, Tryd.ntmps4
      go_wp2_with fail
      refine (awake3_any _ (he.go (by go_grown))).mono ?_
      rintro e w1 ⟨rfl, hw1⟩
      have zw1 := hw1.size
      have bw1 := below_of (w := w) (by go_grown) hw1
      try simp at zw1
      obtain ⟨a1a, a1b, a1c, a1d, a1e, a1f, a1z⟩ := cells3 (b := w.heap.size) hw1 (by go_size) (by go_simp <;> rfl) (by go_simp <;> rfl) (by go_simp <;> rfl) (by go_simp <;> rfl) (by go_simp <;> rfl) (by go_simp <;> rfl)
      obtain ⟨p1a, p1b, p1c, p1g, p1d, p1e, p1f, p1h, p1z⟩ := cells4 (b := w.heap.size + 1) hw1 (by go_size) (by go_simp <;> rfl) (by go_simp <;> rfl) (by go_simp <;> rfl) (by go_simp <;> rfl) (by go_simp <;> rfl) (by go_simp <;> rfl) (by go_simp <;> rfl) (by go_simp <;> rfl)
      clear hw1
      go_wp2_with fail
      refine (printAddr_any a _ (he.go (by go_grown))).mono ?_
      rintro e w2 ⟨rfl, hw2⟩
      have zw2 := hw2.size
      have bw2 := below_of (w := w) (by go_grown) hw2
      try simp at zw2
      have hw1b := below_of (w := w1) (by go_grown) hw2
      obtain ⟨a2a, a2b, a2c, a2d, a2e, a2f, a2z⟩ := cells3 hw1b a1z a1a a1b a1c a1d a1e a1f
      obtain ⟨p2a, p2b, p2c, p2g, p2d, p2e, p2f, p2h, p2z⟩ := cells4 hw1b p1z p1a p1b p1c p1g p1d p1e p1f p1h
      clear a1a a1b a1c a1d a1e a1f a1z p1a p1b p1c p1g p1d p1e p1f p1h p1z hw2 hw1b
      go_wp2_with fail
      refine (parsePrint_any a _ (he.go (by go_grown))).mono ?_
      rintro e w3 ⟨rfl, hw3⟩
      have zw3 := hw3.size
      have bw3 := below_of (w := w) (by go_grown) hw3
      try simp at zw3
      have hw2b := below_of (w := w2) (by go_grown) hw3
      obtain ⟨a3a, a3b, a3c, a3d, a3e, a3f, a3z⟩ := cells3 hw2b a2z a2a a2b a2c a2d a2e a2f
      obtain ⟨p3a, p3b, p3c, p3g, p3d, p3e, p3f, p3h, p3z⟩ := cells4 hw2b p2z p2a p2b p2c p2g p2d p2e p2f p2h
      clear a2a a2b a2c a2d a2e a2f a2z p2a p2b p2c p2g p2d p2e p2f p2h p2z hw3 hw2b
      go_wp2_with fail
      refine (print_any p h0 h1 _ (he.go (by go_grown))).mono ?_
      rintro e w4 ⟨rfl, hw4⟩
      have zw4 := hw4.size
      have bw4 := below_of (w := w) (by go_grown) hw4
      try simp at zw4
      have hw3b := below_of (w := w3) (by go_grown) hw4
      obtain ⟨a4a, a4b, a4c, a4d, a4e, a4f, a4z⟩ := cells3 hw3b a3z a3a a3b a3c a3d a3e a3f
      obtain ⟨p4a, p4b, p4c, p4g, p4d, p4e, p4f, p4h, p4z⟩ := cells4 hw3b p3z p3a p3b p3c p3g p3d p3e p3f p3h
      obtain ⟨x4a, x4b, x4c, x4d, x4e, x4f, x4z⟩ := cells3 (b := w3.heap.size) hw4 (by go_size) (by go_simp <;> rfl) (by go_simp <;> rfl) (by go_simp <;> rfl) (by go_simp <;> rfl) (by go_simp <;> rfl) (by go_simp <;> rfl)
      clear a3a a3b a3c a3d a3e a3f a3z p3a p3b p3c p3g p3d p3e p3f p3h p3z hw4 hw3b
      go_wp2_with fail
      refine (parsePrintP_any p _ _ Hq.out h0 h1 _ (he.go (by go_grown))).mono ?_
      rintro e w5 ⟨rfl, hw5⟩
      have zw5 := hw5.size
      have bw5 := below_of (w := w) (by go_grown) hw5
      try simp at zw5
      have hw4b := below_of (w := w4) (by go_grown) hw5
      obtain ⟨a5a, a5b, a5c, a5d, a5e, a5f, a5z⟩ := cells3 hw4b a4z a4a a4b a4c a4d a4e a4f
      obtain ⟨p5a, p5b, p5c, p5g, p5d, p5e, p5f, p5h, p5z⟩ := cells4 hw4b p4z p4a p4b p4c p4g p4d p4e p4f p4h
      obtain ⟨x5a, x5b, x5c, x5d, x5e, x5f, x5z⟩ := cells3 hw4b x4z x4a x4b x4c x4d x4e x4f
      clear a4a a4b a4c a4d a4e a4f a4z p4a p4b p4c p4g p4d p4e p4f p4h p4z x4a x4b x4c x4d x4e x4f x4z hw5 hw4b
      go_wp2_with fail
      generalize hW : World.alloc _ _ = W
      have hz : w.heap.size ≤ W.heap.size := by subst hW; go_size
      have hB : Below w.heap.size w W := by subst hW; go_grown
      have hw5b : Below w5.heap.size w5 W := by subst hW; go_grown
      obtain ⟨a6a, a6b, a6c, a6d, a6e, a6f, a6z⟩ := cells3 hw5b a5z a5a a5b a5c a5d a5e a5f
      obtain ⟨p6a, p6b, p6c, p6g, p6d, p6e, p6f, p6h, p6z⟩ := cells4 hw5b p5z p5a p5b p5c p5g p5d p5e p5f p5h
      obtain ⟨x6a, x6b, x6c, x6d, x6e, x6f, x6z⟩ := cells3 hw5b x5z x5a x5b x5c x5d x5e x5f
      obtain ⟨q6a, q6b, q6c, q6g, q6d, q6e, q6f, q6h, q6z⟩ := cells4 (W := W) (b := w5.heap.size) (Below.refl _ W) (by subst hW; go_size) (by subst hW; go_simp <;> rfl) (by subst hW; go_simp <;> rfl) (by subst hW; go_simp <;> rfl) (by subst hW; go_simp <;> rfl) (by subst hW; go_simp <;> rfl) (by subst hW; go_simp <;> rfl) (by subst hW; go_simp <;> rfl) (by subst hW; go_simp <;> rfl)
      clear a5a a5b a5c a5d a5e a5f a5z p5a p5b p5c p5g p5d p5e p5f p5h p5z x5a x5b x5c x5d x5e x5f x5z hW hw5b
      have La6a := fun x : Later W.heap.size W => (x.cell a6z).trans a6a
      have La6b := fun x : Later W.heap.size W => (x.cell a6z).trans a6b
      have La6c := fun x : Later W.heap.size W => (x.cell a6z).trans a6c
      have Lp6a := fun x : Later W.heap.size W => (x.cell p6z).trans p6a
      have Lp6b := fun x : Later W.heap.size W => (x.cell p6z).trans p6b
      have Lp6c := fun x : Later W.heap.size W => (x.cell p6z).trans p6c
      have Lp6g := fun x : Later W.heap.size W => (x.cell p6z).trans p6g
      have Lx6a := fun x : Later W.heap.size W => (x.cell x6z).trans x6a
      have Lx6b := fun x : Later W.heap.size W => (x.cell x6z).trans x6b
      have Lx6c := fun x : Later W.heap.size W => (x.cell x6z).trans x6c
      have Lq6a := fun x : Later W.heap.size W => (x.cell q6z).trans q6a
      have Lq6b := fun x : Later W.heap.size W => (x.cell q6z).trans q6b
      have Lq6c := fun x : Later W.heap.size W => (x.cell q6z).trans q6c
      have Lq6g := fun x : Later W.heap.size W => (x.cell q6z).trans q6g
      try simp only [List.append_eq, List.cons_append, List.nil_append]
      refine region_later W.heap.size (by kernel_rfl) (by kernel_rfl) ?_
      repeat (go_big_quiet_step (first | (go_at_call 18; exact later_bool hs (Nat.le_refl _) (sane_any a _)) | (go_at_call 19; exact later_bool hp (Nat.le_refl _) (psane_any p _))))
      refine wpQuiet_nil ?_
      intro x
      have hx : Below w.heap.size w x.at := hB.trans (x.below.mono hz)
      clear La6a La6b La6c Lp6a Lp6b Lp6c Lp6g Lx6a Lx6b Lx6c Lq6a Lq6b Lq6c Lq6g
      obtain ⟨a7a, a7b, a7c, a7d, a7e, a7f, a7z⟩ := cells3 x.below a6z a6a a6b a6c a6d a6e a6f
      obtain ⟨p7a, p7b, p7c, p7g, p7d, p7e, p7f, p7h, p7z⟩ := cells4 x.below p6z p6a p6b p6c p6g p6d p6e p6f p6h
      obtain ⟨x7a, x7b, x7c, x7d, x7e, x7f, x7z⟩ := cells3 x.below x6z x6a x6b x6c x6d x6e x6f
      obtain ⟨q7a, q7b, q7c, q7g, q7d, q7e, q7f, q7h, q7z⟩ := cells4 x.below q6z q6a q6b q6c q6g q6d q6e q6f q6h
      clear a6a a6b a6c a6d a6e a6f a6z p6a p6b p6c p6g p6d p6e p6f p6h p6z x6a x6b x6c x6d x6e x6f x6z q6a q6b q6c q6g q6d q6e q6f q6h q6z
      have bw6 := hx
      have zw6 := hx.size
      clear hx
      generalize x.at = w6 at *
      clear x hB hz W
      go_wp2_with fail
      refine (psane_any p _).mono ?_
      rintro e w7 ⟨rfl, hw7⟩
      have zw7 := hw7.size
      have bw7 := below_of (w := w) (by go_grown) hw7
      try simp at zw7
      have hw6b := below_of (w := w6) (by go_grown) hw7
      obtain ⟨a8a, a8b, a8c, a8d, a8e, a8f, a8z⟩ := cells3 hw6b a7z a7a a7b a7c a7d a7e a7f
      obtain ⟨p8a, p8b, p8c, p8g, p8d, p8e, p8f, p8h, p8z⟩ := cells4 hw6b p7z p7a p7b p7c p7g p7d p7e p7f p7h
      obtain ⟨x8a, x8b, x8c, x8d, x8e, x8f, x8z⟩ := cells3 hw6b x7z x7a x7b x7c x7d x7e x7f
      obtain ⟨q8a, q8b, q8c, q8g, q8d, q8e, q8f, q8h, q8z⟩ := cells4 hw6b q7z q7a q7b q7c q7g q7d q7e q7f q7h
      clear a7a a7b a7c a7d a7e a7f a7z p7a p7b p7c p7g p7d p7e p7f p7h p7z x7a x7b x7c x7d x7e x7f x7z q7a q7b q7c q7g q7d q7e q7f q7h q7z hw7 hw6b
      go_wp2
      go_ret
      exact ⟨rfl, bw7⟩
    · skip
      go_enter Tryd.func4, Tryd.ntmps4
      go_wp2_with fail
      refine (awake3_any _ (he.go (by go_grown))).mono ?_
      rintro e w1 ⟨rfl, hw1⟩
      have zw1 := hw1.size
      have bw1 := below_of (w := w) (by go_grown) hw1
      try simp at zw1
      obtain ⟨a9a, a9b, a9c, a9d, a9e, a9f, a9z⟩ := cells3 (b := w.heap.size) hw1 (by go_size) (by go_simp <;> rfl) (by go_simp <;> rfl) (by go_simp <;> rfl) (by go_simp <;> rfl) (by go_simp <;> rfl) (by go_simp <;> rfl)
      obtain ⟨p9a, p9b, p9c, p9g, p9d, p9e, p9f, p9h, p9z⟩ := cells4 (b := w.heap.size + 1) hw1 (by go_size) (by go_simp <;> rfl) (by go_simp <;> rfl) (by go_simp <;> rfl) (by go_simp <;> rfl) (by go_simp <;> rfl) (by go_simp <;> rfl) (by go_simp <;> rfl) (by go_simp <;> rfl)
      clear hw1
      go_wp2_with fail
      refine (printAddr_any a _ (he.go (by go_grown))).mono ?_
      rintro e w2 ⟨rfl, hw2⟩
      have zw2 := hw2.size
      have bw2 := below_of (w := w) (by go_grown) hw2
      try simp at zw2
      have hw1b := below_of (w := w1) (by go_grown) hw2
      obtain ⟨a10a, a10b, a10c, a10d, a10e, a10f, a10z⟩ := cells3 hw1b a9z a9a a9b a9c a9d a9e a9f
      obtain ⟨p10a, p10b, p10c, p10g, p10d, p10e, p10f, p10h, p10z⟩ := cells4 hw1b p9z p9a p9b p9c p9g p9d p9e p9f p9h
      clear a9a a9b a9c a9d a9e a9f a9z p9a p9b p9c p9g p9d p9e p9f p9h p9z hw2 hw1b
      go_wp2_with fail
      refine (parsePrint_any a _ (he.go (by go_grown))).mono ?_
      rintro e w3 ⟨rfl, hw3⟩
      have zw3 := hw3.size
      have bw3 := below_of (w := w) (by go_grown) hw3
      try simp at zw3
      have hw2b := below_of (w := w2) (by go_grown) hw3
      obtain ⟨a11a, a11b, a11c, a11d, a11e, a11f, a11z⟩ := cells3 hw2b a10z a10a a10b a10c a10d a10e a10f
      obtain ⟨p11a, p11b, p11c, p11g, p11d, p11e, p11f, p11h, p11z⟩ := cells4 hw2b p10z p10a p10b p10c p10g p10d p10e p10f p10h
      clear a10a a10b a10c a10d a10e a10f a10z p10a p10b p10c p10g p10d p10e p10f p10h p10z hw3 hw2b
      go_wp2_with fail
      refine (print_any p h0 h1 _ (he.go (by go_grown))).mono ?_
      rintro e w4 ⟨rfl, hw4⟩
      have zw4 := hw4.size
      have bw4 := below_of (w := w) (by go_grown) hw4
      try simp at zw4
      have hw3b := below_of (w := w3) (by go_grown) hw4
      obtain ⟨a12a, a12b, a12c, a12d, a12e, a12f, a12z⟩ := cells3 hw3b a11z a11a a11b a11c a11d a11e a11f
      obtain ⟨p12a, p12b, p12c, p12g, p12d, p12e, p12f, p12h, p12z⟩ := cells4 hw3b p11z p11a p11b p11c p11g p11d p11e p11f p11h
      obtain ⟨x12a, x12b, x12c, x12d, x12e, x12f, x12z⟩ := cells3 (b := w3.heap.size) hw4 (by go_size) (by go_simp <;> rfl) (by go_simp <;> rfl) (by go_simp <;> rfl) (by go_simp <;> rfl) (by go_simp <;> rfl) (by go_simp <;> rfl)
      clear a11a a11b a11c a11d a11e a11f a11z p11a p11b p11c p11g p11d p11e p11f p11h p11z hw4 hw3b
      go_wp2_with fail
      refine (parsePrintP_any p _ _ Hq.out h0 h1 _ (he.go (by go_grown))).mono ?_
      rintro e w5 ⟨rfl, hw5⟩
      have zw5 := hw5.size
      have bw5 := below_of (w := w) (by go_grown) hw5
      try simp at zw5
      have hw4b := below_of (w := w4) (by go_grown) hw5
      obtain ⟨a13a, a13b, a13c, a13d, a13e, a13f, a13z⟩ := cells3 hw4b a12z a12a a12b a12c a12d a12e a12f
      obtain ⟨p13a, p13b, p13c, p13g, p13d, p13e, p13f, p13h, p13z⟩ := cells4 hw4b p12z p12a p12b p12c p12g p12d p12e p12f p12h
      obtain ⟨x13a, x13b, x13c, x13d, x13e, x13f, x13z⟩ := cells3 hw4b x12z x12a x12b x12c x12d x12e x12f
      clear a12a a12b a12c a12d a12e a12f a12z p12a p12b p12c p12g p12d p12e p12f p12h p12z x12a x12b x12c x12d x12e x12f x12z hw5 hw4b
      go_wp2_with fail
      generalize hW : World.alloc _ _ = W
      have hz : w.heap.size ≤ W.heap.size := by subst hW; go_size
      have hB : Below w.heap.size w W := by subst hW; go_grown
      have hw5b : Below w5.heap.size w5 W := by subst hW; go_grown
      obtain ⟨a14a, a14b, a14c, a14d, a14e, a14f, a14z⟩ := cells3 hw5b a13z a13a a13b a13c a13d a13e a13f
      obtain ⟨p14a, p14b, p14c, p14g, p14d, p14e, p14f, p14h, p14z⟩ := cells4 hw5b p13z p13a p13b p13c p13g p13d p13e p13f p13h
      obtain ⟨x14a, x14b, x14c, x14d, x14e, x14f, x14z⟩ := cells3 hw5b x13z x13a x13b x13c x13d x13e x13f
      obtain ⟨q14a, q14b, q14c, q14g, q14d, q14e, q14f, q14h, q14z⟩ := cells4 (W := W) (b := w5.heap.size) (Below.refl _ W) (by subst hW; go_size) (by subst hW; go_simp <;> rfl) (by subst hW; go_simp <;> rfl) (by subst hW; go_simp <;> rfl) (by subst hW; go_simp <;> rfl) (by subst hW; go_simp <;> rfl) (by subst hW; go_simp <;> rfl) (by subst hW; go_simp <;> rfl) (by subst hW; go_simp <;> rfl)
      clear a13a a13b a13c a13d a13e a13f a13z p13a p13b p13c p13g p13d p13e p13f p13h p13z x13a x13b x13c x13d x13e x13f x13z hW hw5b
      have La14a := fun x : Later W.heap.size W => (x.cell a14z).trans a14a
      have La14b := fun x : Later W.heap.size W => (x.cell a14z).trans a14b
      have La14c := fun x : Later W.heap.size W => (x.cell a14z).trans a14c
      have Lp14a := fun x : Later W.heap.size W => (x.cell p14z).trans p14a
      have Lp14b := fun x : Later W.heap.size W => (x.cell p14z).trans p14b
      have Lp14c := fun x : Later W.heap.size W => (x.cell p14z).trans p14c
      have Lp14g := fun x : Later W.heap.size W => (x.cell p14z).trans p14g
      have Lx14a := fun x : Later W.heap.size W => (x.cell x14z).trans x14a
      have Lx14b := fun x : Later W.heap.size W => (x.cell x14z).trans x14b
      have Lx14c := fun x : Later W.heap.size W => (x.cell x14z).trans x14c
      have Lq14a := fun x : Later W.heap.size W => (x.cell q14z).trans q14a
      have Lq14b := fun x : Later W.heap.size W => (x.cell q14z).trans q14b
      have Lq14c := fun x : Later W.heap.size W => (x.cell q14z).trans q14c
      have Lq14g := fun x : Later W.heap.size W => (x.cell q14z).trans q14g
      try simp only [List.append_eq, List.cons_append, List.nil_append]
      refine region_later W.heap.size (by kernel_rfl) (by kernel_rfl) ?_
      repeat (go_big_quiet_step (first | (go_at_call 18; exact later_bool hs (Nat.le_refl _) (sane_any a _)) | (go_at_call 19; exact later_bool hp (Nat.le_refl _) (psane_any p _))))
      refine wpQuiet_nil ?_
      intro x
      have hx : Below w.heap.size w x.at := hB.trans (x.below.mono hz)
      clear La14a La14b La14c Lp14a Lp14b Lp14c Lp14g Lx14a Lx14b Lx14c Lq14a Lq14b Lq14c Lq14g
      obtain ⟨a15a, a15b, a15c, a15d, a15e, a15f, a15z⟩ := cells3 x.below a14z a14a a14b a14c a14d a14e a14f
      obtain ⟨p15a, p15b, p15c, p15g, p15d, p15e, p15f, p15h, p15z⟩ := cells4 x.below p14z p14a p14b p14c p14g p14d p14e p14f p14h
      obtain ⟨x15a, x15b, x15c, x15d, x15e, x15f, x15z⟩ := cells3 x.below x14z x14a x14b x14c x14d x14e x14f
      obtain ⟨q15a, q15b, q15c, q15g, q15d, q15e, q15f, q15h, q15z⟩ := cells4 x.below q14z q14a q14b q14c q14g q14d q14e q14f q14h
      clear a14a a14b a14c a14d a14e a14f a14z p14a p14b p14c p14g p14d p14e p14f p14h p14z x14a x14b x14c x14d x14e x14f x14z q14a q14b q14c q14g q14d q14e q14f q14h q14z
      have bw6 := hx
      have zw6 := hx.size
      clear hx
      generalize x.at = w6 at *
      clear x hB hz W
      go_wp2_with fail
      refine (psane_any p _).mono ?_
      rintro e w7 ⟨rfl, hw7⟩
      have zw7 := hw7.size
      have bw7 := below_of (w := w) (by go_grown) hw7
      try simp at zw7
      have hw6b := below_of (w := w6) (by go_grown) hw7
      obtain ⟨a16a, a16b, a16c, a16d, a16e, a16f, a16z⟩ := cells3 hw6b a15z a15a a15b a15c a15d a15e a15f
      obtain ⟨p16a, p16b, p16c, p16g, p16d, p16e, p16f, p16h, p16z⟩ := cells4 hw6b p15z p15a p15b p15c p15g p15d p15e p15f p15h
      obtain ⟨x16a, x16b, x16c, x16d, x16e, x16f, x16z⟩ := cells3 hw6b x15z x15a x15b x15c x15d x15e x15f
      obtain ⟨q16a, q16b, q16c, q16g, q16d, q16e, q16f, q16h, q16z⟩ := cells4 hw6b q15z q15a q15b q15c q15g q15d q15e q15f q15h
      clear a15a a15b a15c a15d a15e a15f a15z p15a p15b p15c p15g p15d p15e p15f p15h p15z x15a x15b x15c x15d x15e x15f x15z q15a q15b q15c q15g q15d q15e q15f q15h q15z hw7 hw6b
      go_wp2
      go_ret
      exact ⟨rfl, bw7⟩
  · cases s
    · skip
      go_enter Tryd.func4, Tryd.ntmps4
      go_wp2_with fail
      refine (awake3_any _ (he.go (by go_grown))).mono ?_
      rintro e w1 ⟨rfl, hw1⟩
      have zw1 := hw1.size
      have bw1 := below_of (w := w) (by go_grown) hw1
      try simp at zw1
      obtain ⟨a17a, a17b, a17c, a17d, a17e, a17f, a17z⟩ := cells3 (b := w.heap.size) hw1 (by go_size) (by go_simp <;> rfl) (by go_simp <;> rfl) (by go_simp <;> rfl) (by go_simp <;> rfl) (by go_simp <;> rfl) (by go_simp <;> rfl)
      obtain ⟨p17a, p17b, p17c, p17g, p17d, p17e, p17f, p17h, p17z⟩ := cells4 (b := w.heap.size + 1) hw1 (by go_size) (by go_simp <;> rfl) (by go_simp <;> rfl) (by go_simp <;> rfl) (by go_simp <;> rfl) (by go_simp <;> rfl) (by go_simp <;> rfl) (by go_simp <;> rfl) (by go_simp <;> rfl)
      clear hw1
      go_wp2_with fail
      refine (printAddr_any a _ (he.go (by go_grown))).mono ?_
      rintro e w2 ⟨rfl, hw2⟩
      have zw2 := hw2.size
      have bw2 := below_of (w := w) (by go_grown) hw2
      try simp at zw2
      have hw1b := below_of (w := w1) (by go_grown) hw2
      obtain ⟨a18a, a18b, a18c, a18d, a18e, a18f, a18z⟩ := cells3 hw1b a17z a17a a17b a17c a17d a17e a17f
      obtain ⟨p18a, p18b, p18c, p18g, p18d, p18e, p18f, p18h, p18z⟩ := cells4 hw1b p17z p17a p17b p17c p17g p17d p17e p17f p17h
      clear a17a a17b a17c a17d a17e a17f a17z p17a p17b p17c p17g p17d p17e p17f p17h p17z hw2 hw1b
      go_wp2_with fail
      refine (parsePrint_any a _ (he.go (by go_grown))).mono ?_
      rintro e w3 ⟨rfl, hw3⟩
      have zw3 := hw3.size
      have bw3 := below_of (w := w) (by go_grown) hw3
      try simp at zw3
      have hw2b := below_of (w := w2) (by go_grown) hw3
      obtain ⟨a19a, a19b, a19c, a19d, a19e, a19f, a19z⟩ := cells3 hw2b a18z a18a a18b a18c a18d a18e a18f
      obtain ⟨p19a, p19b, p19c, p19g, p19d, p19e, p19f, p19h, p19z⟩ := cells4 hw2b p18z p18a p18b p18c p18g p18d p18e p18f p18h
      clear a18a a18b a18c a18d a18e a18f a18z p18a p18b p18c p18g p18d p18e p18f p18h p18z hw3 hw2b
      go_wp2_with fail
      refine (print_any p h0 h1 _ (he.go (by go_grown))).mono ?_
      rintro e w4 ⟨rfl, hw4⟩
      have zw4 := hw4.size
      have bw4 := below_of (w := w) (by go_grown) hw4
      try simp at zw4
      have hw3b := below_of (w := w3) (by go_grown) hw4
      obtain ⟨a20a, a20b, a20c, a20d, a20e, a20f, a20z⟩ := cells3 hw3b a19z a19a a19b a19c a19d a19e a19f
      obtain ⟨p20a, p20b, p20c, p20g, p20d, p20e, p20f, p20h, p20z⟩ := cells4 hw3b p19z p19a p19b p19c p19g p19d p19e p19f p19h
      obtain ⟨x20a, x20b, x20c, x20d, x20e, x20f, x20z⟩ := cells3 (b := w3.heap.size) hw4 (by go_size) (by go_simp <;> rfl) (by go_simp <;> rfl) (by go_simp <;> rfl) (by go_simp <;> rfl) (by go_simp <;> rfl) (by go_simp <;> rfl)
      clear a19a a19b a19c a19d a19e a19f a19z p19a p19b p19c p19g p19d p19e p19f p19h p19z hw4 hw3b
      go_wp2_with fail
      refine (parsePrintP_any p _ _ Hq.out h0 h1 _ (he.go (by go_grown))).mono ?_
      rintro e w5 ⟨rfl, hw5⟩
      have zw5 := hw5.size
      have bw5 := below_of (w := w) (by go_grown) hw5
      try simp at zw5
      have hw4b := below_of (w := w4) (by go_grown) hw5
      obtain ⟨a21a, a21b, a21c, a21d, a21e, a21f, a21z⟩ := cells3 hw4b a20z a20a a20b a20c a20d a20e a20f
      obtain ⟨p21a, p21b, p21c, p21g, p21d, p21e, p21f, p21h, p21z⟩ := cells4 hw4b p20z p20a p20b p20c p20g p20d p20e p20f p20h
      obtain ⟨x21a, x21b, x21c, x21d, x21e, x21f, x21z⟩ := cells3 hw4b x20z x20a x20b x20c x20d x20e x20f
      clear a20a a20b a20c a20d a20e a20f a20z p20a p20b p20c p20g p20d p20e p20f p20h p20z x20a x20b x20c x20d x20e x20f x20z hw5 hw4b
      go_wp2_with fail
      generalize hW : World.alloc _ _ = W
      have hz : w.heap.size ≤ W.heap.size := by subst hW; go_size
      have hB : Below w.heap.size w W := by subst hW; go_grown
      have hw5b : Below w5.heap.size w5 W := by subst hW; go_grown
      obtain ⟨a22a, a22b, a22c, a22d, a22e, a22f, a22z⟩ := cells3 hw5b a21z a21a a21b a21c a21d a21e a21f
      obtain ⟨p22a, p22b, p22c, p22g, p22d, p22e, p22f, p22h, p22z⟩ := cells4 hw5b p21z p21a p21b p21c p21g p21d p21e p21f p21h
      obtain ⟨x22a, x22b, x22c, x22d, x22e, x22f, x22z⟩ := cells3 hw5b x21z x21a x21b x21c x21d x21e x21f
      obtain ⟨q22a, q22b, q22c, q22g, q22d, q22e, q22f, q22h, q22z⟩ := cells4 (W := W) (b := w5.heap.size) (Below.refl _ W) (by subst hW; go_size) (by subst hW; go_simp <;> rfl) (by subst hW; go_simp <;> rfl) (by subst hW; go_simp <;> rfl) (by subst hW; go_simp <;> rfl) (by subst hW; go_simp <;> rfl) (by subst hW; go_simp <;> rfl) (by subst hW; go_simp <;> rfl) (by subst hW; go_simp <;> rfl)
      clear a21a a21b a21c a21d a21e a21f a21z p21a p21b p21c p21g p21d p21e p21f p21h p21z x21a x21b x21c x21d x21e x21f x21z hW hw5b
      have La22a := fun x : Later W.heap.size W => (x.cell a22z).trans a22a
      have La22b := fun x : Later W.heap.size W => (x.cell a22z).trans a22b
      have La22c := fun x : Later W.heap.size W => (x.cell a22z).trans a22c
      have Lp22a := fun x : Later W.heap.size W => (x.cell p22z).trans p22a
      have Lp22b := fun x : Later W.heap.size W => (x.cell p22z).trans p22b
      have Lp22c := fun x : Later W.heap.size W => (x.cell p22z).trans p22c
      have Lp22g := fun x : Later W.heap.size W => (x.cell p22z).trans p22g
      have Lx22a := fun x : Later W.heap.size W => (x.cell x22z).trans x22a
      have Lx22b := fun x : Later W.heap.size W => (x.cell x22z).trans x22b
      have Lx22c := fun x : Later W.heap.size W => (x.cell x22z).trans x22c
      have Lq22a := fun x : Later W.heap.size W => (x.cell q22z).trans q22a
      have Lq22b := fun x : Later W.heap.size W => (x.cell q22z).trans q22b
      have Lq22c := fun x : Later W.heap.size W => (x.cell q22z).trans q22c
      have Lq22g := fun x : Later W.heap.size W => (x.cell q22z).trans q22g
      try simp only [List.append_eq, List.cons_append, List.nil_append]
      refine region_later W.heap.size (by kernel_rfl) (by kernel_rfl) ?_
      repeat (go_big_quiet_step (first | (go_at_call 18; exact later_bool hs (Nat.le_refl _) (sane_any a _)) | (go_at_call 19; exact later_bool hp (Nat.le_refl _) (psane_any p _))))
      refine wpQuiet_nil ?_
      intro x
      have hx : Below w.heap.size w x.at := hB.trans (x.below.mono hz)
      clear La22a La22b La22c Lp22a Lp22b Lp22c Lp22g Lx22a Lx22b Lx22c Lq22a Lq22b Lq22c Lq22g
      obtain ⟨a23a, a23b, a23c, a23d, a23e, a23f, a23z⟩ := cells3 x.below a22z a22a a22b a22c a22d a22e a22f
      obtain ⟨p23a, p23b, p23c, p23g, p23d, p23e, p23f, p23h, p23z⟩ := cells4 x.below p22z p22a p22b p22c p22g p22d p22e p22f p22h
      obtain ⟨x23a, x23b, x23c, x23d, x23e, x23f, x23z⟩ := cells3 x.below x22z x22a x22b x22c x22d x22e x22f
      obtain ⟨q23a, q23b, q23c, q23g, q23d, q23e, q23f, q23h, q23z⟩ := cells4 x.below q22z q22a q22b q22c q22g q22d q22e q22f q22h
      clear a22a a22b a22c a22d a22e a22f a22z p22a p22b p22c p22g p22d p22e p22f p22h p22z x22a x22b x22c x22d x22e x22f x22z q22a q22b q22c q22g q22d q22e q22f q22h q22z
      have bw6 := hx
      have zw6 := hx.size
      clear hx
      generalize x.at = w6 at *
      clear x hB hz W
      go_wp2_with fail
      refine (psane_any p _).mono ?_
      rintro e w7 ⟨rfl, hw7⟩
      have zw7 := hw7.size
      have bw7 := below_of (w := w) (by go_grown) hw7
      try simp at zw7
      have hw6b := below_of (w := w6) (by go_grown) hw7
      obtain ⟨a24a, a24b, a24c, a24d, a24e, a24f, a24z⟩ := cells3 hw6b a23z a23a a23b a23c a23d a23e a23f
      obtain ⟨p24a, p24b, p24c, p24g, p24d, p24e, p24f, p24h, p24z⟩ := cells4 hw6b p23z p23a p23b p23c p23g p23d p23e p23f p23h
      obtain ⟨x24a, x24b, x24c, x24d, x24e, x24f, x24z⟩ := cells3 hw6b x23z x23a x23b x23c x23d x23e x23f
      obtain ⟨q24a, q24b, q24c, q24g, q24d, q24e, q24f, q24h, q24z⟩ := cells4 hw6b q23z q23a q23b q23c q23g q23d q23e q23f q23h
      clear a23a a23b a23c a23d a23e a23f a23z p23a p23b p23c p23g p23d p23e p23f p23h p23z x23a x23b x23c x23d x23e x23f x23z q23a q23b q23c q23g q23d q23e q23f q23h q23z hw7 hw6b
      go_wp2_with fail
      refine (sane_any p.a _).mono ?_
      rintro e w8 ⟨rfl, hw8⟩
      have zw8 := hw8.size
      have bw8 := below_of (w := w) (by go_grown) hw8
      try simp at zw8
      have hw7b := below_of (w := w7) (by go_grown) hw8
      obtain ⟨a25a, a25b, a25c, a25d, a25e, a25f, a25z⟩ := cells3 hw7b a24z a24a a24b a24c a24d a24e a24f
      obtain ⟨p25a, p25b, p25c, p25g, p25d, p25e, p25f, p25h, p25z⟩ := cells4 hw7b p24z p24a p24b p24c p24g p24d p24e p24f p24h
      obtain ⟨x25a, x25b, x25c, x25d, x25e, x25f, x25z⟩ := cells3 hw7b x24z x24a x24b x24c x24d x24e x24f
      obtain ⟨q25a, q25b, q25c, q25g, q25d, q25e, q25f, q25h, q25z⟩ := cells4 hw7b q24z q24a q24b q24c q24g q24d q24e q24f q24h
      clear a24a a24b a24c a24d a24e a24f a24z p24a p24b p24c p24g p24d p24e p24f p24h p24z x24a x24b x24c x24d x24e x24f x24z q24a q24b q24c q24g q24d q24e q24f q24h q24z hw8 hw7b
      go_wp2
      go_ret
      exact ⟨rfl, bw8⟩
    · skip
      go_enter Tryd.func4, Tryd.ntmps4
      go_wp2_with fail
      refine (awake3_any _ (he.go (by go_grown))).mono ?_
      rintro e w1 ⟨rfl, hw1⟩
      have zw1 := hw1.size
      have bw1 := below_of (w := w) (by go_grown) hw1
      try simp at zw1
      obtain ⟨a26a, a26b, a26c, a26d, a26e, a26f, a26z⟩ := cells3 (b := w.heap.size) hw1 (by go_size) (by go_simp <;> rfl) (by go_simp <;> rfl) (by go_simp <;> rfl) (by go_simp <;> rfl) (by go_simp <;> rfl) (by go_simp <;> rfl)
      obtain ⟨p26a, p26b, p26c, p26g, p26d, p26e, p26f, p26h, p26z⟩ := cells4 (b := w.heap.size + 1) hw1 (by go_size) (by go_simp <;> rfl) (by go_simp <;> rfl) (by go_simp <;> rfl) (by go_simp <;> rfl) (by go_simp <;> rfl) (by go_simp <;> rfl) (by go_simp <;> rfl) (by go_simp <;> rfl)
      clear hw1
      go_wp2_with fail
      refine (printAddr_any a _ (he.go (by go_grown))).mono ?_
      rintro e w2 ⟨rfl, hw2⟩
      have zw2 := hw2.size
      have bw2 := below_of (w := w) (by go_grown) hw2
      try simp at zw2
      have hw1b := below_of (w := w1) (by go_grown) hw2
      obtain ⟨a27a, a27b, a27c, a27d, a27e, a27f, a27z⟩ := cells3 hw1b a26z a26a a26b a26c a26d a26e a26f
      obtain ⟨p27a, p27b, p27c, p27g, p27d, p27e, p27f, p27h, p27z⟩ := cells4 hw1b p26z p26a p26b p26c p26g p26d p26e p26f p26h
      clear a26a a26b a26c a26d a26e a26f a26z p26a p26b p26c p26g p26d p26e p26f p26h p26z hw2 hw1b
      go_wp2_with fail
      refine (parsePrint_any a _ (he.go (by go_grown))).mono ?_
      rintro e w3 ⟨rfl, hw3⟩
      have zw3 := hw3.size
      have bw3 := below_of (w := w) (by go_grown) hw3
      try simp at zw3
      have hw2b := below_of (w := w2) (by go_grown) hw3
      obtain ⟨a28a, a28b, a28c, a28d, a28e, a28f, a28z⟩ := cells3 hw2b a27z a27a a27b a27c a27d a27e a27f
      obtain ⟨p28a, p28b, p28c, p28g, p28d, p28e, p28f, p28h, p28z⟩ := cells4 hw2b p27z p27a p27b p27c p27g p27d p27e p27f p27h
      clear a27a a27b a27c a27d a27e a27f a27z p27a p27b p27c p27g p27d p27e p27f p27h p27z hw3 hw2b
      go_wp2_with fail
      refine (print_any p h0 h1 _ (he.go (by go_grown))).mono ?_
      rintro e w4 ⟨rfl, hw4⟩
      have zw4 := hw4.size
      have bw4 := below_of (w := w) (by go_grown) hw4
      try simp at zw4
      have hw3b := below_of (w := w3) (by go_grown) hw4
      obtain ⟨a29a, a29b, a29c, a29d, a29e, a29f, a29z⟩ := cells3 hw3b a28z a28a a28b a28c a28d a28e a28f
      obtain ⟨p29a, p29b, p29c, p29g, p29d, p29e, p29f, p29h, p29z⟩ := cells4 hw3b p28z p28a p28b p28c p28g p28d p28e p28f p28h
      obtain ⟨x29a, x29b, x29c, x29d, x29e, x29f, x29z⟩ := cells3 (b := w3.heap.size) hw4 (by go_size) (by go_simp <;> rfl) (by go_simp <;> rfl) (by go_simp <;> rfl) (by go_simp <;> rfl) (by go_simp <;> rfl) (by go_simp <;> rfl)
      clear a28a a28b a28c a28d a28e a28f a28z p28a p28b p28c p28g p28d p28e p28f p28h p28z hw4 hw3b
      go_wp2_with fail
      refine (parsePrintP_any p _ _ Hq.out h0 h1 _ (he.go (by go_grown))).mono ?_
      rintro e w5 ⟨rfl, hw5⟩
      have zw5 := hw5.size
      have bw5 := below_of (w := w) (by go_grown) hw5
      try simp at zw5
      have hw4b := below_of (w := w4) (by go_grown) hw5
      obtain ⟨a30a, a30b, a30c, a30d, a30e, a30f, a30z⟩ := cells3 hw4b a29z a29a a29b a29c a29d a29e a29f
      obtain ⟨p30a, p30b, p30c, p30g, p30d, p30e, p30f, p30h, p30z⟩ := cells4 hw4b p29z p29a p29b p29c p29g p29d p29e p29f p29h
      obtain ⟨x30a, x30b, x30c, x30d, x30e, x30f, x30z⟩ := cells3 hw4b x29z x29a x29b x29c x29d x29e x29f
      clear a29a a29b a29c a29d a29e a29f a29z p29a p29b p29c p29g p29d p29e p29f p29h p29z x29a x29b x29c x29d x29e x29f x29z hw5 hw4b
      go_wp2_with fail
      generalize hW : World.alloc _ _ = W
      have hz : w.heap.size ≤ W.heap.size := by subst hW; go_size
      have hB : Below w.heap.size w W := by subst hW; go_grown
      have hw5b : Below w5.heap.size w5 W := by subst hW; go_grown
      obtain ⟨a31a, a31b, a31c, a31d, a31e, a31f, a31z⟩ := cells3 hw5b a30z a30a a30b a30c a30d a30e a30f
      obtain ⟨p31a, p31b, p31c, p31g, p31d, p31e, p31f, p31h, p31z⟩ := cells4 hw5b p30z p30a p30b p30c p30g p30d p30e p30f p30h
      obtain ⟨x31a, x31b, x31c, x31d, x31e, x31f, x31z⟩ := cells3 hw5b x30z x30a x30b x30c x30d x30e x30f
      obtain ⟨q31a, q31b, q31c, q31g, q31d, q31e, q31f, q31h, q31z⟩ := cells4 (W := W) (b := w5.heap.size) (Below.refl _ W) (by subst hW; go_size) (by subst hW; go_simp <;> rfl) (by subst hW; go_simp <;> rfl) (by subst hW; go_simp <;> rfl) (by subst hW; go_simp <;> rfl) (by subst hW; go_simp <;> rfl) (by subst hW; go_simp <;> rfl) (by subst hW; go_simp <;> rfl) (by subst hW; go_simp <;> rfl)
      clear a30a a30b a30c a30d a30e a30f a30z p30a p30b p30c p30g p30d p30e p30f p30h p30z x30a x30b x30c x30d x30e x30f x30z hW hw5b
      have La31a := fun x : Later W.heap.size W => (x.cell a31z).trans a31a
      have La31b := fun x : Later W.heap.size W => (x.cell a31z).trans a31b
      have La31c := fun x : Later W.heap.size W => (x.cell a31z).trans a31c
      have Lp31a := fun x : Later W.heap.size W => (x.cell p31z).trans p31a
      have Lp31b := fun x : Later W.heap.size W => (x.cell p31z).trans p31b
      have Lp31c := fun x : Later W.heap.size W => (x.cell p31z).trans p31c
      have Lp31g := fun x : Later W.heap.size W => (x.cell p31z).trans p31g
      have Lx31a := fun x : Later W.heap.size W => (x.cell x31z).trans x31a
      have Lx31b := fun x : Later W.heap.size W => (x.cell x31z).trans x31b
      have Lx31c := fun x : Later W.heap.size W => (x.cell x31z).trans x31c
      have Lq31a := fun x : Later W.heap.size W => (x.cell q31z).trans q31a
      have Lq31b := fun x : Later W.heap.size W => (x.cell q31z).trans q31b
      have Lq31c := fun x : Later W.heap.size W => (x.cell q31z).trans q31c
      have Lq31g := fun x : Later W.heap.size W => (x.cell q31z).trans q31g
      try simp only [List.append_eq, List.cons_append, List.nil_append]
      refine region_later W.heap.size (by kernel_rfl) (by kernel_rfl) ?_
      repeat (go_big_quiet_step (first | (go_at_call 18; exact later_bool hs (Nat.le_refl _) (sane_any a _)) | (go_at_call 19; exact later_bool hp (Nat.le_refl _) (psane_any p _))))
      refine wpQuiet_nil ?_
      intro x
      have hx : Below w.heap.size w x.at := hB.trans (x.below.mono hz)
      clear La31a La31b La31c Lp31a Lp31b Lp31c Lp31g Lx31a Lx31b Lx31c Lq31a Lq31b Lq31c Lq31g
      obtain ⟨a32a, a32b, a32c, a32d, a32e, a32f, a32z⟩ := cells3 x.below a31z a31a a31b a31c a31d a31e a31f
      obtain ⟨p32a, p32b, p32c, p32g, p32d, p32e, p32f, p32h, p32z⟩ := cells4 x.below p31z p31a p31b p31c p31g p31d p31e p31f p31h
      obtain ⟨x32a, x32b, x32c, x32d, x32e, x32f, x32z⟩ := cells3 x.below x31z x31a x31b x31c x31d x31e x31f
      obtain ⟨q32a, q32b, q32c, q32g, q32d, q32e, q32f, q32h, q32z⟩ := cells4 x.below q31z q31a q31b q31c q31g q31d q31e q31f q31h
      clear a31a a31b a31c a31d a31e a31f a31z p31a p31b p31c p31g p31d p31e p31f p31h p31z x31a x31b x31c x31d x31e x31f x31z q31a q31b q31c q31g q31d q31e q31f q31h q31z
      have bw6 := hx
      have zw6 := hx.size
      clear hx
      generalize x.at = w6 at *
      clear x hB hz W
      go_wp2_with fail
      refine (psane_any p _).mono ?_
      rintro e w7 ⟨rfl, hw7⟩
      have zw7 := hw7.size
      have bw7 := below_of (w := w) (by go_grown) hw7
      try simp at zw7
      have hw6b := below_of (w := w6) (by go_grown) hw7
      obtain ⟨a33a, a33b, a33c, a33d, a33e, a33f, a33z⟩ := cells3 hw6b a32z a32a a32b a32c a32d a32e a32f
      obtain ⟨p33a, p33b, p33c, p33g, p33d, p33e, p33f, p33h, p33z⟩ := cells4 hw6b p32z p32a p32b p32c p32g p32d p32e p32f p32h
      obtain ⟨x33a, x33b, x33c, x33d, x33e, x33f, x33z⟩ := cells3 hw6b x32z x32a x32b x32c x32d x32e x32f
      obtain ⟨q33a, q33b, q33c, q33g, q33d, q33e, q33f, q33h, q33z⟩ := cells4 hw6b q32z q32a q32b q32c q32g q32d q32e q32f q32h
      clear a32a a32b a32c a32d a32e a32f a32z p32a p32b p32c p32g p32d p32e p32f p32h p32z x32a x32b x32c x32d x32e x32f x32z q32a q32b q32c q32g q32d q32e q32f q32h q32z hw7 hw6b
      go_wp2_with fail
      refine (sane_any p.a _).mono ?_
      rintro e w8 ⟨rfl, hw8⟩
      have zw8 := hw8.size
      have bw8 := below_of (w := w) (by go_grown) hw8
      try simp at zw8
      have hw7b := below_of (w := w7) (by go_grown) hw8
      obtain ⟨a34a, a34b, a34c, a34d, a34e, a34f, a34z⟩ := cells3 hw7b a33z a33a a33b a33c a33d a33e a33f
      obtain ⟨p34a, p34b, p34c, p34g, p34d, p34e, p34f, p34h, p34z⟩ := cells4 hw7b p33z p33a p33b p33c p33g p33d p33e p33f p33h
      obtain ⟨x34a, x34b, x34c, x34d, x34e, x34f, x34z⟩ := cells3 hw7b x33z x33a x33b x33c x33d x33e x33f
      obtain ⟨q34a, q34b, q34c, q34g, q34d, q34e, q34f, q34h, q34z⟩ := cells4 hw7b q33z q33a q33b q33c q33g q33d q33e q33f q33h
      clear a33a a33b a33c a33d a33e a33f a33z p33a p33b p33c p33g p33d p33e p33f p33h p33z x33a x33b x33c x33d x33e x33f x33z q33a q33b q33c q33g q33d q33e q33f q33h q33z hw8 hw7b
      go_wp2
      go_ret
      exact ⟨rfl, bw8⟩
  · have hf0 : (f != 0) = true := by rcases hf with rfl | rfl <;> rfl
    clear hf
    cases s
    · skip
      go_enter Tryd.func4, Tryd.ntmps4
      go_wp2_with fail
      refine (awake3_any _ (he.go (by go_grown))).mono ?_
      rintro e w1 ⟨rfl, hw1⟩
      have zw1 := hw1.size
      have bw1 := below_of (w := w) (by go_grown) hw1
      try simp at zw1
      obtain ⟨a35a, a35b, a35c, a35d, a35e, a35f, a35z⟩ := cells3 (b := w.heap.size) hw1 (by go_size) (by go_simp <;> rfl) (by go_simp <;> rfl) (by go_simp <;> rfl) (by go_simp <;> rfl) (by go_simp <;> rfl) (by go_simp <;> rfl)
      obtain ⟨p35a, p35b, p35c, p35g, p35d, p35e, p35f, p35h, p35z⟩ := cells4 (b := w.heap.size + 1) hw1 (by go_size) (by go_simp <;> rfl) (by go_simp <;> rfl) (by go_simp <;> rfl) (by go_simp <;> rfl) (by go_simp <;> rfl) (by go_simp <;> rfl) (by go_simp <;> rfl) (by go_simp <;> rfl)
      clear hw1
      go_wp2_with fail
      refine (printAddr_any a _ (he.go (by go_grown))).mono ?_
      rintro e w2 ⟨rfl, hw2⟩
      have zw2 := hw2.size
      have bw2 := below_of (w := w) (by go_grown) hw2
      try simp at zw2
      have hw1b := below_of (w := w1) (by go_grown) hw2
      obtain ⟨a36a, a36b, a36c, a36d, a36e, a36f, a36z⟩ := cells3 hw1b a35z a35a a35b a35c a35d a35e a35f
      obtain ⟨p36a, p36b, p36c, p36g, p36d, p36e, p36f, p36h, p36z⟩ := cells4 hw1b p35z p35a p35b p35c p35g p35d p35e p35f p35h
      clear a35a a35b a35c a35d a35e a35f a35z p35a p35b p35c p35g p35d p35e p35f p35h p35z hw2 hw1b
      go_wp2_with fail
      refine (parsePrint_any a _ (he.go (by go_grown))).mono ?_
      rintro e w3 ⟨rfl, hw3⟩
      have zw3 := hw3.size
      have bw3 := below_of (w := w) (by go_grown) hw3
      try simp at zw3
      have hw2b := below_of (w := w2) (by go_grown) hw3
      obtain ⟨a37a, a37b, a37c, a37d, a37e, a37f, a37z⟩ := cells3 hw2b a36z a36a a36b a36c a36d a36e a36f
      obtain ⟨p37a, p37b, p37c, p37g, p37d, p37e, p37f, p37h, p37z⟩ := cells4 hw2b p36z p36a p36b p36c p36g p36d p36e p36f p36h
      clear a36a a36b a36c a36d a36e a36f a36z p36a p36b p36c p36g p36d p36e p36f p36h p36z hw3 hw2b
      go_wp2_with fail
      refine (print_any p h0 h1 _ (he.go (by go_grown))).mono ?_
      rintro e w4 ⟨rfl, hw4⟩
      have zw4 := hw4.size
      have bw4 := below_of (w := w) (by go_grown) hw4
      try simp at zw4
      have hw3b := below_of (w := w3) (by go_grown) hw4
      obtain ⟨a38a, a38b, a38c, a38d, a38e, a38f, a38z⟩ := cells3 hw3b a37z a37a a37b a37c a37d a37e a37f
      obtain ⟨p38a, p38b, p38c, p38g, p38d, p38e, p38f, p38h, p38z⟩ := cells4 hw3b p37z p37a p37b p37c p37g p37d p37e p37f p37h
      obtain ⟨x38a, x38b, x38c, x38d, x38e, x38f, x38z⟩ := cells3 (b := w3.heap.size) hw4 (by go_size) (by go_simp <;> rfl) (by go_simp <;> rfl) (by go_simp <;> rfl) (by go_simp <;> rfl) (by go_simp <;> rfl) (by go_simp <;> rfl)
      clear a37a a37b a37c a37d a37e a37f a37z p37a p37b p37c p37g p37d p37e p37f p37h p37z hw4 hw3b
      go_wp2_with fail
      refine (parsePrintP_any p _ _ Hq.out h0 h1 _ (he.go (by go_grown))).mono ?_
      rintro e w5 ⟨rfl, hw5⟩
      have zw5 := hw5.size
      have bw5 := below_of (w := w) (by go_grown) hw5
      try simp at zw5
      have hw4b := below_of (w := w4) (by go_grown) hw5
      obtain ⟨a39a, a39b, a39c, a39d, a39e, a39f, a39z⟩ := cells3 hw4b a38z a38a a38b a38c a38d a38e a38f
      obtain ⟨p39a, p39b, p39c, p39g, p39d, p39e, p39f, p39h, p39z⟩ := cells4 hw4b p38z p38a p38b p38c p38g p38d p38e p38f p38h
      obtain ⟨x39a, x39b, x39c, x39d, x39e, x39f, x39z⟩ := cells3 hw4b x38z x38a x38b x38c x38d x38e x38f
      clear a38a a38b a38c a38d a38e a38f a38z p38a p38b p38c p38g p38d p38e p38f p38h p38z x38a x38b x38c x38d x38e x38f x38z hw5 hw4b
      go_wp2_with fail
      generalize hW : World.alloc _ _ = W
      have hz : w.heap.size ≤ W.heap.size := by subst hW; go_size
      have hB : Below w.heap.size w W := by subst hW; go_grown
      have hw5b : Below w5.heap.size w5 W := by subst hW; go_grown
      obtain ⟨a40a, a40b, a40c, a40d, a40e, a40f, a40z⟩ := cells3 hw5b a39z a39a a39b a39c a39d a39e a39f
      obtain ⟨p40a, p40b, p40c, p40g, p40d, p40e, p40f, p40h, p40z⟩ := cells4 hw5b p39z p39a p39b p39c p39g p39d p39e p39f p39h
      obtain ⟨x40a, x40b, x40c, x40d, x40e, x40f, x40z⟩ := cells3 hw5b x39z x39a x39b x39c x39d x39e x39f
      obtain ⟨q40a, q40b, q40c, q40g, q40d, q40e, q40f, q40h, q40z⟩ := cells4 (W := W) (b := w5.heap.size) (Below.refl _ W) (by subst hW; go_size) (by subst hW; go_simp <;> rfl) (by subst hW; go_simp <;> rfl) (by subst hW; go_simp <;> rfl) (by subst hW; go_simp <;> rfl) (by subst hW; go_simp <;> rfl) (by subst hW; go_simp <;> rfl) (by subst hW; go_simp <;> rfl) (by subst hW; go_simp <;> rfl)
      clear a39a a39b a39c a39d a39e a39f a39z p39a p39b p39c p39g p39d p39e p39f p39h p39z x39a x39b x39c x39d x39e x39f x39z hW hw5b
      have La40a := fun x : Later W.heap.size W => (x.cell a40z).trans a40a
      have La40b := fun x : Later W.heap.size W => (x.cell a40z).trans a40b
      have La40c := fun x : Later W.heap.size W => (x.cell a40z).trans a40c
      have Lp40a := fun x : Later W.heap.size W => (x.cell p40z).trans p40a
      have Lp40b := fun x : Later W.heap.size W => (x.cell p40z).trans p40b
      have Lp40c := fun x : Later W.heap.size W => (x.cell p40z).trans p40c
      have Lp40g := fun x : Later W.heap.size W => (x.cell p40z).trans p40g
      have Lx40a := fun x : Later W.heap.size W => (x.cell x40z).trans x40a
      have Lx40b := fun x : Later W.heap.size W => (x.cell x40z).trans x40b
      have Lx40c := fun x : Later W.heap.size W => (x.cell x40z).trans x40c
      have Lq40a := fun x : Later W.heap.size W => (x.cell q40z).trans q40a
      have Lq40b := fun x : Later W.heap.size W => (x.cell q40z).trans q40b
      have Lq40c := fun x : Later W.heap.size W => (x.cell q40z).trans q40c
      have Lq40g := fun x : Later W.heap.size W => (x.cell q40z).trans q40g
      try simp only [List.append_eq, List.cons_append, List.nil_append]
      refine region_later W.heap.size (by kernel_rfl) (by kernel_rfl) ?_
      repeat (go_big_quiet_step (first | (go_at_call 18; exact later_bool hs (Nat.le_refl _) (sane_any a _)) | (go_at_call 19; exact later_bool hp (Nat.le_refl _) (psane_any p _))))
      refine wpQuiet_nil ?_
      intro x
      have hx : Below w.heap.size w x.at := hB.trans (x.below.mono hz)
      clear La40a La40b La40c Lp40a Lp40b Lp40c Lp40g Lx40a Lx40b Lx40c Lq40a Lq40b Lq40c Lq40g
      obtain ⟨a41a, a41b, a41c, a41d, a41e, a41f, a41z⟩ := cells3 x.below a40z a40a a40b a40c a40d a40e a40f
      obtain ⟨p41a, p41b, p41c, p41g, p41d, p41e, p41f, p41h, p41z⟩ := cells4 x.below p40z p40a p40b p40c p40g p40d p40e p40f p40h
      obtain ⟨x41a, x41b, x41c, x41d, x41e, x41f, x41z⟩ := cells3 x.below x40z x40a x40b x40c x40d x40e x40f
      obtain ⟨q41a, q41b, q41c, q41g, q41d, q41e, q41f, q41h, q41z⟩ := cells4 x.below q40z q40a q40b q40c q40g q40d q40e q40f q40h
      clear a40a a40b a40c a40d a40e a40f a40z p40a p40b p40c p40g p40d p40e p40f p40h p40z x40a x40b x40c x40d x40e x40f x40z q40a q40b q40c q40g q40d q40e q40f q40h q40z
      have bw6 := hx
      have zw6 := hx.size
      clear hx
      generalize x.at = w6 at *
      clear x hB hz W
      go_wp2_with fail
      refine (psane_any p _).mono ?_
      rintro e w7 ⟨rfl, hw7⟩
      have zw7 := hw7.size
      have bw7 := below_of (w := w) (by go_grown) hw7
      try simp at zw7
      have hw6b := below_of (w := w6) (by go_grown) hw7
      obtain ⟨a42a, a42b, a42c, a42d, a42e, a42f, a42z⟩ := cells3 hw6b a41z a41a a41b a41c a41d a41e a41f
      obtain ⟨p42a, p42b, p42c, p42g, p42d, p42e, p42f, p42h, p42z⟩ := cells4 hw6b p41z p41a p41b p41c p41g p41d p41e p41f p41h
      obtain ⟨x42a, x42b, x42c, x42d, x42e, x42f, x42z⟩ := cells3 hw6b x41z x41a x41b x41c x41d x41e x41f
      obtain ⟨q42a, q42b, q42c, q42g, q42d, q42e, q42f, q42h, q42z⟩ := cells4 hw6b q41z q41a q41b q41c q41g q41d q41e q41f q41h
      clear a41a a41b a41c a41d a41e a41f a41z p41a p41b p41c p41g p41d p41e p41f p41h p41z x41a x41b x41c x41d x41e x41f x41z q41a q41b q41c q41g q41d q41e q41f q41h q41z hw7 hw6b
      go_wp2_with fail
      refine (sane_any p.a _).mono ?_
      rintro e w8 ⟨rfl, hw8⟩
      have zw8 := hw8.size
      have bw8 := below_of (w := w) (by go_grown) hw8
      try simp at zw8
      have hw7b := below_of (w := w7) (by go_grown) hw8
      obtain ⟨a43a, a43b, a43c, a43d, a43e, a43f, a43z⟩ := cells3 hw7b a42z a42a a42b a42c a42d a42e a42f
      obtain ⟨p43a, p43b, p43c, p43g, p43d, p43e, p43f, p43h, p43z⟩ := cells4 hw7b p42z p42a p42b p42c p42g p42d p42e p42f p42h
      obtain ⟨x43a, x43b, x43c, x43d, x43e, x43f, x43z⟩ := cells3 hw7b x42z x42a x42b x42c x42d x42e x42f
      obtain ⟨q43a, q43b, q43c, q43g, q43d, q43e, q43f, q43h, q43z⟩ := cells4 hw7b q42z q42a q42b q42c q42g q42d q42e q42f q42h
      clear a42a a42b a42c a42d a42e a42f a42z p42a p42b p42c p42g p42d p42e p42f p42h p42z x42a x42b x42c x42d x42e x42f x42z q42a q42b q42c q42g q42d q42e q42f q42h q42z hw8 hw7b
      go_wp2
      go_ret
      exact ⟨rfl, bw8⟩
    · skip
      go_enter Tryd.func4, Tryd.ntmps4
      go_wp2_with fail
      refine (awake3_any _ (he.go (by go_grown))).mono ?_
      rintro e w1 ⟨rfl, hw1⟩
      have zw1 := hw1.size
      have bw1 := below_of (w := w) (by go_grown) hw1
      try simp at zw1
      obtain ⟨a44a, a44b, a44c, a44d, a44e, a44f, a44z⟩ := cells3 (b := w.heap.size) hw1 (by go_size) (by go_simp <;> rfl) (by go_simp <;> rfl) (by go_simp <;> rfl) (by go_simp <;> rfl) (by go_simp <;> rfl) (by go_simp <;> rfl)
      obtain ⟨p44a, p44b, p44c, p44g, p44d, p44e, p44f, p44h, p44z⟩ := cells4 (b := w.heap.size + 1) hw1 (by go_size) (by go_simp <;> rfl) (by go_simp <;> rfl) (by go_simp <;> rfl) (by go_simp <;> rfl) (by go_simp <;> rfl) (by go_simp <;> rfl) (by go_simp <;> rfl) (by go_simp <;> rfl)
      clear hw1
      go_wp2_with fail
      refine (printAddr_any a _ (he.go (by go_grown))).mono ?_
      rintro e w2 ⟨rfl, hw2⟩
      have zw2 := hw2.size
      have bw2 := below_of (w := w) (by go_grown) hw2
      try simp at zw2
      have hw1b := below_of (w := w1) (by go_grown) hw2
      obtain ⟨a45a, a45b, a45c, a45d, a45e, a45f, a45z⟩ := cells3 hw1b a44z a44a a44b a44c a44d a44e a44f
      obtain ⟨p45a, p45b, p45c, p45g, p45d, p45e, p45f, p45h, p45z⟩ := cells4 hw1b p44z p44a p44b p44c p44g p44d p44e p44f p44h
      clear a44a a44b a44c a44d a44e a44f a44z p44a p44b p44c p44g p44d p44e p44f p44h p44z hw2 hw1b
      go_wp2_with fail
      refine (parsePrint_any a _ (he.go (by go_grown))).mono ?_
      rintro e w3 ⟨rfl, hw3⟩
      have zw3 := hw3.size
      have bw3 := below_of (w := w) (by go_grown) hw3
      try simp at zw3
      have hw2b := below_of (w := w2) (by go_grown) hw3
      obtain ⟨a46a, a46b, a46c, a46d, a46e, a46f, a46z⟩ := cells3 hw2b a45z a45a a45b a45c a45d a45e a45f
      obtain ⟨p46a, p46b, p46c, p46g, p46d, p46e, p46f, p46h, p46z⟩ := cells4 hw2b p45z p45a p45b p45c p45g p45d p45e p45f p45h
      clear a45a a45b a45c a45d a45e a45f a45z p45a p45b p45c p45g p45d p45e p45f p45h p45z hw3 hw2b
      go_wp2_with fail
      refine (print_any p h0 h1 _ (he.go (by go_grown))).mono ?_
      rintro e w4 ⟨rfl, hw4⟩
      have zw4 := hw4.size
      have bw4 := below_of (w := w) (by go_grown) hw4
      try simp at zw4
      have hw3b := below_of (w := w3) (by go_grown) hw4
      obtain ⟨a47a, a47b, a47c, a47d, a47e, a47f, a47z⟩ := cells3 hw3b a46z a46a a46b a46c a46d a46e a46f
      obtain ⟨p47a, p47b, p47c, p47g, p47d, p47e, p47f, p47h, p47z⟩ := cells4 hw3b p46z p46a p46b p46c p46g p46d p46e p46f p46h
      obtain ⟨x47a, x47b, x47c, x47d, x47e, x47f, x47z⟩ := cells3 (b := w3.heap.size) hw4 (by go_size) (by go_simp <;> rfl) (by go_simp <;> rfl) (by go_simp <;> rfl) (by go_simp <;> rfl) (by go_simp <;> rfl) (by go_simp <;> rfl)
      clear a46a a46b a46c a46d a46e a46f a46z p46a p46b p46c p46g p46d p46e p46f p46h p46z hw4 hw3b
      go_wp2_with fail
      refine (parsePrintP_any p _ _ Hq.out h0 h1 _ (he.go (by go_grown))).mono ?_
      rintro e w5 ⟨rfl, hw5⟩
      have zw5 := hw5.size
      have bw5 := below_of (w := w) (by go_grown) hw5
      try simp at zw5
      have hw4b := below_of (w := w4) (by go_grown) hw5
      obtain ⟨a48a, a48b, a48c, a48d, a48e, a48f, a48z⟩ := cells3 hw4b a47z a47a a47b a47c a47d a47e a47f
      obtain ⟨p48a, p48b, p48c, p48g, p48d, p48e, p48f, p48h, p48z⟩ := cells4 hw4b p47z p47a p47b p47c p47g p47d p47e p47f p47h
      obtain ⟨x48a, x48b, x48c, x48d, x48e, x48f, x48z⟩ := cells3 hw4b x47z x47a x47b x47c x47d x47e x47f
      clear a47a a47b a47c a47d a47e a47f a47z p47a p47b p47c p47g p47d p47e p47f p47h p47z x47a x47b x47c x47d x47e x47f x47z hw5 hw4b
      go_wp2_with fail
      generalize hW : World.alloc _ _ = W
      have hz : w.heap.size ≤ W.heap.size := by subst hW; go_size
      have hB : Below w.heap.size w W := by subst hW; go_grown
      have hw5b : Below w5.heap.size w5 W := by subst hW; go_grown
      obtain ⟨a49a, a49b, a49c, a49d, a49e, a49f, a49z⟩ := cells3 hw5b a48z a48a a48b a48c a48d a48e a48f
      obtain ⟨p49a, p49b, p49c, p49g, p49d, p49e, p49f, p49h, p49z⟩ := cells4 hw5b p48z p48a p48b p48c p48g p48d p48e p48f p48h
      obtain ⟨x49a, x49b, x49c, x49d, x49e, x49f, x49z⟩ := cells3 hw5b x48z x48a x48b x48c x48d x48e x48f
      obtain ⟨q49a, q49b, q49c, q49g, q49d, q49e, q49f, q49h, q49z⟩ := cells4 (W := W) (b := w5.heap.size) (Below.refl _ W) (by subst hW; go_size) (by subst hW; go_simp <;> rfl) (by subst hW; go_simp <;> rfl) (by subst hW; go_simp <;> rfl) (by subst hW; go_simp <;> rfl) (by subst hW; go_simp <;> rfl) (by subst hW; go_simp <;> rfl) (by subst hW; go_simp <;> rfl) (by subst hW; go_simp <;> rfl)
      clear a48a a48b a48c a48d a48e a48f a48z p48a p48b p48c p48g p48d p48e p48f p48h p48z x48a x48b x48c x48d x48e x48f x48z hW hw5b
      have La49a := fun x : Later W.heap.size W => (x.cell a49z).trans a49a
      have La49b := fun x : Later W.heap.size W => (x.cell a49z).trans a49b
      have La49c := fun x : Later W.heap.size W => (x.cell a49z).trans a49c
      have Lp49a := fun x : Later W.heap.size W => (x.cell p49z).trans p49a
      have Lp49b := fun x : Later W.heap.size W => (x.cell p49z).trans p49b
      have Lp49c := fun x : Later W.heap.size W => (x.cell p49z).trans p49c
      have Lp49g := fun x : Later W.heap.size W => (x.cell p49z).trans p49g
      have Lx49a := fun x : Later W.heap.size W => (x.cell x49z).trans x49a
      have Lx49b := fun x : Later W.heap.size W => (x.cell x49z).trans x49b
      have Lx49c := fun x : Later W.heap.size W => (x.cell x49z).trans x49c
      have Lq49a := fun x : Later W.heap.size W => (x.cell q49z).trans q49a
      have Lq49b := fun x : Later W.heap.size W => (x.cell q49z).trans q49b
      have Lq49c := fun x : Later W.heap.size W => (x.cell q49z).trans q49c
      have Lq49g := fun x : Later W.heap.size W => (x.cell q49z).trans q49g
      try simp only [List.append_eq, List.cons_append, List.nil_append]
      refine region_later W.heap.size (by kernel_rfl) (by kernel_rfl) ?_
      repeat (go_big_quiet_step (first | (go_at_call 18; exact later_bool hs (Nat.le_refl _) (sane_any a _)) | (go_at_call 19; exact later_bool hp (Nat.le_refl _) (psane_any p _))))
      refine wpQuiet_nil ?_
      intro x
      have hx : Below w.heap.size w x.at := hB.trans (x.below.mono hz)
      clear La49a La49b La49c Lp49a Lp49b Lp49c Lp49g Lx49a Lx49b Lx49c Lq49a Lq49b Lq49c Lq49g
      obtain ⟨a50a, a50b, a50c, a50d, a50e, a50f, a50z⟩ := cells3 x.below a49z a49a a49b a49c a49d a49e a49f
      obtain ⟨p50a, p50b, p50c, p50g, p50d, p50e, p50f, p50h, p50z⟩ := cells4 x.below p49z p49a p49b p49c p49g p49d p49e p49f p49h
      obtain ⟨x50a, x50b, x50c, x50d, x50e, x50f, x50z⟩ := cells3 x.below x49z x49a x49b x49c x49d x49e x49f
      obtain ⟨q50a, q50b, q50c, q50g, q50d, q50e, q50f, q50h, q50z⟩ := cells4 x.below q49z q49a q49b q49c q49g q49d q49e q49f q49h
      clear a49a a49b a49c a49d a49e a49f a49z p49a p49b p49c p49g p49d p49e p49f p49h p49z x49a x49b x49c x49d x49e x49f x49z q49a q49b q49c q49g q49d q49e q49f q49h q49z
      have bw6 := hx
      have zw6 := hx.size
      clear hx
      generalize x.at = w6 at *
      clear x hB hz W
      go_wp2_with fail
      refine (psane_any p _).mono ?_
      rintro e w7 ⟨rfl, hw7⟩
      have zw7 := hw7.size
      have bw7 := below_of (w := w) (by go_grown) hw7
      try simp at zw7
      have hw6b := below_of (w := w6) (by go_grown) hw7
      obtain ⟨a51a, a51b, a51c, a51d, a51e, a51f, a51z⟩ := cells3 hw6b a50z a50a a50b a50c a50d a50e a50f
      obtain ⟨p51a, p51b, p51c, p51g, p51d, p51e, p51f, p51h, p51z⟩ := cells4 hw6b p50z p50a p50b p50c p50g p50d p50e p50f p50h
      obtain ⟨x51a, x51b, x51c, x51d, x51e, x51f, x51z⟩ := cells3 hw6b x50z x50a x50b x50c x50d x50e x50f
      obtain ⟨q51a, q51b, q51c, q51g, q51d, q51e, q51f, q51h, q51z⟩ := cells4 hw6b q50z q50a q50b q50c q50g q50d q50e q50f q50h
      clear a50a a50b a50c a50d a50e a50f a50z p50a p50b p50c p50g p50d p50e p50f p50h p50z x50a x50b x50c x50d x50e x50f x50z q50a q50b q50c q50g q50d q50e q50f q50h q50z hw7 hw6b
      go_wp2_with fail
      refine (sane_any p.a _).mono ?_
      rintro e w8 ⟨rfl, hw8⟩
      have zw8 := hw8.size
      have bw8 := below_of (w := w) (by go_grown) hw8
      try simp at zw8
      have hw7b := below_of (w := w7) (by go_grown) hw8
      obtain ⟨a52a, a52b, a52c, a52d, a52e, a52f, a52z⟩ := cells3 hw7b a51z a51a a51b a51c a51d a51e a51f
      obtain ⟨p52a, p52b, p52c, p52g, p52d, p52e, p52f, p52h, p52z⟩ := cells4 hw7b p51z p51a p51b p51c p51g p51d p51e p51f p51h
      obtain ⟨x52a, x52b, x52c, x52d, x52e, x52f, x52z⟩ := cells3 hw7b x51z x51a x51b x51c x51d x51e x51f
      obtain ⟨q52a, q52b, q52c, q52g, q52d, q52e, q52f, q52h, q52z⟩ := cells4 hw7b q51z q51a q51b q51c q51g q51d q51e q51f q51h
      clear a51a a51b a51c a51d a51e a51f a51z p51a p51b p51c p51g p51d p51e p51f p51h p51z x51a x51b x51c x51d x51e x51f x51z q51a q51b q51c q51g q51d q51e q51f q51h q51z hw8 hw7b
      go_wp2
      go_ret
      exact ⟨rfl, bw8⟩

theorem textBack_law (a : Ad) (p : Pf) (h0 : -9223372036854775808 ≤ p.n) (h1 : p.n ≤ 9223372036854775807) (w : World) (he : Env w) :
    Calls Tryd.prog 4 #[.agg #[.int .u64 (u a.hi), .int .u64 (u a.lo), .bool a.v6], .agg #[.int .u64 (u p.a.hi), .int .u64 (u p.a.lo), .bool p.a.v6, .int .i64 p.n]] w fun e w' => e = .returned (.bool true) ∧ Below w.heap.size w w' := by
  cases hp : psane p with
  | true => exact textBack_gen a p p 0 _ (back_sane p hp) h0 h1 rfl (.inl ⟨hp, rfl, rfl⟩) w he
  | false =>
    cases ha : saneB p.a with
    | false => exact textBack_gen a p _ _ _ rfl h0 h1 rfl (.inr (.inl ⟨hp, ha⟩)) w he
    | true =>
      rcases back_insane p hp ha with h | h
      · exact textBack_gen a p _ _ _ h h0 h1 rfl (.inr (.inr ⟨hp, ha, .inl rfl⟩)) w he
      · exact textBack_gen a p _ _ _ h h0 h1 rfl (.inr (.inr ⟨hp, ha, .inr rfl⟩)) w he

end Go.Proofs.YtgmlpcmplglnoaaDoor
