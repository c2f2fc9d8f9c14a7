/-
  PrefixTwo and PrefixIs return true, whatever prefixes, addresses and numbers. No condition.
-/
import Derived.Test.YtongbfnndphdaaaQh
import Derived.Test.YtongbfnndphdaaaPj
namespace Go.Proofs.Ytongbfnndphdaaa
open Go.RowKit

set_option maxHeartbeats 2000000 in
set_option maxRecDepth 100000 in
theorem ptwo_law (p q : Pf) (w : World) :
    Calls Try.prog 4 #[.agg #[.int .u64 (u p.a.hi), .int .u64 (u p.a.lo), .bool p.a.v6, .int .i64 p.n], .agg #[.int .u64 (u q.a.hi), .int .u64 (u q.a.lo), .bool q.a.v6, .int .i64 q.n]] w fun e w' => e = .returned (.bool true) ∧ Below w.heap.size w w' := by
  go_enter Try.func4, Try.ntmps4
  go_wp2_with fail
  refine (awake2_any _).mono ?_
  rintro e w1 ⟨rfl, hw1⟩
  have zw1 := hw1.size
  have bw1 := below_of (w := w) (by go_grown) hw1
  try simp at zw1
  obtain ⟨p1a, p1b, p1c, p1g, p1d, p1e, p1f, p1h, p1z⟩ := cells4 (b := w.heap.size) hw1 (by go_size) (by go_simp <;> rfl) (by go_simp <;> rfl) (by go_simp <;> rfl) (by go_simp <;> rfl) (by go_simp <;> rfl) (by go_simp <;> rfl) (by go_simp <;> rfl) (by go_simp <;> rfl)
  obtain ⟨q1a, q1b, q1c, q1g, q1d, q1e, q1f, q1h, q1z⟩ := cells4 (b := w.heap.size + 1) hw1 (by go_size) (by go_simp <;> rfl) (by go_simp <;> rfl) (by go_simp <;> rfl) (by go_simp <;> rfl) (by go_simp <;> rfl) (by go_simp <;> rfl) (by go_simp <;> rfl) (by go_simp <;> rfl)
  clear hw1
  go_wp2_with fail
  refine (pjoin_any p q _).mono ?_
  rintro e w2 ⟨rfl, hw2⟩
  have zw2 := hw2.size
  have bw2 := below_of (w := w) (by go_grown) hw2
  try simp at zw2
  obtain ⟨p2a, p2b, p2c, p2g, p2d, p2e, p2f, p2h, p2z⟩ := cells4 (b := w.heap.size) hw2 (by go_size) (by go_simp <;> rfl) (by go_simp <;> rfl) (by go_simp <;> rfl) (by go_simp <;> rfl) (by go_simp <;> rfl) (by go_simp <;> rfl) (by go_simp <;> rfl) (by go_simp <;> rfl)
  obtain ⟨q2a, q2b, q2c, q2g, q2d, q2e, q2f, q2h, q2z⟩ := cells4 (b := w.heap.size + 1) hw2 (by go_size) (by go_simp <;> rfl) (by go_simp <;> rfl) (by go_simp <;> rfl) (by go_simp <;> rfl) (by go_simp <;> rfl) (by go_simp <;> rfl) (by go_simp <;> rfl) (by go_simp <;> rfl)
  clear p1a p1b p1c p1g p1d p1e p1f p1h p1z q1a q1b q1c q1g q1d q1e q1f q1h q1z hw2
  go_wp2_with fail
  refine (rpjoin_any p q _).mono ?_
  rintro e w3 ⟨rfl, hw3⟩
  have zw3 := hw3.size
  have bw3 := below_of (w := w) (by go_grown) hw3
  try simp at zw3
  obtain ⟨p3a, p3b, p3c, p3g, p3d, p3e, p3f, p3h, p3z⟩ := cells4 (b := w.heap.size) hw3 (by go_size) (by go_simp <;> rfl) (by go_simp <;> rfl) (by go_simp <;> rfl) (by go_simp <;> rfl) (by go_simp <;> rfl) (by go_simp <;> rfl) (by go_simp <;> rfl) (by go_simp <;> rfl)
  obtain ⟨q3a, q3b, q3c, q3g, q3d, q3e, q3f, q3h, q3z⟩ := cells4 (b := w.heap.size + 1) hw3 (by go_size) (by go_simp <;> rfl) (by go_simp <;> rfl) (by go_simp <;> rfl) (by go_simp <;> rfl) (by go_simp <;> rfl) (by go_simp <;> rfl) (by go_simp <;> rfl) (by go_simp <;> rfl)
  obtain ⟨r3a, r3b, r3c, r3g, r3d, r3e, r3f, r3h, r3z⟩ := cells4 (b := w2.heap.size) hw3 (by go_size) (by go_simp <;> rfl) (by go_simp <;> rfl) (by go_simp <;> rfl) (by go_simp <;> rfl) (by go_simp <;> rfl) (by go_simp <;> rfl) (by go_simp <;> rfl) (by go_simp <;> rfl)
  clear p2a p2b p2c p2g p2d p2e p2f p2h p2z q2a q2b q2c q2g q2d q2e q2f q2h q2z hw3
  go_wp2_with fail
  generalize hW : World.alloc _ _ = W
  have hz : w.heap.size ≤ W.heap.size := by subst hW; go_size
  have hB : Below w.heap.size w W := by subst hW; go_grown
  obtain ⟨p4a, p4b, p4c, p4g, p4d, p4e, p4f, p4h, p4z⟩ := cells4 (W := W) (b := w.heap.size) (Below.refl _ W) (by subst hW; go_size) (by subst hW; go_simp <;> rfl) (by subst hW; go_simp <;> rfl) (by subst hW; go_simp <;> rfl) (by subst hW; go_simp <;> rfl) (by subst hW; go_simp <;> rfl) (by subst hW; go_simp <;> rfl) (by subst hW; go_simp <;> rfl) (by subst hW; go_simp <;> rfl)
  obtain ⟨q4a, q4b, q4c, q4g, q4d, q4e, q4f, q4h, q4z⟩ := cells4 (W := W) (b := w.heap.size + 1) (Below.refl _ W) (by subst hW; go_size) (by subst hW; go_simp <;> rfl) (by subst hW; go_simp <;> rfl) (by subst hW; go_simp <;> rfl) (by subst hW; go_simp <;> rfl) (by subst hW; go_simp <;> rfl) (by subst hW; go_simp <;> rfl) (by subst hW; go_simp <;> rfl) (by subst hW; go_simp <;> rfl)
  obtain ⟨r4a, r4b, r4c, r4g, r4d, r4e, r4f, r4h, r4z⟩ := cells4 (W := W) (b := w2.heap.size) (Below.refl _ W) (by subst hW; go_size) (by subst hW; go_simp <;> rfl) (by subst hW; go_simp <;> rfl) (by subst hW; go_simp <;> rfl) (by subst hW; go_simp <;> rfl) (by subst hW; go_simp <;> rfl) (by subst hW; go_simp <;> rfl) (by subst hW; go_simp <;> rfl) (by subst hW; go_simp <;> rfl)
  obtain ⟨s4a, s4b, s4c, s4g, s4d, s4e, s4f, s4h, s4z⟩ := cells4 (W := W) (b := w3.heap.size) (Below.refl _ W) (by subst hW; go_size) (by subst hW; go_simp <;> rfl) (by subst hW; go_simp <;> rfl) (by subst hW; go_simp <;> rfl) (by subst hW; go_simp <;> rfl) (by subst hW; go_simp <;> rfl) (by subst hW; go_simp <;> rfl) (by subst hW; go_simp <;> rfl) (by subst hW; go_simp <;> rfl)
  clear p3a p3b p3c p3g p3d p3e p3f p3h p3z q3a q3b q3c q3g q3d q3e q3f q3h q3z r3a r3b r3c r3g r3d r3e r3f r3h r3z hW
  have Lp4a := fun x : Later W.heap.size W => (x.cell p4z).trans p4a
  have Lp4b := fun x : Later W.heap.size W => (x.cell p4z).trans p4b
  have Lp4c := fun x : Later W.heap.size W => (x.cell p4z).trans p4c
  have Lp4g := fun x : Later W.heap.size W => (x.cell p4z).trans p4g
  have Lq4a := fun x : Later W.heap.size W => (x.cell q4z).trans q4a
  have Lq4b := fun x : Later W.heap.size W => (x.cell q4z).trans q4b
  have Lq4c := fun x : Later W.heap.size W => (x.cell q4z).trans q4c
  have Lq4g := fun x : Later W.heap.size W => (x.cell q4z).trans q4g
  have Lr4a := fun x : Later W.heap.size W => (x.cell r4z).trans r4a
  have Lr4b := fun x : Later W.heap.size W => (x.cell r4z).trans r4b
  have Lr4c := fun x : Later W.heap.size W => (x.cell r4z).trans r4c
  have Lr4g := fun x : Later W.heap.size W => (x.cell r4z).trans r4g
  have Ls4a := fun x : Later W.heap.size W => (x.cell s4z).trans s4a
  have Ls4b := fun x : Later W.heap.size W => (x.cell s4z).trans s4b
  have Ls4c := fun x : Later W.heap.size W => (x.cell s4z).trans s4c
  have Ls4g := fun x : Later W.heap.size W => (x.cell s4z).trans s4g
  refine region_later W.heap.size (by kernel_rfl) (by kernel_rfl) ?_
  repeat (go_big_quiet_step (first | (go_at_call 27; exact later_of (Nat.le_refl _) (pcov_any p q _)) | (go_at_call 28; exact later_of (Nat.le_refl _) (rpcov_any p q _)) | (go_at_call 29; exact later_of (Nat.le_refl _) (pins_any p q _)) | (go_at_call 30; exact later_of (Nat.le_refl _) (rpins_any p q _)) | (go_at_call 31; exact later_of (Nat.le_refl _) (papa_any p q _)) | (go_at_call 32; exact later_of (Nat.le_refl _) (rpapa_any p q _)) | (go_at_call 33; exact later_of (Nat.le_refl _) (pcmp_any p q _)) | (go_at_call 34; exact later_of (Nat.le_refl _) (rpcmp_any p q _))))
  refine wpQuiet_nil ?_
  intro x
  have hx : Below w.heap.size w x.at := hB.trans (x.below.mono hz)
  go_wp2
  go_ret
  exact ⟨rfl, hx⟩

set_option maxHeartbeats 2000000 in
set_option maxRecDepth 100000 in
theorem pis_law (p : Pf) (v : Int) (a : Ad) (n : Int) (w : World) :
    Calls Try.prog 3 #[.agg #[.int .u64 (u p.a.hi), .int .u64 (u p.a.lo), .bool p.a.v6, .int .i64 p.n], .int .i64 v, .agg #[.int .u64 (u a.hi), .int .u64 (u a.lo), .bool a.v6], .int .i64 n] w fun e w' => e = .returned (.bool true) ∧ Below w.heap.size w w' := by
  go_enter Try.func3, Try.ntmps3
  go_wp2_with fail
  refine (awake2_any _).mono ?_
  rintro e w1 ⟨rfl, hw1⟩
  have zw1 := hw1.size
  have bw1 := below_of (w := w) (by go_grown) hw1
  try simp at zw1
  obtain ⟨p5a, p5b, p5c, p5g, p5d, p5e, p5f, p5h, p5z⟩ := cells4 (b := w.heap.size) hw1 (by go_size) (by go_simp <;> rfl) (by go_simp <;> rfl) (by go_simp <;> rfl) (by go_simp <;> rfl) (by go_simp <;> rfl) (by go_simp <;> rfl) (by go_simp <;> rfl) (by go_simp <;> rfl)
  obtain ⟨q5a, q5b, q5c, q5d, q5e, q5f, q5z⟩ := cells3 (b := w.heap.size + 1) hw1 (by go_size) (by go_simp <;> rfl) (by go_simp <;> rfl) (by go_simp <;> rfl) (by go_simp <;> rfl) (by go_simp <;> rfl) (by go_simp <;> rfl)
  clear hw1
  go_wp2_with fail
  refine (pchild_any p v _).mono ?_
  rintro e w2 ⟨rfl, hw2⟩
  have zw2 := hw2.size
  have bw2 := below_of (w := w) (by go_grown) hw2
  try simp at zw2
  obtain ⟨p6a, p6b, p6c, p6g, p6d, p6e, p6f, p6h, p6z⟩ := cells4 (b := w.heap.size) hw2 (by go_size) (by go_simp <;> rfl) (by go_simp <;> rfl) (by go_simp <;> rfl) (by go_simp <;> rfl) (by go_simp <;> rfl) (by go_simp <;> rfl) (by go_simp <;> rfl) (by go_simp <;> rfl)
  obtain ⟨q6a, q6b, q6c, q6d, q6e, q6f, q6z⟩ := cells3 (b := w.heap.size + 1) hw2 (by go_size) (by go_simp <;> rfl) (by go_simp <;> rfl) (by go_simp <;> rfl) (by go_simp <;> rfl) (by go_simp <;> rfl) (by go_simp <;> rfl)
  clear p5a p5b p5c p5g p5d p5e p5f p5h p5z q5a q5b q5c q5d q5e q5f q5z hw2
  go_wp2_with fail
  refine (rpchild_any p v _).mono ?_
  rintro e w3 ⟨rfl, hw3⟩
  have zw3 := hw3.size
  have bw3 := below_of (w := w) (by go_grown) hw3
  try simp at zw3
  obtain ⟨p7a, p7b, p7c, p7g, p7d, p7e, p7f, p7h, p7z⟩ := cells4 (b := w.heap.size) hw3 (by go_size) (by go_simp <;> rfl) (by go_simp <;> rfl) (by go_simp <;> rfl) (by go_simp <;> rfl) (by go_simp <;> rfl) (by go_simp <;> rfl) (by go_simp <;> rfl) (by go_simp <;> rfl)
  obtain ⟨q7a, q7b, q7c, q7d, q7e, q7f, q7z⟩ := cells3 (b := w.heap.size + 1) hw3 (by go_size) (by go_simp <;> rfl) (by go_simp <;> rfl) (by go_simp <;> rfl) (by go_simp <;> rfl) (by go_simp <;> rfl) (by go_simp <;> rfl)
  obtain ⟨r7a, r7b, r7c, r7g, r7d, r7e, r7f, r7h, r7z⟩ := cells4 (b := w2.heap.size) hw3 (by go_size) (by go_simp <;> rfl) (by go_simp <;> rfl) (by go_simp <;> rfl) (by go_simp <;> rfl) (by go_simp <;> rfl) (by go_simp <;> rfl) (by go_simp <;> rfl) (by go_simp <;> rfl)
  clear p6a p6b p6c p6g p6d p6e p6f p6h p6z q6a q6b q6c q6d q6e q6f q6z hw3
  go_wp2_with fail
  refine (pparent_any p _).mono ?_
  rintro e w4 ⟨rfl, hw4⟩
  have zw4 := hw4.size
  have bw4 := below_of (w := w) (by go_grown) hw4
  try simp at zw4
  obtain ⟨p8a, p8b, p8c, p8g, p8d, p8e, p8f, p8h, p8z⟩ := cells4 (b := w.heap.size) hw4 (by go_size) (by go_simp <;> rfl) (by go_simp <;> rfl) (by go_simp <;> rfl) (by go_simp <;> rfl) (by go_simp <;> rfl) (by go_simp <;> rfl) (by go_simp <;> rfl) (by go_simp <;> rfl)
  obtain ⟨q8a, q8b, q8c, q8d, q8e, q8f, q8z⟩ := cells3 (b := w.heap.size + 1) hw4 (by go_size) (by go_simp <;> rfl) (by go_simp <;> rfl) (by go_simp <;> rfl) (by go_simp <;> rfl) (by go_simp <;> rfl) (by go_simp <;> rfl)
  obtain ⟨r8a, r8b, r8c, r8g, r8d, r8e, r8f, r8h, r8z⟩ := cells4 (b := w2.heap.size) hw4 (by go_size) (by go_simp <;> rfl) (by go_simp <;> rfl) (by go_simp <;> rfl) (by go_simp <;> rfl) (by go_simp <;> rfl) (by go_simp <;> rfl) (by go_simp <;> rfl) (by go_simp <;> rfl)
  obtain ⟨s8a, s8b, s8c, s8g, s8d, s8e, s8f, s8h, s8z⟩ := cells4 (b := w3.heap.size) hw4 (by go_size) (by go_simp <;> rfl) (by go_simp <;> rfl) (by go_simp <;> rfl) (by go_simp <;> rfl) (by go_simp <;> rfl) (by go_simp <;> rfl) (by go_simp <;> rfl) (by go_simp <;> rfl)
  clear p7a p7b p7c p7g p7d p7e p7f p7h p7z q7a q7b q7c q7d q7e q7f q7z r7a r7b r7c r7g r7d r7e r7f r7h r7z hw4
  go_wp2_with fail
  refine (rpparent_any p _).mono ?_
  rintro e w5 ⟨rfl, hw5⟩
  have zw5 := hw5.size
  have bw5 := below_of (w := w) (by go_grown) hw5
  try simp at zw5
  obtain ⟨p9a, p9b, p9c, p9g, p9d, p9e, p9f, p9h, p9z⟩ := cells4 (b := w.heap.size) hw5 (by go_size) (by go_simp <;> rfl) (by go_simp <;> rfl) (by go_simp <;> rfl) (by go_simp <;> rfl) (by go_simp <;> rfl) (by go_simp <;> rfl) (by go_simp <;> rfl) (by go_simp <;> rfl)
  obtain ⟨q9a, q9b, q9c, q9d, q9e, q9f, q9z⟩ := cells3 (b := w.heap.size + 1) hw5 (by go_size) (by go_simp <;> rfl) (by go_simp <;> rfl) (by go_simp <;> rfl) (by go_simp <;> rfl) (by go_simp <;> rfl) (by go_simp <;> rfl)
  obtain ⟨r9a, r9b, r9c, r9g, r9d, r9e, r9f, r9h, r9z⟩ := cells4 (b := w2.heap.size) hw5 (by go_size) (by go_simp <;> rfl) (by go_simp <;> rfl) (by go_simp <;> rfl) (by go_simp <;> rfl) (by go_simp <;> rfl) (by go_simp <;> rfl) (by go_simp <;> rfl) (by go_simp <;> rfl)
  obtain ⟨s9a, s9b, s9c, s9g, s9d, s9e, s9f, s9h, s9z⟩ := cells4 (b := w3.heap.size) hw5 (by go_size) (by go_simp <;> rfl) (by go_simp <;> rfl) (by go_simp <;> rfl) (by go_simp <;> rfl) (by go_simp <;> rfl) (by go_simp <;> rfl) (by go_simp <;> rfl) (by go_simp <;> rfl)
  obtain ⟨t9a, t9b, t9c, t9g, t9d, t9e, t9f, t9h, t9z⟩ := cells4 (b := w4.heap.size) hw5 (by go_size) (by go_simp <;> rfl) (by go_simp <;> rfl) (by go_simp <;> rfl) (by go_simp <;> rfl) (by go_simp <;> rfl) (by go_simp <;> rfl) (by go_simp <;> rfl) (by go_simp <;> rfl)
  clear p8a p8b p8c p8g p8d p8e p8f p8h p8z q8a q8b q8c q8d q8e q8f q8z r8a r8b r8c r8g r8d r8e r8f r8h r8z s8a s8b s8c s8g s8d s8e s8f s8h s8z hw5
  go_wp2_with fail
  refine (psib_any p _).mono ?_
  rintro e w6 ⟨rfl, hw6⟩
  have zw6 := hw6.size
  have bw6 := below_of (w := w) (by go_grown) hw6
  try simp at zw6
  obtain ⟨p10a, p10b, p10c, p10g, p10d, p10e, p10f, p10h, p10z⟩ := cells4 (b := w.heap.size) hw6 (by go_size) (by go_simp <;> rfl) (by go_simp <;> rfl) (by go_simp <;> rfl) (by go_simp <;> rfl) (by go_simp <;> rfl) (by go_simp <;> rfl) (by go_simp <;> rfl) (by go_simp <;> rfl)
  obtain ⟨q10a, q10b, q10c, q10d, q10e, q10f, q10z⟩ := cells3 (b := w.heap.size + 1) hw6 (by go_size) (by go_simp <;> rfl) (by go_simp <;> rfl) (by go_simp <;> rfl) (by go_simp <;> rfl) (by go_simp <;> rfl) (by go_simp <;> rfl)
  obtain ⟨r10a, r10b, r10c, r10g, r10d, r10e, r10f, r10h, r10z⟩ := cells4 (b := w2.heap.size) hw6 (by go_size) (by go_simp <;> rfl) (by go_simp <;> rfl) (by go_simp <;> rfl) (by go_simp <;> rfl) (by go_simp <;> rfl) (by go_simp <;> rfl) (by go_simp <;> rfl) (by go_simp <;> rfl)
  obtain ⟨s10a, s10b, s10c, s10g, s10d, s10e, s10f, s10h, s10z⟩ := cells4 (b := w3.heap.size) hw6 (by go_size) (by go_simp <;> rfl) (by go_simp <;> rfl) (by go_simp <;> rfl) (by go_simp <;> rfl) (by go_simp <;> rfl) (by go_simp <;> rfl) (by go_simp <;> rfl) (by go_simp <;> rfl)
  obtain ⟨t10a, t10b, t10c, t10g, t10d, t10e, t10f, t10h, t10z⟩ := cells4 (b := w4.heap.size) hw6 (by go_size) (by go_simp <;> rfl) (by go_simp <;> rfl) (by go_simp <;> rfl) (by go_simp <;> rfl) (by go_simp <;> rfl) (by go_simp <;> rfl) (by go_simp <;> rfl) (by go_simp <;> rfl)
  obtain ⟨i10a, i10b, i10c, i10g, i10d, i10e, i10f, i10h, i10z⟩ := cells4 (b := w5.heap.size) hw6 (by go_size) (by go_simp <;> rfl) (by go_simp <;> rfl) (by go_simp <;> rfl) (by go_simp <;> rfl) (by go_simp <;> rfl) (by go_simp <;> rfl) (by go_simp <;> rfl) (by go_simp <;> rfl)
  clear p9a p9b p9c p9g p9d p9e p9f p9h p9z q9a q9b q9c q9d q9e q9f q9z r9a r9b r9c r9g r9d r9e r9f r9h r9z s9a s9b s9c s9g s9d s9e s9f s9h s9z t9a t9b t9c t9g t9d t9e t9f t9h t9z hw6
  go_wp2_with fail
  refine (rpsib_any p _).mono ?_
  rintro e w7 ⟨rfl, hw7⟩
  have zw7 := hw7.size
  have bw7 := below_of (w := w) (by go_grown) hw7
  try simp at zw7
  obtain ⟨p11a, p11b, p11c, p11g, p11d, p11e, p11f, p11h, p11z⟩ := cells4 (b := w.heap.size) hw7 (by go_size) (by go_simp <;> rfl) (by go_simp <;> rfl) (by go_simp <;> rfl) (by go_simp <;> rfl) (by go_simp <;> rfl) (by go_simp <;> rfl) (by go_simp <;> rfl) (by go_simp <;> rfl)
  obtain ⟨q11a, q11b, q11c, q11d, q11e, q11f, q11z⟩ := cells3 (b := w.heap.size + 1) hw7 (by go_size) (by go_simp <;> rfl) (by go_simp <;> rfl) (by go_simp <;> rfl) (by go_simp <;> rfl) (by go_simp <;> rfl) (by go_simp <;> rfl)
  obtain ⟨r11a, r11b, r11c, r11g, r11d, r11e, r11f, r11h, r11z⟩ := cells4 (b := w2.heap.size) hw7 (by go_size) (by go_simp <;> rfl) (by go_simp <;> rfl) (by go_simp <;> rfl) (by go_simp <;> rfl) (by go_simp <;> rfl) (by go_simp <;> rfl) (by go_simp <;> rfl) (by go_simp <;> rfl)
  obtain ⟨s11a, s11b, s11c, s11g, s11d, s11e, s11f, s11h, s11z⟩ := cells4 (b := w3.heap.size) hw7 (by go_size) (by go_simp <;> rfl) (by go_simp <;> rfl) (by go_simp <;> rfl) (by go_simp <;> rfl) (by go_simp <;> rfl) (by go_simp <;> rfl) (by go_simp <;> rfl) (by go_simp <;> rfl)
  obtain ⟨t11a, t11b, t11c, t11g, t11d, t11e, t11f, t11h, t11z⟩ := cells4 (b := w4.heap.size) hw7 (by go_size) (by go_simp <;> rfl) (by go_simp <;> rfl) (by go_simp <;> rfl) (by go_simp <;> rfl) (by go_simp <;> rfl) (by go_simp <;> rfl) (by go_simp <;> rfl) (by go_simp <;> rfl)
  obtain ⟨i11a, i11b, i11c, i11g, i11d, i11e, i11f, i11h, i11z⟩ := cells4 (b := w5.heap.size) hw7 (by go_size) (by go_simp <;> rfl) (by go_simp <;> rfl) (by go_simp <;> rfl) (by go_simp <;> rfl) (by go_simp <;> rfl) (by go_simp <;> rfl) (by go_simp <;> rfl) (by go_simp <;> rfl)
  obtain ⟨j11a, j11b, j11c, j11g, j11d, j11e, j11f, j11h, j11z⟩ := cells4 (b := w6.heap.size) hw7 (by go_size) (by go_simp <;> rfl) (by go_simp <;> rfl) (by go_simp <;> rfl) (by go_simp <;> rfl) (by go_simp <;> rfl) (by go_simp <;> rfl) (by go_simp <;> rfl) (by go_simp <;> rfl)
  clear p10a p10b p10c p10g p10d p10e p10f p10h p10z q10a q10b q10c q10d q10e q10f q10z r10a r10b r10c r10g r10d r10e r10f r10h r10z s10a s10b s10c s10g s10d s10e s10f s10h s10z t10a t10b t10c t10g t10d t10e t10f t10h t10z i10a i10b i10c i10g i10d i10e i10f i10h i10z hw7
  go_wp2_with fail
  refine (pends_any p _).mono ?_
  rintro e w8 ⟨rfl, hw8⟩
  have zw8 := hw8.size
  have bw8 := below_of (w := w) (by go_grown) hw8
  try simp at zw8
  obtain ⟨p12a, p12b, p12c, p12g, p12d, p12e, p12f, p12h, p12z⟩ := cells4 (b := w.heap.size) hw8 (by go_size) (by go_simp <;> rfl) (by go_simp <;> rfl) (by go_simp <;> rfl) (by go_simp <;> rfl) (by go_simp <;> rfl) (by go_simp <;> rfl) (by go_simp <;> rfl) (by go_simp <;> rfl)
  obtain ⟨q12a, q12b, q12c, q12d, q12e, q12f, q12z⟩ := cells3 (b := w.heap.size + 1) hw8 (by go_size) (by go_simp <;> rfl) (by go_simp <;> rfl) (by go_simp <;> rfl) (by go_simp <;> rfl) (by go_simp <;> rfl) (by go_simp <;> rfl)
  obtain ⟨r12a, r12b, r12c, r12g, r12d, r12e, r12f, r12h, r12z⟩ := cells4 (b := w2.heap.size) hw8 (by go_size) (by go_simp <;> rfl) (by go_simp <;> rfl) (by go_simp <;> rfl) (by go_simp <;> rfl) (by go_simp <;> rfl) (by go_simp <;> rfl) (by go_simp <;> rfl) (by go_simp <;> rfl)
  obtain ⟨s12a, s12b, s12c, s12g, s12d, s12e, s12f, s12h, s12z⟩ := cells4 (b := w3.heap.size) hw8 (by go_size) (by go_simp <;> rfl) (by go_simp <;> rfl) (by go_simp <;> rfl) (by go_simp <;> rfl) (by go_simp <;> rfl) (by go_simp <;> rfl) (by go_simp <;> rfl) (by go_simp <;> rfl)
  obtain ⟨t12a, t12b, t12c, t12g, t12d, t12e, t12f, t12h, t12z⟩ := cells4 (b := w4.heap.size) hw8 (by go_size) (by go_simp <;> rfl) (by go_simp <;> rfl) (by go_simp <;> rfl) (by go_simp <;> rfl) (by go_simp <;> rfl) (by go_simp <;> rfl) (by go_simp <;> rfl) (by go_simp <;> rfl)
  obtain ⟨i12a, i12b, i12c, i12g, i12d, i12e, i12f, i12h, i12z⟩ := cells4 (b := w5.heap.size) hw8 (by go_size) (by go_simp <;> rfl) (by go_simp <;> rfl) (by go_simp <;> rfl) (by go_simp <;> rfl) (by go_simp <;> rfl) (by go_simp <;> rfl) (by go_simp <;> rfl) (by go_simp <;> rfl)
  obtain ⟨j12a, j12b, j12c, j12g, j12d, j12e, j12f, j12h, j12z⟩ := cells4 (b := w6.heap.size) hw8 (by go_size) (by go_simp <;> rfl) (by go_simp <;> rfl) (by go_simp <;> rfl) (by go_simp <;> rfl) (by go_simp <;> rfl) (by go_simp <;> rfl) (by go_simp <;> rfl) (by go_simp <;> rfl)
  obtain ⟨k12a, k12b, k12c, k12g, k12d, k12e, k12f, k12h, k12z⟩ := cells4 (b := w7.heap.size) hw8 (by go_size) (by go_simp <;> rfl) (by go_simp <;> rfl) (by go_simp <;> rfl) (by go_simp <;> rfl) (by go_simp <;> rfl) (by go_simp <;> rfl) (by go_simp <;> rfl) (by go_simp <;> rfl)
  clear p11a p11b p11c p11g p11d p11e p11f p11h p11z q11a q11b q11c q11d q11e q11f q11z r11a r11b r11c r11g r11d r11e r11f r11h r11z s11a s11b s11c s11g s11d s11e s11f s11h s11z t11a t11b t11c t11g t11d t11e t11f t11h t11z i11a i11b i11c i11g i11d i11e i11f i11h i11z j11a j11b j11c j11g j11d j11e j11f j11h j11z hw8
  go_wp2_with fail
  refine (rpends_any p _).mono ?_
  rintro e w9 ⟨rfl, hw9⟩
  have zw9 := hw9.size
  have bw9 := below_of (w := w) (by go_grown) hw9
  try simp at zw9
  obtain ⟨p13a, p13b, p13c, p13g, p13d, p13e, p13f, p13h, p13z⟩ := cells4 (b := w.heap.size) hw9 (by go_size) (by go_simp <;> rfl) (by go_simp <;> rfl) (by go_simp <;> rfl) (by go_simp <;> rfl) (by go_simp <;> rfl) (by go_simp <;> rfl) (by go_simp <;> rfl) (by go_simp <;> rfl)
  obtain ⟨q13a, q13b, q13c, q13d, q13e, q13f, q13z⟩ := cells3 (b := w.heap.size + 1) hw9 (by go_size) (by go_simp <;> rfl) (by go_simp <;> rfl) (by go_simp <;> rfl) (by go_simp <;> rfl) (by go_simp <;> rfl) (by go_simp <;> rfl)
  obtain ⟨r13a, r13b, r13c, r13g, r13d, r13e, r13f, r13h, r13z⟩ := cells4 (b := w2.heap.size) hw9 (by go_size) (by go_simp <;> rfl) (by go_simp <;> rfl) (by go_simp <;> rfl) (by go_simp <;> rfl) (by go_simp <;> rfl) (by go_simp <;> rfl) (by go_simp <;> rfl) (by go_simp <;> rfl)
  obtain ⟨s13a, s13b, s13c, s13g, s13d, s13e, s13f, s13h, s13z⟩ := cells4 (b := w3.heap.size) hw9 (by go_size) (by go_simp <;> rfl) (by go_simp <;> rfl) (by go_simp <;> rfl) (by go_simp <;> rfl) (by go_simp <;> rfl) (by go_simp <;> rfl) (by go_simp <;> rfl) (by go_simp <;> rfl)
  obtain ⟨t13a, t13b, t13c, t13g, t13d, t13e, t13f, t13h, t13z⟩ := cells4 (b := w4.heap.size) hw9 (by go_size) (by go_simp <;> rfl) (by go_simp <;> rfl) (by go_simp <;> rfl) (by go_simp <;> rfl) (by go_simp <;> rfl) (by go_simp <;> rfl) (by go_simp <;> rfl) (by go_simp <;> rfl)
  obtain ⟨i13a, i13b, i13c, i13g, i13d, i13e, i13f, i13h, i13z⟩ := cells4 (b := w5.heap.size) hw9 (by go_size) (by go_simp <;> rfl) (by go_simp <;> rfl) (by go_simp <;> rfl) (by go_simp <;> rfl) (by go_simp <;> rfl) (by go_simp <;> rfl) (by go_simp <;> rfl) (by go_simp <;> rfl)
  obtain ⟨j13a, j13b, j13c, j13g, j13d, j13e, j13f, j13h, j13z⟩ := cells4 (b := w6.heap.size) hw9 (by go_size) (by go_simp <;> rfl) (by go_simp <;> rfl) (by go_simp <;> rfl) (by go_simp <;> rfl) (by go_simp <;> rfl) (by go_simp <;> rfl) (by go_simp <;> rfl) (by go_simp <;> rfl)
  obtain ⟨k13a, k13b, k13c, k13g, k13d, k13e, k13f, k13h, k13z⟩ := cells4 (b := w7.heap.size) hw9 (by go_size) (by go_simp <;> rfl) (by go_simp <;> rfl) (by go_simp <;> rfl) (by go_simp <;> rfl) (by go_simp <;> rfl) (by go_simp <;> rfl) (by go_simp <;> rfl) (by go_simp <;> rfl)
  obtain ⟨l13a, l13b, l13c, l13d, l13e, l13f, l13z⟩ := cells3 (b := w8.heap.size) hw9 (by go_size) (by go_simp <;> rfl) (by go_simp <;> rfl) (by go_simp <;> rfl) (by go_simp <;> rfl) (by go_simp <;> rfl) (by go_simp <;> rfl)
  obtain ⟨m13a, m13b, m13c, m13d, m13e, m13f, m13z⟩ := cells3 (b := w8.heap.size + 1) hw9 (by go_size) (by go_simp <;> rfl) (by go_simp <;> rfl) (by go_simp <;> rfl) (by go_simp <;> rfl) (by go_simp <;> rfl) (by go_simp <;> rfl)
  clear p12a p12b p12c p12g p12d p12e p12f p12h p12z q12a q12b q12c q12d q12e q12f q12z r12a r12b r12c r12g r12d r12e r12f r12h r12z s12a s12b s12c s12g s12d s12e s12f s12h s12z t12a t12b t12c t12g t12d t12e t12f t12h t12z i12a i12b i12c i12g i12d i12e i12f i12h i12z j12a j12b j12c j12g j12d j12e j12f j12h j12z k12a k12b k12c k12g k12d k12e k12f k12h k12z hw9
  go_wp2_with fail
  generalize hW : World.alloc _ _ = W
  have hz : w.heap.size ≤ W.heap.size := by subst hW; go_size
  have hB : Below w.heap.size w W := by subst hW; go_grown
  obtain ⟨p14a, p14b, p14c, p14g, p14d, p14e, p14f, p14h, p14z⟩ := cells4 (W := W) (b := w.heap.size) (Below.refl _ W) (by subst hW; go_size) (by subst hW; go_simp <;> rfl) (by subst hW; go_simp <;> rfl) (by subst hW; go_simp <;> rfl) (by subst hW; go_simp <;> rfl) (by subst hW; go_simp <;> rfl) (by subst hW; go_simp <;> rfl) (by subst hW; go_simp <;> rfl) (by subst hW; go_simp <;> rfl)
  obtain ⟨q14a, q14b, q14c, q14d, q14e, q14f, q14z⟩ := cells3 (W := W) (b := w.heap.size + 1) (Below.refl _ W) (by subst hW; go_size) (by subst hW; go_simp <;> rfl) (by subst hW; go_simp <;> rfl) (by subst hW; go_simp <;> rfl) (by subst hW; go_simp <;> rfl) (by subst hW; go_simp <;> rfl) (by subst hW; go_simp <;> rfl)
  obtain ⟨r14a, r14b, r14c, r14g, r14d, r14e, r14f, r14h, r14z⟩ := cells4 (W := W) (b := w2.heap.size) (Below.refl _ W) (by subst hW; go_size) (by subst hW; go_simp <;> rfl) (by subst hW; go_simp <;> rfl) (by subst hW; go_simp <;> rfl) (by subst hW; go_simp <;> rfl) (by subst hW; go_simp <;> rfl) (by subst hW; go_simp <;> rfl) (by subst hW; go_simp <;> rfl) (by subst hW; go_simp <;> rfl)
  obtain ⟨s14a, s14b, s14c, s14g, s14d, s14e, s14f, s14h, s14z⟩ := cells4 (W := W) (b := w3.heap.size) (Below.refl _ W) (by subst hW; go_size) (by subst hW; go_simp <;> rfl) (by subst hW; go_simp <;> rfl) (by subst hW; go_simp <;> rfl) (by subst hW; go_simp <;> rfl) (by subst hW; go_simp <;> rfl) (by subst hW; go_simp <;> rfl) (by subst hW; go_simp <;> rfl) (by subst hW; go_simp <;> rfl)
  obtain ⟨t14a, t14b, t14c, t14g, t14d, t14e, t14f, t14h, t14z⟩ := cells4 (W := W) (b := w4.heap.size) (Below.refl _ W) (by subst hW; go_size) (by subst hW; go_simp <;> rfl) (by subst hW; go_simp <;> rfl) (by subst hW; go_simp <;> rfl) (by subst hW; go_simp <;> rfl) (by subst hW; go_simp <;> rfl) (by subst hW; go_simp <;> rfl) (by subst hW; go_simp <;> rfl) (by subst hW; go_simp <;> rfl)
  obtain ⟨i14a, i14b, i14c, i14g, i14d, i14e, i14f, i14h, i14z⟩ := cells4 (W := W) (b := w5.heap.size) (Below.refl _ W) (by subst hW; go_size) (by subst hW; go_simp <;> rfl) (by subst hW; go_simp <;> rfl) (by subst hW; go_simp <;> rfl) (by subst hW; go_simp <;> rfl) (by subst hW; go_simp <;> rfl) (by subst hW; go_simp <;> rfl) (by subst hW; go_simp <;> rfl) (by subst hW; go_simp <;> rfl)
  obtain ⟨j14a, j14b, j14c, j14g, j14d, j14e, j14f, j14h, j14z⟩ := cells4 (W := W) (b := w6.heap.size) (Below.refl _ W) (by subst hW; go_size) (by subst hW; go_simp <;> rfl) (by subst hW; go_simp <;> rfl) (by subst hW; go_simp <;> rfl) (by subst hW; go_simp <;> rfl) (by subst hW; go_simp <;> rfl) (by subst hW; go_simp <;> rfl) (by subst hW; go_simp <;> rfl) (by subst hW; go_simp <;> rfl)
  obtain ⟨k14a, k14b, k14c, k14g, k14d, k14e, k14f, k14h, k14z⟩ := cells4 (W := W) (b := w7.heap.size) (Below.refl _ W) (by subst hW; go_size) (by subst hW; go_simp <;> rfl) (by subst hW; go_simp <;> rfl) (by subst hW; go_simp <;> rfl) (by subst hW; go_simp <;> rfl) (by subst hW; go_simp <;> rfl) (by subst hW; go_simp <;> rfl) (by subst hW; go_simp <;> rfl) (by subst hW; go_simp <;> rfl)
  obtain ⟨l14a, l14b, l14c, l14d, l14e, l14f, l14z⟩ := cells3 (W := W) (b := w8.heap.size) (Below.refl _ W) (by subst hW; go_size) (by subst hW; go_simp <;> rfl) (by subst hW; go_simp <;> rfl) (by subst hW; go_simp <;> rfl) (by subst hW; go_simp <;> rfl) (by subst hW; go_simp <;> rfl) (by subst hW; go_simp <;> rfl)
  obtain ⟨m14a, m14b, m14c, m14d, m14e, m14f, m14z⟩ := cells3 (W := W) (b := w8.heap.size + 1) (Below.refl _ W) (by subst hW; go_size) (by subst hW; go_simp <;> rfl) (by subst hW; go_simp <;> rfl) (by subst hW; go_simp <;> rfl) (by subst hW; go_simp <;> rfl) (by subst hW; go_simp <;> rfl) (by subst hW; go_simp <;> rfl)
  obtain ⟨o14a, o14b, o14c, o14d, o14e, o14f, o14z⟩ := cells3 (W := W) (b := w9.heap.size) (Below.refl _ W) (by subst hW; go_size) (by subst hW; go_simp <;> rfl) (by subst hW; go_simp <;> rfl) (by subst hW; go_simp <;> rfl) (by subst hW; go_simp <;> rfl) (by subst hW; go_simp <;> rfl) (by subst hW; go_simp <;> rfl)
  obtain ⟨c14a, c14b, c14c, c14d, c14e, c14f, c14z⟩ := cells3 (W := W) (b := w9.heap.size + 1) (Below.refl _ W) (by subst hW; go_size) (by subst hW; go_simp <;> rfl) (by subst hW; go_simp <;> rfl) (by subst hW; go_simp <;> rfl) (by subst hW; go_simp <;> rfl) (by subst hW; go_simp <;> rfl) (by subst hW; go_simp <;> rfl)
  clear p13a p13b p13c p13g p13d p13e p13f p13h p13z q13a q13b q13c q13d q13e q13f q13z r13a r13b r13c r13g r13d r13e r13f r13h r13z s13a s13b s13c s13g s13d s13e s13f s13h s13z t13a t13b t13c t13g t13d t13e t13f t13h t13z i13a i13b i13c i13g i13d i13e i13f i13h i13z j13a j13b j13c j13g j13d j13e j13f j13h j13z k13a k13b k13c k13g k13d k13e k13f k13h k13z l13a l13b l13c l13d l13e l13f l13z m13a m13b m13c m13d m13e m13f m13z hW
  have Lp14a := fun x : Later W.heap.size W => (x.cell p14z).trans p14a
  have Lp14b := fun x : Later W.heap.size W => (x.cell p14z).trans p14b
  have Lp14c := fun x : Later W.heap.size W => (x.cell p14z).trans p14c
  have Lp14g := fun x : Later W.heap.size W => (x.cell p14z).trans p14g
  have Lq14a := fun x : Later W.heap.size W => (x.cell q14z).trans q14a
  have Lq14b := fun x : Later W.heap.size W => (x.cell q14z).trans q14b
  have Lq14c := fun x : Later W.heap.size W => (x.cell q14z).trans q14c
  have Lr14a := fun x : Later W.heap.size W => (x.cell r14z).trans r14a
  have Lr14b := fun x : Later W.heap.size W => (x.cell r14z).trans r14b
  have Lr14c := fun x : Later W.heap.size W => (x.cell r14z).trans r14c
  have Lr14g := fun x : Later W.heap.size W => (x.cell r14z).trans r14g
  have Ls14a := fun x : Later W.heap.size W => (x.cell s14z).trans s14a
  have Ls14b := fun x : Later W.heap.size W => (x.cell s14z).trans s14b
  have Ls14c := fun x : Later W.heap.size W => (x.cell s14z).trans s14c
  have Ls14g := fun x : Later W.heap.size W => (x.cell s14z).trans s14g
  have Lt14a := fun x : Later W.heap.size W => (x.cell t14z).trans t14a
  have Lt14b := fun x : Later W.heap.size W => (x.cell t14z).trans t14b
  have Lt14c := fun x : Later W.heap.size W => (x.cell t14z).trans t14c
  have Lt14g := fun x : Later W.heap.size W => (x.cell t14z).trans t14g
  have Li14a := fun x : Later W.heap.size W => (x.cell i14z).trans i14a
  have Li14b := fun x : Later W.heap.size W => (x.cell i14z).trans i14b
  have Li14c := fun x : Later W.heap.size W => (x.cell i14z).trans i14c
  have Li14g := fun x : Later W.heap.size W => (x.cell i14z).trans i14g
  have Lj14a := fun x : Later W.heap.size W => (x.cell j14z).trans j14a
  have Lj14b := fun x : Later W.heap.size W => (x.cell j14z).trans j14b
  have Lj14c := fun x : Later W.heap.size W => (x.cell j14z).trans j14c
  have Lj14g := fun x : Later W.heap.size W => (x.cell j14z).trans j14g
  have Lk14a := fun x : Later W.heap.size W => (x.cell k14z).trans k14a
  have Lk14b := fun x : Later W.heap.size W => (x.cell k14z).trans k14b
  have Lk14c := fun x : Later W.heap.size W => (x.cell k14z).trans k14c
  have Lk14g := fun x : Later W.heap.size W => (x.cell k14z).trans k14g
  have Ll14a := fun x : Later W.heap.size W => (x.cell l14z).trans l14a
  have Ll14b := fun x : Later W.heap.size W => (x.cell l14z).trans l14b
  have Ll14c := fun x : Later W.heap.size W => (x.cell l14z).trans l14c
  have Lm14a := fun x : Later W.heap.size W => (x.cell m14z).trans m14a
  have Lm14b := fun x : Later W.heap.size W => (x.cell m14z).trans m14b
  have Lm14c := fun x : Later W.heap.size W => (x.cell m14z).trans m14c
  have Lo14a := fun x : Later W.heap.size W => (x.cell o14z).trans o14a
  have Lo14b := fun x : Later W.heap.size W => (x.cell o14z).trans o14b
  have Lo14c := fun x : Later W.heap.size W => (x.cell o14z).trans o14c
  have Lc14a := fun x : Later W.heap.size W => (x.cell c14z).trans c14a
  have Lc14b := fun x : Later W.heap.size W => (x.cell c14z).trans c14b
  have Lc14c := fun x : Later W.heap.size W => (x.cell c14z).trans c14c
  refine region_later W.heap.size (by kernel_rfl) (by kernel_rfl) ?_
  repeat (go_big_quiet_step (first | (go_at_call 19; exact later_of (Nat.le_refl _) (psane_any p _)) | (go_at_call 20; exact later_of (Nat.le_refl _) (rpsane_any p _)) | (go_at_call 21; exact later_of (Nat.le_refl _) (pof_any a n _)) | (go_at_call 22; exact later_of (Nat.le_refl _) (rpof_any a n _)) | (go_at_call 23; exact later_of (Nat.le_refl _) (pcon_any p a _)) | (go_at_call 24; exact later_of (Nat.le_refl _) (rpcon_any p a _))))
  refine wpQuiet_nil ?_
  intro x
  have hx : Below w.heap.size w x.at := hB.trans (x.below.mono hz)
  go_wp2
  go_ret
  exact ⟨rfl, hx⟩

end Go.Proofs.Ytongbfnndphdaaa
