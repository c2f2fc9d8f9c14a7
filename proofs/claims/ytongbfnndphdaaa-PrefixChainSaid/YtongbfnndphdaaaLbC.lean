/-
  PrefixChain returns true, whatever address. No condition.
-/
import Derived.Test.YtongbfnndphdaaaMathR
import Derived.Test.YtongbfnndphdaaaPi
import Derived.Test.YtongbfnndphdaaaPj
import Derived.Test.YtongbfnndphdaaaPbx
namespace Go.Proofs.Ytongbfnndphdaaa
open Go.RowKit

set_option maxHeartbeats 4000000 in
set_option maxRecDepth 100000 in
theorem pchain_law (a : Ad) (w : World) :
    Calls Try.prog 9 #[.agg #[.int .u64 (u a.hi), .int .u64 (u a.lo), .bool a.v6]] w fun e w' => e = .returned (.bool true) ∧ Below w.heap.size w w' := by
  have hw := wid_bd a.v6
  have hof := fun W : World => pof_any a 128 W
  have ho : pof a 128 = pof a (wid a.v6 - ((0 : Nat) : Int)) := by
    unfold pof
    rw [show clamp a.v6 128 = clamp a.v6 (wid a.v6 - ((0 : Nat) : Int)) from by unfold clamp; omega]
  rw [ho] at hof
  have HO := Lib.hid hof
  clear hof ho
  go_enter Try.func9, Try.ntmps9
  go_wp2_with fail
  refine (awake2_any _).mono ?_
  rintro e w1 ⟨rfl, hw1⟩
  have zw1 := hw1.size
  have bw1 := below_of (w := w) (by go_grown) hw1
  try simp at zw1
  obtain ⟨q1a, q1b, q1c, q1d, q1e, q1f, q1z⟩ := cells3 (b := w.heap.size) hw1 (by go_size) (by go_simp <;> rfl) (by go_simp <;> rfl) (by go_simp <;> rfl) (by go_simp <;> rfl) (by go_simp <;> rfl) (by go_simp <;> rfl)
  clear hw1
  go_wp2_with fail
  refine (HO.out _).mono ?_
  rintro e w2 ⟨rfl, hw2⟩
  have zw2 := hw2.size
  have bw2 := below_of (w := w) (by go_grown) hw2
  try simp at zw2
  have hw1b := below_of (w := w1) (by go_grown) hw2
  obtain ⟨q2a, q2b, q2c, q2d, q2e, q2f, q2z⟩ := cells3 hw1b q1z q1a q1b q1c q1d q1e q1f
  clear q1a q1b q1c q1d q1e q1f q1z hw2 hw1b
  have hne2 : w.heap.size < w2.heap.size := by omega
  go_wp2_with fail
  go_loopw [5, 6] (fun n i wr => ∃ k : Nat, (k : Int) ≤ wid a.v6 ∧ n = .int .i64 k ∧ i = .int .i64 k ∧ PBox wr w2.heap.size (pof a (wid a.v6 - (k : Int))) ∧ Box wr w.heap.size a ∧ Below w.heap.size w wr) (fun n _ _ => 200 - (intOf n).toNat)
  case atStart =>
    refine ⟨0, by omega, rfl, rfl, ?_, ?_, ?_⟩
    · refine ⟨?_, ?_, ?_, ?_, ?_, ?_, ?_, ?_, ?_⟩ <;> first | (go_simp; done) | go_size
    · refine ⟨?_, ?_, ?_, ?_, ?_, ?_, ?_⟩ <;> first | (go_simp; done) | (go_simp <;> rfl) | go_size
    · go_grown
  case round =>
    clear q2a q2b q2c q2d q2e q2f q2z
    obtain ⟨k, hk, rfl, rfl, ⟨p3a, p3b, p3c, p3g, p3d, p3e, p3f, p3h, p3z⟩, ⟨q3a, q3b, q3c, q3d, q3e, q3f, q3z⟩, hB⟩ := hrel
    clear bw1 bw2
    have zr := hB.size
    have zp := p3z
    have t0 := con_pof a (wid a.v6 - (k : Int))
    have t1 : pfB (u (pof a (wid a.v6 - (k : Int))).a.hi) (u (pof a (wid a.v6 - (k : Int))).a.lo) (pof a (wid a.v6 - (k : Int))).a.v6 (pof a (wid a.v6 - (k : Int))).n (u (pof a (pof a (wid a.v6 - (k : Int))).n).a.hi) (u (pof a (pof a (wid a.v6 - (k : Int))).n).a.lo) (pof a (pof a (wid a.v6 - (k : Int))).n).a.v6 (pof a (pof a (wid a.v6 - (k : Int))).n).n = true := (pfEq_iff _ _).2 ((con_iff_pof _ _).1 t0).symm
    have tn := pof_n a (wid a.v6 - (k : Int)) (by omega) (by omega)
    have TN := Lib.hid tn
    clear tn
    by_cases hlt : (k : Int) < wid a.v6
    · have hpp := chain_parent a (wid a.v6 - (k : Int)) (by omega) (by omega)
      have ek : wid a.v6 - (k : Int) - 1 = wid a.v6 - ((k + 1 : Nat) : Int) := by omega
      have hcp := fun W : World => pparent_any (pof a (wid a.v6 - (k : Int))) W
      rw [hpp, ek] at hcp
      have HP := Lib.hid hcp
      have t2 := chain_ins a (wid a.v6 - (k : Int)) (by omega) (by omega)
      rw [ek] at t2
      have tm := pof_n a (wid a.v6 - ((k + 1 : Nat) : Int)) (by omega) (by omega)
      have t3 : ((pof a (wid a.v6 - ((k + 1 : Nat) : Int))).n == (pof a (wid a.v6 - (k : Int))).n - 1) = true := by rw [beq_iff_eq, tm, TN.out]; omega
      have nb0 : 0 ≤ (pof a (wid a.v6 - (k : Int))).n ∧ (pof a (wid a.v6 - (k : Int))).n ≤ 128 := by rw [TN.out]; omega
      clear hpp ek hcp tm
      generalize hP : pof a (wid a.v6 - (k : Int)) = P at *
      generalize hQ : pof a (wid a.v6 - ((k + 1 : Nat) : Int)) = Q at *
      go_wp2_with fail
      refine (HP.out _).mono ?_
      rintro e w4 ⟨rfl, hw4⟩
      have zw4 := hw4.size
      have bw4 := below_of (w := w) (by go_grown) hw4
      try simp at zw4
      have hwrb := below_of (w := wr) (by go_grown) hw4
      obtain ⟨q4a, q4b, q4c, q4d, q4e, q4f, q4z⟩ := cells3 hwrb q3z q3a q3b q3c q3d q3e q3f
      obtain ⟨p4a, p4b, p4c, p4g, p4d, p4e, p4f, p4h, p4z⟩ := cells4 hwrb p3z p3a p3b p3c p3g p3d p3e p3f p3h
      clear q3a q3b q3c q3d q3e q3f q3z p3a p3b p3c p3g p3d p3e p3f p3h p3z hw4 hwrb
      go_wp2_with fail
      generalize hW : World.alloc _ _ = W
      have hz : w.heap.size ≤ W.heap.size := by subst hW; go_size
      have hB : Below w.heap.size w W := by subst hW; go_grown
      have hw4b : Below w4.heap.size w4 W := by subst hW; go_grown
      obtain ⟨q5a, q5b, q5c, q5d, q5e, q5f, q5z⟩ := cells3 hw4b q4z q4a q4b q4c q4d q4e q4f
      obtain ⟨p5a, p5b, p5c, p5g, p5d, p5e, p5f, p5h, p5z⟩ := cells4 hw4b p4z p4a p4b p4c p4g p4d p4e p4f p4h
      obtain ⟨r5a, r5b, r5c, r5g, r5d, r5e, r5f, r5h, r5z⟩ := cells4 (W := W) (b := w4.heap.size) (Below.refl _ W) (by subst hW; go_size) (by subst hW; go_simp <;> rfl) (by subst hW; go_simp <;> rfl) (by subst hW; go_simp <;> rfl) (by subst hW; go_simp <;> rfl) (by subst hW; go_simp <;> rfl) (by subst hW; go_simp <;> rfl) (by subst hW; go_simp <;> rfl) (by subst hW; go_simp <;> rfl)
      clear q4a q4b q4c q4d q4e q4f q4z p4a p4b p4c p4g p4d p4e p4f p4h p4z hW hw4b
      have Lq5a := fun x : Later W.heap.size W => (x.cell q5z).trans q5a
      have Lq5b := fun x : Later W.heap.size W => (x.cell q5z).trans q5b
      have Lq5c := fun x : Later W.heap.size W => (x.cell q5z).trans q5c
      have Lp5a := fun x : Later W.heap.size W => (x.cell p5z).trans p5a
      have Lp5b := fun x : Later W.heap.size W => (x.cell p5z).trans p5b
      have Lp5c := fun x : Later W.heap.size W => (x.cell p5z).trans p5c
      have Lp5g := fun x : Later W.heap.size W => (x.cell p5z).trans p5g
      have Lr5a := fun x : Later W.heap.size W => (x.cell r5z).trans r5a
      have Lr5b := fun x : Later W.heap.size W => (x.cell r5z).trans r5b
      have Lr5c := fun x : Later W.heap.size W => (x.cell r5z).trans r5c
      have Lr5g := fun x : Later W.heap.size W => (x.cell r5z).trans r5g
      try simp only [List.append_eq, List.cons_append, List.nil_append]
      refine region_later W.heap.size (by kernel_rfl) (by kernel_rfl) ?_
      repeat (go_big_quiet_step (first | (go_at_call 23; exact later_of (Nat.le_refl _) (pcon_any _ _ _)) | (go_at_call 21; exact later_of (Nat.le_refl _) (pof_any _ _ _))))
      refine wpQuiet_nil ?_
      intro x
      have hx : Below w.heap.size w x.at := hB.trans (x.below.mono hz)
      clear Lq5a Lq5b Lq5c Lp5a Lp5b Lp5c Lp5g Lr5a Lr5b Lr5c Lr5g
      obtain ⟨q6a, q6b, q6c, q6d, q6e, q6f, q6z⟩ := cells3 x.below q5z q5a q5b q5c q5d q5e q5f
      obtain ⟨p6a, p6b, p6c, p6g, p6d, p6e, p6f, p6h, p6z⟩ := cells4 x.below p5z p5a p5b p5c p5g p5d p5e p5f p5h
      obtain ⟨r6a, r6b, r6c, r6g, r6d, r6e, r6f, r6h, r6z⟩ := cells4 x.below r5z r5a r5b r5c r5g r5d r5e r5f r5h
      clear q5a q5b q5c q5d q5e q5f q5z p5a p5b p5c p5g p5d p5e p5f p5h p5z r5a r5b r5c r5g r5d r5e r5f r5h r5z
      have bw5 := hx
      have zw5 := hx.size
      clear hx
      generalize x.at = w5 at *
      clear x hB hz W
      go_wp2_with fail
      refine (pins_any Q P _).mono ?_
      rintro e w6 ⟨rfl, hw6⟩
      have zw6 := hw6.size
      have bw6 := below_of (w := w) (by go_grown) hw6
      try simp at zw6
      have hw5b := below_of (w := w5) (by go_grown) hw6
      obtain ⟨q7a, q7b, q7c, q7d, q7e, q7f, q7z⟩ := cells3 hw5b q6z q6a q6b q6c q6d q6e q6f
      obtain ⟨p7a, p7b, p7c, p7g, p7d, p7e, p7f, p7h, p7z⟩ := cells4 hw5b p6z p6a p6b p6c p6g p6d p6e p6f p6h
      obtain ⟨r7a, r7b, r7c, r7g, r7d, r7e, r7f, r7h, r7z⟩ := cells4 hw5b r6z r6a r6b r6c r6g r6d r6e r6f r6h
      clear q6a q6b q6c q6d q6e q6f q6z p6a p6b p6c p6g p6d p6e p6f p6h p6z r6a r6b r6c r6g r6d r6e r6f r6h r6z hw6 hw5b
      have d1 : ¬ w.heap.size = w2.heap.size := by omega
      have d2 : ¬ w4.heap.size = w2.heap.size := by omega
      go_wp2_with fail
      refine ⟨⟨k + 1, by omega, by go_num, by go_num, ?_, ?_, ?_⟩, by simp [intOf]; omega⟩
      · rw [hQ]
        refine ⟨?_, ?_, ?_, ?_, ?_, ?_, ?_, ?_, ?_⟩ <;> first | (go_simp; done) | (simp only [World.size_setCell]; assumption)
      · refine ⟨?_, ?_, ?_, ?_, ?_, ?_, ?_⟩ <;> first | (go_simp; done) | (simp only [World.size_setCell]; assumption)
      · go_grown
    · have ek : wid a.v6 - (k : Int) = 0 := by omega
      have hcp := fun W : World => pparent_any (pof a (wid a.v6 - (k : Int))) W
      rw [show pparent (pof a (wid a.v6 - (k : Int))) = (nilP, false) by rw [ek]; exact chain_stop a] at hcp
      have HP := Lib.hid hcp
      have t2 : ((pof a (wid a.v6 - (k : Int))).n == 0) = true := by rw [beq_iff_eq, TN.out, ek]
      have t3 : ((k : Int) == wid a.v6) = true := by rw [beq_iff_eq]; omega
      have hk3 : (k : Int) < 130 := by omega
      clear hcp ek TN hlt hk
      generalize pof a (wid a.v6 - (k : Int)) = P at *
      go_wp2_with fail
      refine (HP.out _).mono ?_
      rintro e w4 ⟨rfl, hw4⟩
      have zw4 := hw4.size
      have bw4 := below_of (w := w) (by go_grown) hw4
      try simp at zw4
      have hwrb := below_of (w := wr) (by go_grown) hw4
      obtain ⟨q8a, q8b, q8c, q8d, q8e, q8f, q8z⟩ := cells3 hwrb q3z q3a q3b q3c q3d q3e q3f
      obtain ⟨p8a, p8b, p8c, p8g, p8d, p8e, p8f, p8h, p8z⟩ := cells4 hwrb p3z p3a p3b p3c p3g p3d p3e p3f p3h
      clear q3a q3b q3c q3d q3e q3f q3z p3a p3b p3c p3g p3d p3e p3f p3h p3z hw4 hwrb
      go_wp2_with fail
      generalize hW : World.alloc _ _ = W
      have hz : w.heap.size ≤ W.heap.size := by subst hW; go_size
      have hB : Below w.heap.size w W := by subst hW; go_grown
      have hw4b : Below w4.heap.size w4 W := by subst hW; go_grown
      obtain ⟨q9a, q9b, q9c, q9d, q9e, q9f, q9z⟩ := cells3 hw4b q8z q8a q8b q8c q8d q8e q8f
      obtain ⟨p9a, p9b, p9c, p9g, p9d, p9e, p9f, p9h, p9z⟩ := cells4 hw4b p8z p8a p8b p8c p8g p8d p8e p8f p8h
      clear q8a q8b q8c q8d q8e q8f q8z p8a p8b p8c p8g p8d p8e p8f p8h p8z hW hw4b
      have Lq9a := fun x : Later W.heap.size W => (x.cell q9z).trans q9a
      have Lq9b := fun x : Later W.heap.size W => (x.cell q9z).trans q9b
      have Lq9c := fun x : Later W.heap.size W => (x.cell q9z).trans q9c
      have Lp9a := fun x : Later W.heap.size W => (x.cell p9z).trans p9a
      have Lp9b := fun x : Later W.heap.size W => (x.cell p9z).trans p9b
      have Lp9c := fun x : Later W.heap.size W => (x.cell p9z).trans p9c
      have Lp9g := fun x : Later W.heap.size W => (x.cell p9z).trans p9g
      try simp only [List.append_eq, List.cons_append, List.nil_append]
      refine region_later W.heap.size (by kernel_rfl) (by kernel_rfl) ?_
      repeat (go_big_quiet_step (first | (go_at_call 23; exact later_of (Nat.le_refl _) (pcon_any _ _ _)) | (go_at_call 21; exact later_of (Nat.le_refl _) (pof_any _ _ _))))
      refine wpQuiet_nil ?_
      intro x
      have hx : Below w.heap.size w x.at := hB.trans (x.below.mono hz)
      clear Lq9a Lq9b Lq9c Lp9a Lp9b Lp9c Lp9g
      obtain ⟨q10a, q10b, q10c, q10d, q10e, q10f, q10z⟩ := cells3 x.below q9z q9a q9b q9c q9d q9e q9f
      obtain ⟨p10a, p10b, p10c, p10g, p10d, p10e, p10f, p10h, p10z⟩ := cells4 x.below p9z p9a p9b p9c p9g p9d p9e p9f p9h
      clear q9a q9b q9c q9d q9e q9f q9z p9a p9b p9c p9g p9d p9e p9f p9h p9z
      have bw5 := hx
      have zw5 := hx.size
      clear hx
      generalize x.at = w5 at *
      clear x hB hz W
      go_wp2_with fail
      refine (width_any a.v6 _).mono ?_
      rintro e w6 ⟨rfl, rfl⟩
      go_wp2
      go_ret
      exact ⟨rfl, bw5⟩

end Go.Proofs.Ytongbfnndphdaaa
