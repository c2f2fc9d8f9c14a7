/-
  What Compare and Ends of package prefix return. No condition.
-/
import Derived.Test.YthdnpilkkegniaaPg
namespace Go.Proofs.Ythdnpilkkegniaa
open Go.RowKit

set_option maxHeartbeats 400000 in
theorem cmpI_any (x y : Int) (w : World) :
    Calls Try.prog 82 #[.int .i64 x, .int .i64 y] w fun e w' => e = .returned (.int .i64 (cmpI x y)) ∧ w = w' := by
  by_cases h1 : x < y
  · have hr := Lib.hid (show cmpI x y = -1 from if_pos h1)
    go_enter Try.func82, Try.ntmps82
    go_wp2
    go_ret
    exact ⟨ret_int hr.out.symm, rfl⟩
  · by_cases h2 : y < x
    · have hr := Lib.hid (show cmpI x y = 1 from (if_neg h1).trans (if_pos h2))
      go_enter Try.func82, Try.ntmps82
      go_wp2
      go_ret
      exact ⟨ret_int hr.out.symm, rfl⟩
    · have hr := Lib.hid (show cmpI x y = 0 from (if_neg h1).trans (if_neg h2))
      go_enter Try.func82, Try.ntmps82
      go_wp2
      go_ret
      exact ⟨ret_int hr.out.symm, rfl⟩

def orI (x y : Int) : Int := if x = 0 then y else x
set_option maxHeartbeats 400000 in
theorem or2_any (g c : Nat) (x y : Int) (w : World) (h0 : w.cell? ⟨g, 0, none⟩ = some (.int .i64 x)) (h1 : w.cell? ⟨g, 1, none⟩ = some (.int .i64 y)) :
    Calls Try.prog 80 #[.slice (some ⟨g, 0, none⟩) 2 c] w fun e w' => e = .returned (.int .i64 (orI x y)) ∧ w = w' := by
  by_cases hx : x = 0
  · rw [show orI x y = y from if_pos hx]
    subst hx
    by_cases hy : y = 0
    · subst hy
      go_enter Try.func80, Try.ntmps80
      go_wp2_with fail
      refine wp_loop_rounds 3 ?_
      rw [rounds_succ]
      go_wp2_with fail
      rw [rounds_succ]
      go_wp2_with fail
      rw [rounds_succ]
      go_wp2
      go_ret
      exact ⟨rfl, rfl⟩
    · have hy' : (y == 0) = false := by simp [hy]
      go_enter Try.func80, Try.ntmps80
      go_wp2_with fail
      refine wp_loop_rounds 3 ?_
      rw [rounds_succ]
      go_wp2_with fail
      rw [rounds_succ]
      go_wp2
      go_ret
      exact ⟨rfl, rfl⟩
  · rw [show orI x y = x from if_neg hx]
    have hx' : (x == 0) = false := by simp [hx]
    go_enter Try.func80, Try.ntmps80
    go_wp2_with fail
    refine wp_loop_rounds 3 ?_
    rw [rounds_succ]
    go_wp2
    go_ret
    exact ⟨rfl, rfl⟩

set_option maxHeartbeats 1000000 in
theorem pcmp_any (p q : Pf) (w : World) :
    Calls Try.prog 26 #[.agg #[.int .u64 (u p.a.hi), .int .u64 (u p.a.lo), .bool p.a.v6, .int .i64 p.n], .agg #[.int .u64 (u q.a.hi), .int .u64 (u q.a.lo), .bool q.a.v6, .int .i64 q.n]] w fun e w' => e = .returned (.int .i64 (pcmp p q)) ∧ Below w.heap.size w w' := by
  go_enter Try.func26, Try.ntmps26
  go_wp2_with fail
  generalize hW : World.alloc _ _ = W
  have hz : w.heap.size ≤ W.heap.size := by subst hW; go_size
  have hB : Below w.heap.size w W := by subst hW; go_grown
  obtain ⟨pa, pb, pc, pg, pd, pe, pf, ph, pz⟩ := cells4 (W := W) (b := w.heap.size) (Below.refl _ W) (by subst hW; go_size) (by subst hW; go_simp <;> rfl) (by subst hW; go_simp <;> rfl) (by subst hW; go_simp <;> rfl) (by subst hW; go_simp <;> rfl) (by subst hW; go_simp <;> rfl) (by subst hW; go_simp <;> rfl) (by subst hW; go_simp <;> rfl) (by subst hW; go_simp <;> rfl)
  obtain ⟨qa, qb, qc, qg, qd, qe, qf, qh, qz⟩ := cells4 (W := W) (b := w.heap.size + 1) (Below.refl _ W) (by subst hW; go_size) (by subst hW; go_simp <;> rfl) (by subst hW; go_simp <;> rfl) (by subst hW; go_simp <;> rfl) (by subst hW; go_simp <;> rfl) (by subst hW; go_simp <;> rfl) (by subst hW; go_simp <;> rfl) (by subst hW; go_simp <;> rfl) (by subst hW; go_simp <;> rfl)
  clear hW
  have Lpa := fun x : Later W.heap.size W => (x.cell pz).trans pa
  have Lpb := fun x : Later W.heap.size W => (x.cell pz).trans pb
  have Lpc := fun x : Later W.heap.size W => (x.cell pz).trans pc
  have Lpg := fun x : Later W.heap.size W => (x.cell pz).trans pg
  have Lqa := fun x : Later W.heap.size W => (x.cell qz).trans qa
  have Lqb := fun x : Later W.heap.size W => (x.cell qz).trans qb
  have Lqc := fun x : Later W.heap.size W => (x.cell qz).trans qc
  have Lqg := fun x : Later W.heap.size W => (x.cell qz).trans qg
  refine region_tail 10 W.heap.size (by kernel_rfl) (by kernel_rfl) ?_
  simp only [List.take_succ_cons, List.take_zero, List.drop_succ_cons, List.drop_zero]
  repeat (go_big_quiet_step (first | (go_at_call 81; exact later_of (Nat.le_refl _) (cmp_any p.a q.a _)) | (go_at_call 82; exact later_same (cmpI_any _ _ _))))
  refine wpQuiet_nil ?_
  intro x
  have hx : Below w.heap.size w x.at := hB.trans (x.below.mono hz)
  clear Lpa Lpb Lpc Lpg Lqa Lqb Lqc Lqg pa pb pc pd pe pf pg ph pz qa qb qc qd qe qf qg qh qz
  generalize x.at = w2 at *
  clear x hB hz W
  go_wp2_with fail
  refine (or2_any w2.heap.size 2 (cmpv p.a q.a) (cmpI p.n q.n) _ (by rw [cell_new rfl]; rfl) (by rw [cell_new rfl]; rfl)).mono ?_
  rintro e w3 ⟨rfl, rfl⟩
  go_wp2
  go_ret
  have hz2 := hx.size
  exact ⟨rfl, by go_grown⟩

set_option maxHeartbeats 1000000 in
theorem pends_any (p : Pf) (w : World) :
    Calls Try.prog 43 #[.agg #[.int .u64 (u p.a.hi), .int .u64 (u p.a.lo), .bool p.a.v6, .int .i64 p.n]] w fun e w' => e = .returned (.tuple #[.agg #[.int .u64 (u (maskv p.a p.n).hi), .int .u64 (u (maskv p.a p.n).lo), .bool (maskv p.a p.n).v6], .agg #[.int .u64 (u (fillv p.a p.n).hi), .int .u64 (u (fillv p.a p.n).lo), .bool (fillv p.a p.n).v6]]) ∧ Below w.heap.size w w' := by
  go_enter Try.func43, Try.ntmps43
  go_wp2_with fail
  generalize hW : World.alloc _ _ = W
  have hz : w.heap.size ≤ W.heap.size := by subst hW; go_size
  have hB : Below w.heap.size w W := by subst hW; go_grown
  obtain ⟨pa, pb, pc, pg, pd, pe, pf, ph, pz⟩ := cells4 (W := W) (b := w.heap.size) (Below.refl _ W) (by subst hW; go_size) (by subst hW; go_simp <;> rfl) (by subst hW; go_simp <;> rfl) (by subst hW; go_simp <;> rfl) (by subst hW; go_simp <;> rfl) (by subst hW; go_simp <;> rfl) (by subst hW; go_simp <;> rfl) (by subst hW; go_simp <;> rfl) (by subst hW; go_simp <;> rfl)
  obtain ⟨qa, qb, qc, qd, qe, qf, qz⟩ := cells3 (W := W) (b := w.heap.size + 1) (Below.refl _ W) (by subst hW; go_size) (by subst hW; go_simp <;> rfl) (by subst hW; go_simp <;> rfl) (by subst hW; go_simp <;> rfl) (by subst hW; go_simp <;> rfl) (by subst hW; go_simp <;> rfl) (by subst hW; go_simp <;> rfl)
  obtain ⟨ra, rb, rc, rd, re, rf, rz⟩ := cells3 (W := W) (b := w.heap.size + 1 + 1) (Below.refl _ W) (by subst hW; go_size) (by subst hW; go_simp <;> rfl) (by subst hW; go_simp <;> rfl) (by subst hW; go_simp <;> rfl) (by subst hW; go_simp <;> rfl) (by subst hW; go_simp <;> rfl) (by subst hW; go_simp <;> rfl)
  clear hW
  have Lpa := fun x : Later W.heap.size W => (x.cell pz).trans pa
  have Lpb := fun x : Later W.heap.size W => (x.cell pz).trans pb
  have Lpc := fun x : Later W.heap.size W => (x.cell pz).trans pc
  have Lpg := fun x : Later W.heap.size W => (x.cell pz).trans pg
  refine region_tail 10 W.heap.size (by kernel_rfl) (by kernel_rfl) ?_
  simp only [List.take_succ_cons, List.take_zero, List.drop_succ_cons, List.drop_zero]
  repeat (go_big_quiet_step (first | (go_at_call 98; exact later_of (Nat.le_refl _) (mask_any p.a p.n _)) | (go_at_call 99; exact later_of (Nat.le_refl _) (fill_any p.a p.n _))))
  refine wpQuiet_nil ?_
  intro x
  have hx : Below w.heap.size w x.at := hB.trans (x.below.mono hz)
  clear Lpa Lpb Lpc Lpg
  obtain ⟨q'a, q'b, q'c, q'd, q'e, q'f, q'z⟩ := cells3 x.below qz qa qb qc qd qe qf
  clear qa qb qc qd qe qf qz
  obtain ⟨r'a, r'b, r'c, r'd, r'e, r'f, r'z⟩ := cells3 x.below rz ra rb rc rd re rf
  clear ra rb rc rd re rf rz
  clear pa pb pc pd pe pf pg ph pz
  generalize x.at = w2 at *
  clear x hB hz W
  go_wp2
  refine bodyPost_ret (v := .tuple #[.agg #[.int .u64 (u (maskv p.a p.n).hi), .int .u64 (u (maskv p.a p.n).lo), .bool (maskv p.a p.n).v6], .agg #[.int .u64 (u (fillv p.a p.n).hi), .int .u64 (u (fillv p.a p.n).lo), .bool (fillv p.a p.n).v6]]) (by simp [*, results, Try.results43, go_sem] <;> rfl) rfl ⟨rfl, ?_⟩
  go_grown

end Go.Proofs.Ythdnpilkkegniaa
