/-
  What Mask and Fill of package addr return. No condition.
-/
import Derived.Test.YtfebhfghjdedhaaDoorWb
import Derived.Test.YtfebhfghjdedhaaDoorReg
namespace Go.Proofs.YtfebhfghjdedhaaDoor
open Go.RowKit

def maskv (a : Ad) (n : Int) : Ad := norm ⟨(norm a).hi &&& ~~~ tl (clamp a.v6 n) 0, (norm a).lo &&& ~~~ tl (clamp a.v6 n) 1, a.v6⟩
def fillv (a : Ad) (n : Int) : Ad := norm ⟨(norm a).hi ||| tl (clamp a.v6 n) 0, (norm a).lo ||| tl (clamp a.v6 n) 1, a.v6⟩

set_option maxHeartbeats 1000000 in
theorem mask_any (a : Ad) (n : Int) (w : World) :
    Calls Tryd.prog 63 #[.agg #[.int .u64 (u a.hi), .int .u64 (u a.lo), .bool a.v6], .int .i64 n] w fun e w' => e = .returned (.agg #[.int .u64 (u (maskv a n).hi), .int .u64 (u (maskv a n).lo), .bool (maskv a n).v6]) ∧ Below w.heap.size w w' := by
  obtain ⟨c0, c1⟩ := clamp_bd a.v6 n
  unfold maskv
  have ha0 := u_andNot (norm a).hi (tl (clamp a.v6 n) 0)
  have ha1 := u_andNot (norm a).lo (tl (clamp a.v6 n) 1)
  go_enter Tryd.func63, Tryd.ntmps63
  go_wp2_with fail
  refine (within_any a n _).mono ?_
  rintro e w1 ⟨rfl, hw1⟩
  have zw1 := hw1.size
  have bw1 := below_of (w := w) (by go_grown) hw1
  try simp at zw1
  obtain ⟨pa, pb, pc, pd, pe, pf, pz⟩ := cells3 (b := w.heap.size) hw1 (by go_size) (by go_simp <;> rfl) (by go_simp <;> rfl) (by go_simp <;> rfl) (by go_simp <;> rfl) (by go_simp <;> rfl) (by go_simp <;> rfl)
  obtain ⟨qa, qb, qc, qd, qe, qf, qz⟩ := cells3 (b := w.heap.size + 1) hw1 (by go_size) (by go_simp <;> rfl) (by go_simp <;> rfl) (by go_simp <;> rfl) (by go_simp <;> rfl) (by go_simp <;> rfl) (by go_simp <;> rfl)
  clear hw1
  go_wp2_with fail
  refine (split_any a _).mono ?_
  rintro e w2 ⟨rfl, hw2⟩
  have zw2 := hw2.size
  have bw2 := below_of (w := w) (by go_grown) hw2
  try simp at zw2
  obtain ⟨p'a, p'b, p'c, p'd, p'e, p'f, p'z⟩ := cells3 (b := w.heap.size) hw2 (by go_size) (by go_simp <;> rfl) (by go_simp <;> rfl) (by go_simp <;> rfl) (by go_simp <;> rfl) (by go_simp <;> rfl) (by go_simp <;> rfl)
  obtain ⟨q'a, q'b, q'c, q'd, q'e, q'f, q'z⟩ := cells3 (b := w.heap.size + 1) hw2 (by go_size) (by go_simp <;> rfl) (by go_simp <;> rfl) (by go_simp <;> rfl) (by go_simp <;> rfl) (by go_simp <;> rfl) (by go_simp <;> rfl)
  clear hw2 pa pb pc pd pe pf pz qa qb qc qd qe qf qz
  have d1 : ¬ w.heap.size = w2.heap.size := by omega
  have d2 : ¬ w.heap.size + 1 = w2.heap.size := by omega
  go_wp2_with fail
  refine wp_loop_rounds 3 ?_
  rw [rounds_succ]
  go_wp2_with fail
  generalize hW : World.alloc _ _ = W
  have hz : w.heap.size ≤ W.heap.size := by subst hW; go_size
  have hB : Below w.heap.size w W := by subst hW; go_grown
  obtain ⟨pa, pb, pc, pd, pe, pf, pz⟩ := cells3 (W := W) (b := w.heap.size) (Below.refl _ W) (by subst hW; go_size) (by subst hW; go_simp <;> rfl) (by subst hW; go_simp <;> rfl) (by subst hW; go_simp <;> rfl) (by subst hW; go_simp <;> rfl) (by subst hW; go_simp <;> rfl) (by subst hW; go_simp <;> rfl)
  obtain ⟨qa, qb, qc, qd, qe, qf, qz⟩ := cells3 (W := W) (b := w.heap.size + 1) (Below.refl _ W) (by subst hW; go_size) (by subst hW; go_simp <;> rfl) (by subst hW; go_simp <;> rfl) (by subst hW; go_simp <;> rfl) (by subst hW; go_simp <;> rfl) (by subst hW; go_simp <;> rfl) (by subst hW; go_simp <;> rfl)
  obtain ⟨ra, rb, rc, rd, rz⟩ := cells2 (W := W) (b := w2.heap.size) (Below.refl _ W) (by subst hW; go_size) (by subst hW; go_simp <;> rfl) (by subst hW; go_simp <;> rfl) (by subst hW; go_simp <;> rfl) (by subst hW; go_simp <;> rfl)
  clear hW p'a p'b p'c p'd p'e p'f p'z q'a q'b q'c q'd q'e q'f q'z
  have Lra := fun x : Later W.heap.size W => (x.cell rz).trans ra
  have Lrb := fun x : Later W.heap.size W => (x.cell rz).trans rb
  refine region_tail 8 W.heap.size (by kernel_rfl) (by kernel_rfl) ?_
  simp only [List.take_succ_cons, List.take_zero, List.drop_succ_cons, List.drop_zero]
  repeat (go_big_quiet_step ((go_at_call 75; exact later_same (tail_any _ _ (by omega) (by omega) (by omega) (by omega) _))))
  refine wpQuiet_nil ?_
  intro x
  have hx : Below w.heap.size w x.at := hB.trans (x.below.mono hz)
  clear Lra Lrb
  obtain ⟨p'a, p'b, p'c, p'd, p'e, p'f, p'z⟩ := cells3 x.below pz pa pb pc pd pe pf
  clear pa pb pc pd pe pf pz
  obtain ⟨q'a, q'b, q'c, q'd, q'e, q'f, q'z⟩ := cells3 x.below qz qa qb qc qd qe qf
  clear qa qb qc qd qe qf qz
  obtain ⟨r'a, r'b, r'c, r'd, r'z⟩ := cells2 x.below rz ra rb rc rd
  clear ra rb rc rd rz
  generalize x.at = w3 at *
  clear x hB hz W
  go_wp2_with fail
  rw [rounds_succ]
  go_wp2_with fail
  generalize hW : World.setCell _ _ _ = W
  have hz : w.heap.size ≤ W.heap.size := by subst hW; go_size
  have hB : Below w.heap.size w W := by subst hW; go_grown
  obtain ⟨pa, pb, pc, pd, pe, pf, pz⟩ := cells3 (W := W) (b := w.heap.size) (Below.refl _ W) (by subst hW; go_size) (by subst hW; go_simp <;> rfl) (by subst hW; go_simp <;> rfl) (by subst hW; go_simp <;> rfl) (by subst hW; go_simp <;> rfl) (by subst hW; go_simp <;> rfl) (by subst hW; go_simp <;> rfl)
  obtain ⟨qa, qb, qc, qd, qe, qf, qz⟩ := cells3 (W := W) (b := w.heap.size + 1) (Below.refl _ W) (by subst hW; go_size) (by subst hW; go_simp <;> rfl) (by subst hW; go_simp <;> rfl) (by subst hW; go_simp <;> rfl) (by subst hW; go_simp <;> rfl) (by subst hW; go_simp <;> rfl) (by subst hW; go_simp <;> rfl)
  obtain ⟨ra, rb, rc, rd, rz⟩ := cells2 (W := W) (b := w2.heap.size) (Below.refl _ W) (by subst hW; go_size) (by subst hW; go_simp <;> rfl) (by subst hW; go_simp <;> rfl) (by subst hW; go_simp <;> rfl) (by subst hW; go_simp <;> rfl)
  clear hW hx p'a p'b p'c p'd p'e p'f p'z q'a q'b q'c q'd q'e q'f q'z r'a r'b r'c r'd r'z
  have Lra := fun x : Later W.heap.size W => (x.cell rz).trans ra
  have Lrb := fun x : Later W.heap.size W => (x.cell rz).trans rb
  refine region_tail 8 W.heap.size (by kernel_rfl) (by kernel_rfl) ?_
  simp only [List.take_succ_cons, List.take_zero, List.drop_succ_cons, List.drop_zero]
  repeat (go_big_quiet_step ((go_at_call 75; exact later_same (tail_any _ _ (by omega) (by omega) (by omega) (by omega) _))))
  refine wpQuiet_nil ?_
  intro x
  have hx : Below w.heap.size w x.at := hB.trans (x.below.mono hz)
  clear Lra Lrb
  obtain ⟨p'a, p'b, p'c, p'd, p'e, p'f, p'z⟩ := cells3 x.below pz pa pb pc pd pe pf
  clear pa pb pc pd pe pf pz
  obtain ⟨q'a, q'b, q'c, q'd, q'e, q'f, q'z⟩ := cells3 x.below qz qa qb qc qd qe qf
  clear qa qb qc qd qe qf qz
  obtain ⟨r'a, r'b, r'c, r'd, r'z⟩ := cells2 x.below rz ra rb rc rd
  clear ra rb rc rd rz
  generalize x.at = w4 at *
  clear x hB hz W
  go_wp2_with fail
  rw [rounds_succ]
  go_wp2_with fail
  refine (whole_any ⟨(norm a).hi &&& ~~~ tl (clamp a.v6 n) 0, (norm a).lo &&& ~~~ tl (clamp a.v6 n) 1, a.v6⟩ _).mono ?_
  rintro e w5 ⟨rfl, hw5⟩
  have zw5 := hw5.size
  have bw5 := below_of (w := w) (by go_grown) hw5
  try simp at zw5
  obtain ⟨qa, qb, qc, qd, qe, qf, qz⟩ := cells3 (b := w.heap.size + 1) hw5 (by go_size) (by go_simp <;> rfl) (by go_simp <;> rfl) (by go_simp <;> rfl) (by go_simp <;> rfl) (by go_simp <;> rfl) (by go_simp <;> rfl)
  clear hw5
  go_wp2
  refine bodyPost_ret (v := .agg #[.int .u64 (u (norm ⟨(norm a).hi &&& ~~~ tl (clamp a.v6 n) 0, (norm a).lo &&& ~~~ tl (clamp a.v6 n) 1, a.v6⟩).hi), .int .u64 (u (norm ⟨(norm a).hi &&& ~~~ tl (clamp a.v6 n) 0, (norm a).lo &&& ~~~ tl (clamp a.v6 n) 1, a.v6⟩).lo), .bool (norm ⟨(norm a).hi &&& ~~~ tl (clamp a.v6 n) 0, (norm a).lo &&& ~~~ tl (clamp a.v6 n) 1, a.v6⟩).v6]) (by simp [*, results, Tryd.results63, go_sem] <;> rfl) rfl ⟨rfl, ?_⟩
  go_grown

end Go.Proofs.YtfebhfghjdedhaaDoor
