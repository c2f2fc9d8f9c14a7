/-
  What Mask, Fill and Next of the document's answer for layer 1 return. No condition.
-/
import Derived.Test.YtongbfnndphdaaaRefF
namespace Go.Proofs.Ytongbfnndphdaaa
open Go.RowKit

set_option maxHeartbeats 1000000 in
theorem refMask_any (a : Ad) (n : Int) (w : World) :
    Calls Try.prog 47 #[.agg #[.int .u64 (u a.hi), .int .u64 (u a.lo), .bool a.v6], .int .i64 n] w fun e w' => e = .returned (.agg #[.int .u64 (u (maskv a n).hi), .int .u64 (u (maskv a n).lo), .bool (maskv a n).v6]) ∧ Below w.heap.size w w' := by
  have hf := fun W => fromv_any a n _ 0 rfl (by omega) W
  rw [of_mask] at hf
  have HF := Lib.hid hf
  clear hf
  go_enter Try.func47, Try.ntmps47
  go_wp2_with fail
  refine (HF.out _).mono ?_
  rintro e w3 ⟨rfl, h3⟩
  have b3 := below_of (w := w) (by go_grown) h3
  obtain ⟨qa, qb, qc, qd, qe, qf, qz⟩ := cells3 (b := w.heap.size + 1) h3 (by go_size) (by go_simp <;> rfl) (by go_simp <;> rfl) (by go_simp <;> rfl) (by go_simp <;> rfl) (by go_simp <;> rfl) (by go_simp <;> rfl)
  clear h3
  go_wp2
  refine bodyPost_ret (v := .agg #[.int .u64 (u (maskv a n).hi), .int .u64 (u (maskv a n).lo), .bool (maskv a n).v6]) (by simp [*, results, Try.results47, go_sem] <;> rfl) rfl ⟨rfl, ?_⟩
  go_grown
set_option maxHeartbeats 1000000 in
theorem refFill_any (a : Ad) (n : Int) (w : World) :
    Calls Try.prog 48 #[.agg #[.int .u64 (u a.hi), .int .u64 (u a.lo), .bool a.v6], .int .i64 n] w fun e w' => e = .returned (.agg #[.int .u64 (u (fillv a n).hi), .int .u64 (u (fillv a n).lo), .bool (fillv a n).v6]) ∧ Below w.heap.size w w' := by
  have hf := fun W => fromv_any a n _ 1 rfl (by omega) W
  rw [of_fill] at hf
  have HF := Lib.hid hf
  clear hf
  go_enter Try.func48, Try.ntmps48
  go_wp2_with fail
  refine (HF.out _).mono ?_
  rintro e w3 ⟨rfl, h3⟩
  have b3 := below_of (w := w) (by go_grown) h3
  obtain ⟨qa, qb, qc, qd, qe, qf, qz⟩ := cells3 (b := w.heap.size + 1) h3 (by go_size) (by go_simp <;> rfl) (by go_simp <;> rfl) (by go_simp <;> rfl) (by go_simp <;> rfl) (by go_simp <;> rfl) (by go_simp <;> rfl)
  clear h3
  go_wp2
  refine bodyPost_ret (v := .agg #[.int .u64 (u (fillv a n).hi), .int .u64 (u (fillv a n).lo), .bool (fillv a n).v6]) (by simp [*, results, Try.results48, go_sem] <;> rfl) rfl ⟨rfl, ?_⟩
  go_grown

end Go.Proofs.Ytongbfnndphdaaa
