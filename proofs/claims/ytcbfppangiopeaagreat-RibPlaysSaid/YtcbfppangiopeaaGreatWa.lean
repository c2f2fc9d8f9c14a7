/-
  What the small functions of package addr return. No condition.
-/
import Derived.Test.YtcbfppangiopeaaGreatProg
import Derived.Test.YtcbfppangiopeaaGreatAd
namespace Go.Proofs.YtcbfppangiopeaaGreat
open Go.RowKit

set_option maxHeartbeats 400000 in
theorem width_any (v : Bool) (w : World) :
    Calls Tryz.prog 39 #[.bool v] w fun e w' => e = .returned (.int .i64 (wid v)) ∧ w = w' := by
  cases v
  · go_enter Tryz.func39, Tryz.ntmps39
    go_wp2
    go_ret
    exact ⟨rfl, rfl⟩
  · go_enter Tryz.func39, Tryz.ntmps39
    go_wp2
    go_ret
    exact ⟨rfl, rfl⟩

theorem low_u : u lowHalf = 4294967295 := by decide
set_option maxHeartbeats 400000 in
theorem split_exact (a : Ad) (w : World) :
    Calls Tryz.prog 63 #[.agg #[.int .u64 (u a.hi), .int .u64 (u a.lo), .bool a.v6]] w fun e w' => e = .returned (.agg #[.int .u64 (u (norm a).hi), .int .u64 (u (norm a).lo)]) ∧
      (w.alloc (.cells #[.int .u64 (u a.hi), .int .u64 (u a.lo), .bool a.v6] 25)).alloc (.cells #[.int .u64 (u (norm a).hi), .int .u64 (u (norm a).lo)] 80) = w' := by
  obtain ⟨h, l, v⟩ := a
  cases v
  · have hl : bits .andNot .u64 (u h) 4294967295 = u (norm ⟨h, l, false⟩).hi := by rw [← low_u, u_andNot]; rfl
    go_enter Tryz.func63, Tryz.ntmps63
    go_wp2
    exact bodyPost_ret (v := .agg #[.int .u64 (u (norm ⟨h, l, false⟩).hi), .int .u64 0]) (by simp [results, Tryz.results63, go_sem]) rfl ⟨rfl, rfl⟩
  · go_enter Tryz.func63, Tryz.ntmps63
    go_wp2
    exact bodyPost_ret (v := .agg #[.int .u64 (u h), .int .u64 (u l)]) (by simp [results, Tryz.results63, go_sem]) rfl ⟨rfl, rfl⟩
theorem split_any (a : Ad) (w : World) :
    Calls Tryz.prog 63 #[.agg #[.int .u64 (u a.hi), .int .u64 (u a.lo), .bool a.v6]] w fun e w' => e = .returned (.agg #[.int .u64 (u (norm a).hi), .int .u64 (u (norm a).lo)]) ∧ Below w.heap.size w w' :=
  (split_exact a w).mono fun _ _ ⟨he, hw⟩ => ⟨he, by rw [← hw]; go_grown⟩

set_option maxHeartbeats 400000 in
theorem whole_any (a : Ad) (w : World) :
    Calls Tryz.prog 33 #[.agg #[.int .u64 (u a.hi), .int .u64 (u a.lo)], .bool a.v6] w fun e w' => e = .returned (.agg #[.int .u64 (u (norm a).hi), .int .u64 (u (norm a).lo), .bool (norm a).v6]) ∧ Below w.heap.size w w' := by
  go_enter Tryz.func33, Tryz.ntmps33
  go_wp2_with fail
  refine (split_any a _).mono ?_
  rintro e w1 ⟨rfl, hw1⟩
  have zw1 := hw1.size
  have bw1 := below_of (w := w) (by go_grown) hw1
  try simp at zw1
  obtain ⟨pa, pb, pc, pd, pz⟩ := cells2 (b := w.heap.size) hw1 (by go_size) (by go_simp <;> rfl) (by go_simp <;> rfl) (by go_simp <;> rfl) (by go_simp <;> rfl)
  obtain ⟨qa, qb, qc, qd, qe, qf, qz⟩ := cells3 (b := w.heap.size + 1) hw1 (by go_size) (by go_simp <;> rfl) (by go_simp <;> rfl) (by go_simp <;> rfl) (by go_simp <;> rfl) (by go_simp <;> rfl) (by go_simp <;> rfl)
  clear hw1
  go_wp2
  refine bodyPost_ret (v := .agg #[.int .u64 (u (norm a).hi), .int .u64 (u (norm a).lo), .bool (norm a).v6]) (by simp [*, results, Tryz.results33, go_sem] <;> rfl) rfl ⟨rfl, ?_⟩
  go_grown

set_option maxHeartbeats 400000 in
theorem there_any (a : Ad) (i : Int) (w : World) :
    Calls Tryz.prog 98 #[.agg #[.int .u64 (u a.hi), .int .u64 (u a.lo), .bool a.v6], .int .i64 i] w fun e w' => e = .returned (.bool (inW a.v6 i)) ∧ Below w.heap.size w w' := by
  by_cases h0 : 0 ≤ i
  · have hin : Hid (inW a.v6 i = decide (i < wid a.v6)) := by simp [Hid, inW, h0]
    go_enter Tryz.func98, Tryz.ntmps98
    go_wp2_with fail
    refine (width_any a.v6 _).mono ?_
    rintro e w1 ⟨rfl, rfl⟩
    go_wp2
    go_ret
    exact ⟨ret_bool hin.out.symm, by go_grown⟩
  · have hin : Hid (inW a.v6 i = false) := by simp [Hid, inW, h0]
    go_enter Tryz.func98, Tryz.ntmps98
    go_wp2
    go_ret
    exact ⟨ret_bool hin.out.symm, by go_grown⟩

set_option maxHeartbeats 400000 in
theorem place_any (i : Int) (h0 : 0 ≤ i) (h1 : i < 128) (w : World) :
    Calls Tryz.prog 32 #[.int .i64 i] w fun e w' => e = .returned (.int .i64 (plc i)) ∧ w = w' := by
  go_enter Tryz.func32, Tryz.ntmps32
  go_wp2
  go_ret
  exact ⟨rfl, rfl⟩

set_option maxHeartbeats 400000 in
theorem within_any (a : Ad) (n : Int) (w : World) :
    Calls Tryz.prog 67 #[.agg #[.int .u64 (u a.hi), .int .u64 (u a.lo), .bool a.v6], .int .i64 n] w fun e w' => e = .returned (.int .i64 (clamp a.v6 n)) ∧ Below w.heap.size w w' := by
  by_cases h0 : n < 0
  all_goals
    go_enter Tryz.func67, Tryz.ntmps67
    go_wp2_with fail
    refine (width_any a.v6 _).mono ?_
    rintro e w1 ⟨rfl, rfl⟩
    have hw := wid_bd a.v6
    go_wp2
    all_goals
      go_ret
      exact ⟨ret_int (by unfold clamp; omega), by go_grown⟩

set_option maxHeartbeats 400000 in
theorem tail_any (n k : Int) (h0 : 0 ≤ n) (h1 : n ≤ 128) (h2 : 0 ≤ k) (h3 : k ≤ 1) (w : World) :
    Calls Tryz.prog 68 #[.int .i64 n, .int .i64 k] w fun e w' => e = .returned (.int .u64 (u (tl n k))) ∧ w = w' := by
  by_cases c0 : n - k * 64 < 0
  · have hr : Hid ((18446744073709551615 : Int) = u (tl n k)) := tl_of n k 0 (by unfold tlc; omega)
    go_enter Tryz.func68, Tryz.ntmps68
    go_wp2
    go_ret
    exact ⟨ret_int hr.out, rfl⟩
  · by_cases c1 : n - k * 64 ≤ 64
    · have hr : Hid ((18446744073709551615 : Int) / 2 ^ (n - k * 64).toNat = u (tl n k)) := tl_of n k (n - k * 64) (by unfold tlc; omega)
      go_enter Tryz.func68, Tryz.ntmps68
      go_wp2
      go_ret
      exact ⟨ret_int hr.out, rfl⟩
    · have hr : Hid ((0 : Int) = u (tl n k)) := tl_of n k 64 (by unfold tlc; omega)
      go_enter Tryz.func68, Tryz.ntmps68
      go_wp2
      go_ret
      exact ⟨ret_int hr.out, rfl⟩

end Go.Proofs.YtcbfppangiopeaaGreat
