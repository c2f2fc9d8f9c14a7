/-
  What the small functions of package addr return. No condition.
-/
import Derived.Test.YtfebhfghjdedhaaDoorProg
import Derived.Test.YtfebhfghjdedhaaDoorAd
namespace Go.Proofs.YtfebhfghjdedhaaDoor
open Go.RowKit

set_option maxHeartbeats 400000 in
theorem width_any (v : Bool) (w : World) :
    Calls Tryd.prog 48 #[.bool v] w fun e w' => e = .returned (.int .i64 (wid v)) ∧ w = w' := by
  cases v
  · go_enter Tryd.func48, Tryd.ntmps48
    go_wp2
    go_ret
    exact ⟨rfl, rfl⟩
  · go_enter Tryd.func48, Tryd.ntmps48
    go_wp2
    go_ret
    exact ⟨rfl, rfl⟩

theorem low_u : u lowHalf = 4294967295 := by decide
set_option maxHeartbeats 400000 in
theorem split_exact (a : Ad) (w : World) :
    Calls Tryd.prog 47 #[.agg #[.int .u64 (u a.hi), .int .u64 (u a.lo), .bool a.v6]] w fun e w' => e = .returned (.agg #[.int .u64 (u (norm a).hi), .int .u64 (u (norm a).lo)]) ∧
      (w.alloc (.cells #[.int .u64 (u a.hi), .int .u64 (u a.lo), .bool a.v6] 24)).alloc (.cells #[.int .u64 (u (norm a).hi), .int .u64 (u (norm a).lo)] 60) = w' := by
  obtain ⟨h, l, v⟩ := a
  cases v
  · have hl : bits .andNot .u64 (u h) 4294967295 = u (norm ⟨h, l, false⟩).hi := by rw [← low_u, u_andNot]; rfl
    go_enter Tryd.func47, Tryd.ntmps47
    go_wp2
    exact bodyPost_ret (v := .agg #[.int .u64 (u (norm ⟨h, l, false⟩).hi), .int .u64 0]) (by simp [results, Tryd.results47, go_sem]) rfl ⟨rfl, rfl⟩
  · go_enter Tryd.func47, Tryd.ntmps47
    go_wp2
    exact bodyPost_ret (v := .agg #[.int .u64 (u h), .int .u64 (u l)]) (by simp [results, Tryd.results47, go_sem]) rfl ⟨rfl, rfl⟩
theorem split_any (a : Ad) (w : World) :
    Calls Tryd.prog 47 #[.agg #[.int .u64 (u a.hi), .int .u64 (u a.lo), .bool a.v6]] w fun e w' => e = .returned (.agg #[.int .u64 (u (norm a).hi), .int .u64 (u (norm a).lo)]) ∧ Below w.heap.size w w' :=
  (split_exact a w).mono fun _ _ ⟨he, hw⟩ => ⟨he, by rw [← hw]; go_grown⟩

set_option maxHeartbeats 400000 in
theorem whole_any (a : Ad) (w : World) :
    Calls Tryd.prog 37 #[.agg #[.int .u64 (u a.hi), .int .u64 (u a.lo)], .bool a.v6] w fun e w' => e = .returned (.agg #[.int .u64 (u (norm a).hi), .int .u64 (u (norm a).lo), .bool (norm a).v6]) ∧ Below w.heap.size w w' := by
  go_enter Tryd.func37, Tryd.ntmps37
  go_wp2_with fail
  refine (split_any a _).mono ?_
  rintro e w1 ⟨rfl, hw1⟩
  have zw1 := hw1.size
  have bw1 := below_of (w := w) (by go_grown) hw1
  try simp at zw1
  obtain ⟨pa, pb, pc, pd, pz⟩ := cells2 (b := w.heap.size) hw1 (by go_size) (by go_simp <;> rfl) (by go_simp <;> rfl) (by go_simp <;> rfl) (by go_simp <;> rfl)
  obtain ⟨qa, qb, qc, qd, qe, qf, qz⟩ := cells3 (b := w.heap.size + 1) hw1 (by go_size) (by go_simp <;> rfl) (by go_simp <;> rfl) (by go_simp <;> rfl) (by go_simp <;> rfl) (by go_simp <;> rfl) (by go_simp <;> rfl)
  clear hw1
  go_wp2
  refine bodyPost_ret (v := .agg #[.int .u64 (u (norm a).hi), .int .u64 (u (norm a).lo), .bool (norm a).v6]) (by simp [*, results, Tryd.results37, go_sem] <;> rfl) rfl ⟨rfl, ?_⟩
  go_grown

set_option maxHeartbeats 400000 in
theorem place_any (i : Int) (h0 : 0 ≤ i) (h1 : i < 128) (w : World) :
    Calls Tryd.prog 36 #[.int .i64 i] w fun e w' => e = .returned (.int .i64 (plc i)) ∧ w = w' := by
  go_enter Tryd.func36, Tryd.ntmps36
  go_wp2
  go_ret
  exact ⟨rfl, rfl⟩

set_option maxHeartbeats 400000 in
theorem within_any (a : Ad) (n : Int) (w : World) :
    Calls Tryd.prog 74 #[.agg #[.int .u64 (u a.hi), .int .u64 (u a.lo), .bool a.v6], .int .i64 n] w fun e w' => e = .returned (.int .i64 (clamp a.v6 n)) ∧ Below w.heap.size w w' := by
  by_cases h0 : n < 0
  all_goals
    go_enter Tryd.func74, Tryd.ntmps74
    go_wp2_with fail
    refine (width_any a.v6 _).mono ?_
    rintro e w1 ⟨rfl, rfl⟩
    have hw := wid_bd a.v6
    go_wp2
    all_goals
      go_ret
      exact ⟨ret_int (by unfold clamp; omega), by go_grown⟩

set_option maxHeartbeats 400000 in
theorem tail_any (n k : Int) (h0 : 0 ≤ n) (h1 : n ≤ 128) (h2 : 0 ≤ k) (h3 : k ≤ 1) (w : World) :
    Calls Tryd.prog 75 #[.int .i64 n, .int .i64 k] w fun e w' => e = .returned (.int .u64 (u (tl n k))) ∧ w = w' := by
  by_cases c0 : n - k * 64 < 0
  · have hr : Hid ((18446744073709551615 : Int) = u (tl n k)) := tl_of n k 0 (by unfold tlc; omega)
    go_enter Tryd.func75, Tryd.ntmps75
    go_wp2
    go_ret
    exact ⟨ret_int hr.out, rfl⟩
  · by_cases c1 : n - k * 64 ≤ 64
    · have hr : Hid ((18446744073709551615 : Int) / 2 ^ (n - k * 64).toNat = u (tl n k)) := tl_of n k (n - k * 64) (by unfold tlc; omega)
      go_enter Tryd.func75, Tryd.ntmps75
      go_wp2
      go_ret
      exact ⟨ret_int hr.out, rfl⟩
    · have hr : Hid ((0 : Int) = u (tl n k)) := tl_of n k 64 (by unfold tlc; omega)
      go_enter Tryd.func75, Tryd.ntmps75
      go_wp2
      go_ret
      exact ⟨ret_int hr.out, rfl⟩

end Go.Proofs.YtfebhfghjdedhaaDoor
