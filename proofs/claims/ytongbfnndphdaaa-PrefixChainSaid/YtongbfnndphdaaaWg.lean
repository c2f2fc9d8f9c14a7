/-
  What Common of package addr returns. No condition.
-/
import Derived.Test.YtongbfnndphdaaaWf
import Derived.Test.YtongbfnndphdaaaLen
namespace Go.Proofs.Ytongbfnndphdaaa
open Go.RowKit

def commonv (a b : Ad) : Int :=
  if a.v6 = b.v6 then (if (norm a).hi = (norm b).hi then (if (norm a).lo = (norm b).lo then wid a.v6 else 64 + lead ((norm a).lo ^^^ (norm b).lo)) else lead ((norm a).hi ^^^ (norm b).hi)) else 0

theorem lead_bd (x : BitVec 64) : 0 ≤ lead x ∧ lead x ≤ 64 := by
  have := blen_le64 x
  unfold lead
  omega

set_option maxHeartbeats 2000000 in
theorem common_same (a b : Ad) (w : World) (hv : a.v6 = b.v6) :
    Calls Try.prog 50 #[.agg #[.int .u64 (u a.hi), .int .u64 (u a.lo), .bool a.v6], .agg #[.int .u64 (u b.hi), .int .u64 (u b.lo), .bool b.v6]] w fun e w' => e = .returned (.int .i64 (commonv a b)) ∧ Below w.heap.size w w' := by
  have hv' : (a.v6 == b.v6) = true := by simp [hv]
  have HV := Lib.hid hv
  clear hv
  go_enter Try.func50, Try.ntmps50
  go_upto_region 3 with fail
  go_cut [5, 6] (fun s t wx => TwoPairs w (norm a) (norm b) s t wx)
  case first =>
    go_region_held3 (fun w' => w'.cell? ⟨w.heap.size, 0, none⟩ = some (.int .u64 (u a.hi)) ∧ w'.cell? ⟨w.heap.size, 1, none⟩ = some (.int .u64 (u a.lo)) ∧ w'.cell? ⟨w.heap.size, 2, none⟩ = some (.bool a.v6) ∧ w'.cell? ⟨w.heap.size + 1, 0, none⟩ = some (.int .u64 (u b.hi)) ∧ w'.cell? ⟨w.heap.size + 1, 1, none⟩ = some (.int .u64 (u b.lo)) ∧ w'.cell? ⟨w.heap.size + 1, 2, none⟩ = some (.bool b.v6)) (first | (refine ⟨?_, ?_, ?_, ?_, ?_, ?_⟩ <;> simp (disch := first | (simp only [World.size_alloc]; done) | (simp only [World.size_alloc]; omega)) [cell_lt, cell_new] <;> rfl) | go_keep)
      (first | (go_at_call 54; refine (split_exact _ _).mono ?_; rintro e w' ⟨rfl, rfl⟩))
    all_goals (go_wp2_with fail; go_meet; refine ⟨_, _, rfl, rfl, ?_, ?_, ?_, ?_, ?_, ?_⟩)
    all_goals first | (simp (disch := first | (simp only [World.size_alloc]; done) | (simp only [World.size_alloc]; omega)) [cell_lt, cell_new] <;> rfl) | go_grown
  case rest =>
    obtain ⟨p, q, rfl, rfl, hp0, hp1, hq0, hq1, hva, hB⟩ := hcut
    have hva' : wc.cell? ⟨w.heap.size, 2, none⟩ = some (.bool a.v6) := hva
    clear hva
    by_cases h1 : (norm a).hi = (norm b).hi
    · have hz : (u (norm a).hi == u (norm b).hi) = true := by simp [h1]
      by_cases h2 : (norm a).lo = (norm b).lo
      · have hz2 : (u (norm a).lo == u (norm b).lo) = true := by simp [h2]
        have hr := Lib.hid (show commonv a b = wid a.v6 by unfold commonv; rw [if_pos HV.out, if_pos h1, if_pos h2])
        clear h1 h2
        go_wp2_with fail
        refine wp_loop_rounds 3 ?_
        rw [rounds_succ]
        go_wp2_with fail
        go_quiet (fail)
        go_wp2_with fail
        rw [rounds_succ]
        go_wp2_with fail
        go_quiet (fail)
        go_wp2_with fail
        rw [rounds_succ]
        go_wp2_with fail
        refine (width_any a.v6 _).mono ?_
        rintro e w1 ⟨rfl, rfl⟩
        go_wp2
        go_ret
        exact ⟨ret_int hr.out.symm, below_drewN hB _⟩
      · have hz2 : (u (norm a).lo == u (norm b).lo) = false := by simp [u_inj, h2]
        have hr := Lib.hid (show commonv a b = 64 + lead ((norm a).lo ^^^ (norm b).lo) by unfold commonv; rw [if_pos HV.out, if_pos h1, if_neg h2])
        have hx := u_xor (norm a).lo (norm b).lo
        obtain ⟨l0, l1⟩ := lead_bd ((norm a).lo ^^^ (norm b).lo)
        clear h1 h2
        go_wp2_with fail
        refine wp_loop_rounds 3 ?_
        rw [rounds_succ]
        go_wp2_with fail
        go_quiet (fail)
        go_wp2_with fail
        rw [rounds_succ]
        go_wp2_with fail
        go_quiet (fail)
        go_wp2_with fail
        go_quiet ((go_at_call 65; exact quiet_same2 (lead_any _ _)))
        go_wp2
        go_ret
        exact ⟨ret_int hr.out.symm, below_drewN (below_drewN (below_drewN hB _) _) _⟩
    · have hz : (u (norm a).hi == u (norm b).hi) = false := by simp [u_inj, h1]
      have hr := Lib.hid (show commonv a b = lead ((norm a).hi ^^^ (norm b).hi) by unfold commonv; rw [if_pos HV.out, if_neg h1])
      have hx := u_xor (norm a).hi (norm b).hi
      obtain ⟨l0, l1⟩ := lead_bd ((norm a).hi ^^^ (norm b).hi)
      clear h1
      go_wp2_with fail
      refine wp_loop_rounds 3 ?_
      rw [rounds_succ]
      go_wp2_with fail
      go_quiet (fail)
      go_wp2_with fail
      go_quiet ((go_at_call 65; exact quiet_same2 (lead_any _ _)))
      go_wp2
      go_ret
      exact ⟨ret_int hr.out.symm, below_drewN (below_drewN hB _) _⟩

set_option maxHeartbeats 400000 in
theorem common_unlike (a b : Ad) (w : World) (hv : a.v6 ≠ b.v6) :
    Calls Try.prog 50 #[.agg #[.int .u64 (u a.hi), .int .u64 (u a.lo), .bool a.v6], .agg #[.int .u64 (u b.hi), .int .u64 (u b.lo), .bool b.v6]] w fun e w' => e = .returned (.int .i64 (commonv a b)) ∧ Below w.heap.size w w' := by
  have hr := Lib.hid (show commonv a b = 0 by unfold commonv; rw [if_neg hv])
  have hv' : (a.v6 == b.v6) = false := by simp [hv]
  clear hv
  go_enter Try.func50, Try.ntmps50
  go_wp2
  go_ret
  exact ⟨ret_int hr.out.symm, by go_grown⟩

theorem common_any (a b : Ad) (w : World) :
    Calls Try.prog 50 #[.agg #[.int .u64 (u a.hi), .int .u64 (u a.lo), .bool a.v6], .agg #[.int .u64 (u b.hi), .int .u64 (u b.lo), .bool b.v6]] w fun e w' => e = .returned (.int .i64 (commonv a b)) ∧ Below w.heap.size w w' := by
  by_cases hv : a.v6 = b.v6
  · exact common_same a b w hv
  · exact common_unlike a b w hv

end Go.Proofs.Ytongbfnndphdaaa
