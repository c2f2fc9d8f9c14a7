/-
  What Compare and Common of package addr return. No condition.
-/
import Derived.Test.YtggceecolfebjaaWd
import Derived.Deep.RegionHeld3
import Derived.Deep.DeepCutAuto
namespace Go.Proofs.Ytggceecolfebjaa
open Go.RowKit

/-- Two pairs of words lie in two blocks. -/
def TwoPairs (w : World) (x y : Ad) (s t : Value) (wx : World) : Prop :=
  ∃ b c : Nat, s = .pointer (some ⟨b, 0, none⟩) ∧ t = .pointer (some ⟨c, 0, none⟩) ∧ wx.cell? ⟨b, 0, none⟩ = some (.int .u64 (u x.hi)) ∧ wx.cell? ⟨b, 1, none⟩ = some (.int .u64 (u x.lo)) ∧
    wx.cell? ⟨c, 0, none⟩ = some (.int .u64 (u y.hi)) ∧ wx.cell? ⟨c, 1, none⟩ = some (.int .u64 (u y.lo)) ∧ wx.cell? ⟨w.heap.size, 2, none⟩ = some (.bool x.v6) ∧ Below w.heap.size w wx

def cmpW (x y : BitVec 64) : Int := if u x < u y then -1 else if u y < u x then 1 else 0
def cmpv (a b : Ad) : Int :=
  if a.v6 = b.v6 then (if cmpW (norm a).hi (norm b).hi = 0 then cmpW (norm a).lo (norm b).lo else cmpW (norm a).hi (norm b).hi) else if b.v6 = true then -1 else 1

set_option maxHeartbeats 400000 in
theorem cmpW_any (x y : BitVec 64) (w : World) :
    Calls Try.prog 109 #[.int .u64 (u x), .int .u64 (u y)] w fun e w' => e = .returned (.int .i64 (cmpW x y)) ∧ w = w' := by
  by_cases h1 : u x < u y
  · have hr := Lib.hid (show cmpW x y = -1 from if_pos h1)
    have h2 : (u x == u y) = false := by simp; omega
    go_enter Try.func109, Try.ntmps109
    go_wp2
    go_ret
    exact ⟨ret_int hr.out.symm, rfl⟩
  · by_cases h2 : u y < u x
    · have hr := Lib.hid (show cmpW x y = 1 from (if_neg h1).trans (if_pos h2))
      go_enter Try.func109, Try.ntmps109
      go_wp2
      go_ret
      exact ⟨ret_int hr.out.symm, rfl⟩
    · have hr := Lib.hid (show cmpW x y = 0 from (if_neg h1).trans (if_neg h2))
      go_enter Try.func109, Try.ntmps109
      go_wp2
      go_ret
      exact ⟨ret_int hr.out.symm, rfl⟩

set_option maxHeartbeats 2000000 in
theorem cmp_same (a b : Ad) (w : World) (hv : a.v6 = b.v6) :
    Calls Try.prog 89 #[.agg #[.int .u64 (u a.hi), .int .u64 (u a.lo), .bool a.v6], .agg #[.int .u64 (u b.hi), .int .u64 (u b.lo), .bool b.v6]] w fun e w' => e = .returned (.int .i64 (cmpv a b)) ∧ Below w.heap.size w w' := by
  have hv' : (a.v6 == b.v6) = true := by simp [hv]
  have HV := Lib.hid hv
  clear hv
  go_enter Try.func89, Try.ntmps89
  go_upto_region 5 with fail
  go_cut [5, 6] (fun s t wx => TwoPairs w (norm a) (norm b) s t wx)
  case first =>
    go_region_held3 (fun w' => w'.cell? ⟨w.heap.size, 0, none⟩ = some (.int .u64 (u a.hi)) ∧ w'.cell? ⟨w.heap.size, 1, none⟩ = some (.int .u64 (u a.lo)) ∧ w'.cell? ⟨w.heap.size, 2, none⟩ = some (.bool a.v6) ∧ w'.cell? ⟨w.heap.size + 1, 0, none⟩ = some (.int .u64 (u b.hi)) ∧ w'.cell? ⟨w.heap.size + 1, 1, none⟩ = some (.int .u64 (u b.lo)) ∧ w'.cell? ⟨w.heap.size + 1, 2, none⟩ = some (.bool b.v6)) (first | (refine ⟨?_, ?_, ?_, ?_, ?_, ?_⟩ <;> simp (disch := first | (simp only [World.size_alloc]; done) | (simp only [World.size_alloc]; omega)) [cell_lt, cell_new] <;> rfl) | go_keep)
      (first | (go_at_call 68; refine (split_exact _ _).mono ?_; rintro e w' ⟨rfl, rfl⟩))
    all_goals (go_wp2_with fail; go_meet; refine ⟨_, _, rfl, rfl, ?_, ?_, ?_, ?_, ?_, ?_⟩)
    all_goals first | (simp (disch := first | (simp only [World.size_alloc]; done) | (simp only [World.size_alloc]; omega)) [cell_lt, cell_new] <;> rfl) | go_grown
  case rest =>
    obtain ⟨p, q, rfl, rfl, hp0, hp1, hq0, hq1, -, hB⟩ := hcut
    by_cases h1 : cmpW (norm a).hi (norm b).hi = 0
    · have hz : (cmpW (norm a).hi (norm b).hi == 0) = true := by simp [h1]
      by_cases h2 : cmpW (norm a).lo (norm b).lo = 0
      · have hz2 : (cmpW (norm a).lo (norm b).lo == 0) = true := by simp [h2]
        have hr := Lib.hid (show cmpv a b = 0 by unfold cmpv; rw [if_pos HV.out, if_pos h1, h2])
        clear h1 h2
        go_wp2_with fail
        refine wp_loop_rounds 3 ?_
        rw [rounds_succ]
        go_wp2_with fail
        go_quiet ((go_at_call 109; exact quiet_same (cmpW_any _ _ _)))
        go_wp2_with fail
        rw [rounds_succ]
        go_wp2_with fail
        go_quiet ((go_at_call 109; exact quiet_same2 (cmpW_any _ _ _)))
        go_wp2_with fail
        rw [rounds_succ]
        go_wp2
        go_ret
        exact ⟨ret_int hr.out.symm, below_drewN hB _⟩
      · have hz2 : (cmpW (norm a).lo (norm b).lo == 0) = false := by simp [h2]
        have hr := Lib.hid (show cmpv a b = cmpW (norm a).lo (norm b).lo by unfold cmpv; rw [if_pos HV.out, if_pos h1])
        clear h1 h2
        go_wp2_with fail
        refine wp_loop_rounds 3 ?_
        rw [rounds_succ]
        go_wp2_with fail
        go_quiet ((go_at_call 109; exact quiet_same (cmpW_any _ _ _)))
        go_wp2_with fail
        rw [rounds_succ]
        go_wp2_with fail
        go_quiet ((go_at_call 109; exact quiet_same2 (cmpW_any _ _ _)))
        go_wp2
        go_ret
        exact ⟨ret_int hr.out.symm, below_drewN hB _⟩
    · have hz : (cmpW (norm a).hi (norm b).hi == 0) = false := by simp [h1]
      have hr := Lib.hid (show cmpv a b = cmpW (norm a).hi (norm b).hi by unfold cmpv; rw [if_pos HV.out, if_neg h1])
      clear h1
      go_wp2_with fail
      refine wp_loop_rounds 3 ?_
      rw [rounds_succ]
      go_wp2_with fail
      go_quiet ((go_at_call 109; exact quiet_same (cmpW_any _ _ _)))
      go_wp2
      go_ret
      exact ⟨ret_int hr.out.symm, below_drewN hB _⟩

set_option maxHeartbeats 400000 in
theorem cmp_unlike (a b : Ad) (w : World) (hv : a.v6 ≠ b.v6) :
    Calls Try.prog 89 #[.agg #[.int .u64 (u a.hi), .int .u64 (u a.lo), .bool a.v6], .agg #[.int .u64 (u b.hi), .int .u64 (u b.lo), .bool b.v6]] w fun e w' => e = .returned (.int .i64 (cmpv a b)) ∧ Below w.heap.size w w' := by
  have hr := Lib.hid (show cmpv a b = if b.v6 = true then -1 else 1 by unfold cmpv; rw [if_neg hv])
  obtain ⟨h, l, v⟩ := a
  obtain ⟨h', l', v'⟩ := b
  cases v <;> cases v'
  · exact absurd rfl hv
  · clear hv
    go_enter Try.func89, Try.ntmps89
    go_wp2
    go_ret
    exact ⟨ret_int hr.out.symm, by go_grown⟩
  · clear hv
    go_enter Try.func89, Try.ntmps89
    go_wp2
    go_ret
    exact ⟨ret_int hr.out.symm, by go_grown⟩
  · exact absurd rfl hv

theorem cmp_any (a b : Ad) (w : World) :
    Calls Try.prog 89 #[.agg #[.int .u64 (u a.hi), .int .u64 (u a.lo), .bool a.v6], .agg #[.int .u64 (u b.hi), .int .u64 (u b.lo), .bool b.v6]] w fun e w' => e = .returned (.int .i64 (cmpv a b)) ∧ Below w.heap.size w w' := by
  by_cases hv : a.v6 = b.v6
  · exact cmp_same a b w hv
  · exact cmp_unlike a b w hv

end Go.Proofs.Ytggceecolfebjaa
